import PyProof.Rows.All
import PySem.Challenge.RW_mendedtree_k65_whole_edits
import HandS.ForMost
import HandS.ForExc
import HandS.IsInst
import HandS.Codes
import HandS.FStr
import HandS.FStrTup
import HandS.ExcInit
import HandS.ExcIs
import HandS.ExcField
import HandS.ClsMeth
import HandS.ExcValue
import HandS.Style
import HandS.OwnIter
import HandS.IterVal
import KE.KOpsOwn
import HandS.Walk
import HandS.More
set_option Elab.async false
set_option linter.all false
set_option maxRecDepth 100000
set_option maxHeartbeats 4000000
namespace L2
open PySem PySem.Spec PyProof.Rows
/-- what the written part says of an own base class whose __init__ is ValueError's -/
structure BaseC (K : PySem.W.Frag) (C0 : Addr) : Prop where
  ga : PySem.W.specialIn K (.ref C0) "__getattribute__" = some (some (.builtin "type.__getattribute__"))
  rd : PySem.W.readsIn K C0 (.type "type") = true
  fi : PySem.W.findCls K (.ref C0) (.type "type") "__init__" = some (.val (.builtin "ValueError.__init__"))
section
variable {X : Cx} {e : Expr} {es : List Expr} {ta : TA} {p1 p2 pos : Pos} {x : Str} {C0 : Addr}
/-- Base.__init__(self, ..), Base an own class over ValueError without an __init__ of its own -/
theorem pe_baseInit {later : Sem Bool} (hg : Gl X x) (hm : X.mg x = some (.ref C0)) (B : BaseC X.K C0) (ha : PA X (e :: es) ta) (hdb : (x == ("__debug__" : Str)) = false := by decide)
    (told : eval (.Call (.Attribute (.Name x p1) "__init__" p2) (e :: es) [] pos) X.env = (do
      let cls ← eval (.Name x p1) X.env
      standAt p2.atName
      let (m, bound) ← holding [cls] (getMethod cls "__init__" later)
      callWith pos m bound (backTo pos (starEach (e :: es) X.env)) (backToKw pos (keywordEach [] X.env))) := by rfl)
    (one : starEach (e :: es) X.env = (false, eval e X.env) :: starEach es X.env := by rfl) (plain : (backTo pos (starEach es X.env)).any (·.1) = false := by rfl) :
    PE X (.Call (.Attribute (.Name x p1) "__init__" p2) (e :: es) [] pos) (tVeI X.K ta) := by
  constructor
  intro pins s σ H Q I h
  refine PySem.W.methodCall_KW (ld_glob I hg hm (PySem.W.method_cls I.kIn B.ga (PySem.W.cls_value I.kIn B.rd B.fi rfl ?_)) hdb) told
  refine PyProof.Rows.callWith_method1 (id := "ValueError.__init__") (thn (ha.run pos pins _ σ H _ (I.tok _) h) ?_) one plain
  rintro us s1 ⟨vs, H1, I1, r1, a, C, ws, rfl, few, T, here, q⟩
  cases r1 with
  | @cons _ u _ us' ra rw' =>
    have eu : u = Value.ref a := ra
    subst eu
    have n : us'.length ≤ sizeLine := by
      have := Paired.length rw'
      rw [sizeLine_eq]
      omega
    exact oinit_ok T I1 here n fun s2 I2 => ⟨.non, H1, I2, rfl, q⟩
end
end L2

namespace PySem.W
open PySem PySem.Spec PySem.Calls PyProof.Rows
section
variable {prog : Program} {w : World} {A : Around} {E : Value → Shared → Prop} {K : Frag} {D : Addr}
/-- what BaseException's reading of __class__ gives, asked of an error with or without a dict -/
theorem bexc_class {x : Addr} {ox : Obj} {od : Option Obj} {s : Shared} {tk : Tok} {R : Value → Shared → Prop} (C : L2.ExcC K D) (X : K.In s.heap) (I : InstAt s.heap x ox D od) (q : R (.ref D) s)
    (hf : findObj K D od "__class__" = some (.bind (.builtin "getset_descriptor.__get__") (.builtin "object.__class__"))) :
    wpAny (model prog w) A (call (.builtin "BaseException.__getattribute__") [.ref x, .str "__class__" tk]) R E s := by
  have ty := I.type (M := model prog w)
  have isExc : Looks (model prog w) s.heap (isInstance (.ref x) (.type "BaseException")) true := ty.andThen (looks_subIn X C.hs)
  refine wpAny_call (codeAny_call_builtin PySem.F.excAttr_ValueError.ga.plain PySem.F.entry_bexc_ga (@check_slot (model prog w) _ _ s "BaseException.__getattribute__" "BaseException" "__getattribute__" (.ref x) [.str "__class__" tk] [] _ (by decide +kernel) (by decide +kernel) isExc (PySem.F.args_bexc_ga (.ref x) (.str "__class__" tk)) ?_))
  unfold Builtin.«object.__getattribute__»
  refine wpAny_bind (wpAny_of_eq (a := ((Value.ref x : Value), [Value.str "__class__" tk])) (by first | rfl | (simp only [slotArgs]; rfl)) (wpAny_bind (wpAny_pure (wpAny_bind (ty.at (wpAny_bind ((looks_find (M := model prog w) X I hf).at ?_)))))))
  exact wpAny_bind (wpAny_holding (wpAny_call (class_get (ox := ox) (od := od) X I C.hm (wpAny_pure (by first | exact wpAny_pure q | exact q)))))
theorem if_no {b : Bool} {m n : Sem Value} {R : Value → Shared → Prop} {F : Value → Shared → Prop} {u : Shared} (e : b = false) (k : wpAny (model prog w) A n R F u) : wpAny (model prog w) A (if b = true then m else n) R F u := by
  subst e
  exact k
theorem class_of_err {x : Addr} {ox od : Obj} {s : Shared} {Q : Option Value → Shared → Prop} (C : L2.ExcC K D) (X : K.In s.heap) (I : InstAt s.heap x ox D (some od)) (q : Q (some (.ref D)) { s with toks := s.toks + 1 }) :
    wpAny (model prog w) A (getAttr? (.ref x) "__class__") Q E s := by
  have some_cls : (clsIn K D).isSome = true := by
    obtain ⟨c, e, _⟩ := any_some C.hd
    rw [e] <;> rfl
  have found := findObj_data (od := od) some_cls C.ha C.hn C.ht
  have other : (Value.builtin "BaseException.__getattribute__" == Value.builtin "object.__getattribute__") = false := by decide +kernel
  obtain ⟨hp, g, d, t, os⟩ := s
  have ty := I.type (M := model prog w)
  unfold getAttr? getAttrBy? getAttrBy
  refine wpAny_bind (wpAny_mkText (wpAny_bind (wpAny_attempt (wpAny_holding (wpAny_bind (ty.at (wpAny_bind ((looks_findIn (M := model prog w) X C.hg).at ?_))))))))
  refine if_no (by rw [other]; rfl) ?_
  unfold getAttrByItsOwn hookBefore
  refine wpAny_bind ?_
  rw [if_pos (by rfl : onTheHeap (Value.ref D) = true)]
  refine (looks_findIn (M := model prog w) X C.hk).at (wpAny_bind (wpAny_attempt (wpAny_holding ?_)))
  unfold callGetattribute
  refine if_no (by rfl) ?_
  unfold boundAndCalled
  rw [PySem.F.excAttr_ValueError.ga.bind (.ref x)]
  refine wpAny_bind (wpAny_pure (bexc_class C X I ?_ found))
  first
    | exact wpAny_pure (wpAny_pure q)
    | exact wpAny_bind (wpAny_pure (wpAny_pure q))
    | exact wpAny_pure q
    | exact wpAny_pure (wpAny_bind (wpAny_pure (wpAny_pure q)))
/-- isinstance of an error that has a dict -/
theorem own_kitx {x : Addr} {ox : Obj} (C : L2.ExcC K D) : KitX K (.ref x) (.ref D) (fun h => ∃ od, InstAt h x ox D (some od)) :=
  { ty := fun _ _ _ ⟨_, I⟩ => I.type
    it := fun M h X _ A' Q' E' s' k q => (mc_isType (s := s') (fun b o e => k b o (X b o e)) C.hd).at q
    ne := (handS_kitx_exc (x := x) (ox := ox) C.hg C.hk C.hs C.hd C.ha C.hn C.ht C.hm).ne
    ca := fun X ⟨_, I⟩ q => class_of_err C X I q }
end
end PySem.W
namespace L2
open PySem PySem.Spec PyProof.Rows
section
variable {X : Cx} {a D dd : Addr} {oe : Obj} {pn : List (Addr × Obj)}
theorem suite_inst {pins : List (Addr × Obj)} {σ : L2.St} {H : Hp} {s : Shared} {fs : List (Str × V)} (I : Inv (X.suite a ((a, oe) :: pn)) pins σ H s) (hz : Zc (.ref D) (some dd) oe) (hf : ∃ vs, oe.data = .fields vs) (hx : H dd = some (.xd fs)) :
    ∃ od, PySem.W.InstAt s.heap a oe D (some od) := by
  have here := (I.pin (a, oe) (by simp [Cx.suite])).1
  obtain ⟨vs, hv⟩ := hf
  have hdx : ObjOk X.prog X.w H s.heap dd (.xd fs) := I.hok dd _ hx
  obtain ⟨m, names, _⟩ := hdx
  obtain ⟨o, ho, _⟩ := lookIn_ns names
  refine ⟨o, here, hz.1, ?_, by rw [hz.2]; exact ho⟩
  unfold PySem.W.notCls
  rw [hv] <;> rfl
/-- isinstance(e, c), e the exception that the suite holds, with its dict at dd -/
def rIsD (K : PySem.W.Frag) (D a dd : Addr) : List V → Hp → VK → Prop := fun xs H Q => ∃ (c : V) (cv : Value) (b : Bool) (fs : List (Str × V)), xs = [.ref a, c] ∧ ClsV c cv ∧ H dd = some (.xd fs) ∧ PySem.W.kitOne K (.ref D) cv = some b ∧ Q (.bl b) H
theorem call_isD (C : ExcC X.K D) (hz : Zc (.ref D) (some dd) oe) (hf : ∃ vs, oe.data = .fields vs) : CallR (X.suite a ((a, oe) :: pn)) (.builtin "isinstance") (rIsD X.K D a dd) := by
  rintro pins s σ H xs us Q I r ⟨c, cv, b, fs, rfl, hcv, hx, e, q⟩
  obtain ⟨w1, w2, rfl, p1, p2⟩ := vals2 r
  have e1 : w1 = Value.ref a := p1
  have e2 := hcv.eq p2
  subst e1 e2
  exact PySem.W.kia_one (PySem.W.own_kitx C) I.kIn (suite_inst I hz hf hx) e nofun fun tk => ⟨.bl b, H, I.kept (t' := tk) fun _ _ z => z, rfl, q⟩
/-- isinstance(e, (c1, c2, ..)) -/
def rIsDT (K : PySem.W.Frag) (D a dd : Addr) : List V → Hp → VK → Prop := fun xs H Q => ∃ (tp : Addr) (cs : List V) (us : List Value) (b : Bool) (fs : List (Str × V)), xs = [.ref a, .ref tp] ∧ H tp = some (.tup cs) ∧ Paired ClsV cs us ∧ H dd = some (.xd fs) ∧ PySem.W.kitAny K (.ref D) us = some b ∧ Q (.bl b) H
theorem call_isDT (C : ExcC X.K D) (hz : Zc (.ref D) (some dd) oe) (hf : ∃ vs, oe.data = .fields vs) : CallR (X.suite a ((a, oe) :: pn)) (.builtin "isinstance") (rIsDT X.K D a dd) := by
  rintro pins s σ H xs us Q I r ⟨tp, cs, ws, b, fs, rfl, hT, k, hx, e, q⟩
  obtain ⟨w1, w2, rfl, p1, p2⟩ := vals2 r
  have e1 : w1 = Value.ref a := p1
  have e2 : w2 = Value.ref tp := p2
  subst e1 e2
  have hok : ObjOk X.prog X.w H s.heap tp (.tup cs) := I.hok tp _ hT
  obtain ⟨_, its, rv, ⟨oc, od, dt, sl⟩, g1, g2, n, g3⟩ := hok
  have e3 := ClsV.all k rv
  dsimp only at g2 g3
  subst e3 g2 g3
  exact PySem.W.kia_tup (PySem.W.own_kitx C) I.kIn (suite_inst I hz hf hx) g1 e nofun fun tk => ⟨.bl b, H, I.kept (t' := tk) fun _ _ z => z, rfl, q⟩
end
end L2

namespace L2
open PySem PySem.Spec PyProof.Rows
/-- an own error class (name) at C, with an __init__ of its own at fI -/
structure ErrK (K : PySem.W.Frag) (mg : Str → Option Value) (name : Str) (C fI : Addr) : Prop where
  g : mg name = some (.ref C)
  oex : OexC K C
  iC : PySem.W.findIn K (.ref C) "__init__" = some (some (.ref fI))
  tI : PySem.W.typeIn K (.ref fI) = some (.type "function")
  exc : ExcC K C
  xf : XfC K C
  self : PySem.W.exmOne K (.ref C) (.ref C) = some true
theorem errK_mk {K : PySem.W.Frag} {mg : Str → Option Value} {name : Str} {C fI : Addr}
    {nm q : Str} {N : Addr} {bs bm : List Value} {sn : List Str} {sub : List Value} {ab : Bool} {col : Option Bool} {dd : Option Addr} {m0 m1 m2 m3 m5 : Option Value}
    (g : mg name = some (.ref C)) (xL : K.lookup C = some (excClassObj nm q C N bs bm true sn sub ab col dd m0 m1 m2 m3 m5 "ValueError.__new__")) (hbm : PySem.HandSPX.refsVE bm = true)
    (sa : PySem.W.findIn K (.ref C) "__setattr__" = some (some (.builtin "object.__setattr__"))) (ga : PySem.W.findIn K (.ref C) "__getattribute__" = some (some (.builtin "BaseException.__getattribute__"))) (gg : PySem.W.findIn K (.ref C) "__getattr__" = some none)
    (iC : PySem.W.findIn K (.ref C) "__init__" = some (some (.ref fI))) (tI : PySem.W.typeIn K (.ref fI) = some (.type "function")) (kC : PySem.W.keepIn K (.ref C) = true) (eC : PySem.W.subIn K (.ref C) (.type "BaseException") = some true) (tC : PySem.W.typeIn K (.ref C) = some (.type "type"))
    (hd : PySem.W.hasDictIn K C = true) (ha : PySem.W.findIn K (.ref C) "__class__" = some (some (.builtin "object.__class__"))) (hn : PySem.W.specialIn K (.builtin "object.__class__") "__get__" = some (some (.builtin "getset_descriptor.__get__")))
    (ht : PySem.W.takesIn K (.builtin "object.__class__") = some true) (hm : PySem.W.mroIn K C (.type "object") = some true) (sC : PySem.W.subIn K (.ref C) (.ref C) = some true) : ErrK K mg name C fI :=
  { g := g, oex := ⟨⟨nm, q, N, bs, bm, sn, sub, ab, col, dd, m0, m1, m2, m3, m5, xL, hbm⟩, sa, eC, tC, kC⟩, iC := iC, tI := tI, exc := ⟨ga, gg, eC, hd, ha, hn, ht, hm⟩, xf := ⟨ga, gg, eC, hd⟩, self := PySem.W.exm_ref eC hd tC sC }
/-- what making such an error with one field leaves: an error whose dict holds the field, all else as it was -/
def spInit1 (f : Str) (C : Addr) (ok : V → Prop) : Sp := fun vs H Q _ => ∃ (a : Addr) (v : V), vs = [.ref a, v] ∧ ok v ∧ H a = some (exo a C none) ∧ ∀ dx, H dx = none → dx ≠ a → Q .non (upd (upd H dx (exd dx [(f, v)])) a (exo a C (some dx)))
theorem made1 {H : Hp} {a dx C : Addr} {f : Str} {v : V} {fs : List (Str × V)} (na : H a = none) (nd : (upd H a (exo a C none)) dx = none) (hne : dx ≠ a) :
    H dx = none ∧ Same H (upd (del (upd (upd (upd H a (exo a C none)) dx (exd dx fs)) a (exo a C (some dx))) a) dx (.xd fs)) ∧ (upd (del (upd (upd (upd H a (exo a C none)) dx (exd dx fs)) a (exo a C (some dx))) a) dx (.xd fs)) dx = some (.xd fs) := by
  have nd' : H dx = none := by
    rw [upd_ne hne] at nd
    exact nd
  refine ⟨nd', fun b o e => ?_, upd_same⟩
  have h1 : b ≠ dx := ne_of_none e nd'
  have h2 : b ≠ a := ne_of_none e na
  rw [upd_ne h1, del_ne h2, upd_ne h2, upd_ne h1, upd_ne h2]
  exact e
/-- the reading of C(e), from such a promise of __init__ -/
theorem mk1 {C : Addr} {f : Str} {ok : V → Prop} {ta : TA} {σ : L2.St} {H : Hp} {Q : XK} (h : ta σ H fun vs H1 => ∃ v, vs = [v] ∧ ok v ∧ ∀ d H', Same H1 H' → H1 d = none → H' d = some (.xd [(f, v)]) → Q (.ref C) (some d) H')
    (mono : ∀ Q1 Q2 : List V → Hp → Prop, (∀ vs H1, Q1 vs H1 → Q2 vs H1) → ta σ H Q1 → ta σ H Q2) : tMkO C (spInit1 f C ok) [] ta σ H Q := by
  refine mono _ _ (fun vs H1 h1 => ?_) h
  obtain ⟨v, rfl, hv, q⟩ := h1
  refine ⟨by show 1 ≤ 1000; decide, fun a na => ⟨a, v, rfl, hv, upd_same, fun dx nd hne => ⟨rfl, dx, [(f, v)], upd_same, ?_, ?_, ?_⟩⟩⟩
  · rw [upd_ne hne, upd_same]
  · exact (made1 (f := f) (v := v) (fs := [(f, v)]) na nd hne).1
  · obtain ⟨m1, m2, m3⟩ := made1 (f := f) (v := v) (fs := [(f, v)]) na nd hne
    exact q dx _ m2 m1 m3
end L2
namespace L2
open PySem PySem.Spec PyProof.Rows
theorem kit_refT {K : PySem.W.Frag} {C D : Addr} (h : PySem.W.subIn K (.ref C) (.ref D) = some true) (i : PySem.W.isClsIn K D = true) (t : PySem.W.typeIn K (.ref D) = some (.type "type")) : PySem.W.kitOne K (.ref C) (.ref D) = some true := by
  unfold PySem.W.kitOne
  split
  · rfl
  · show (if ((PySem.W.clsIn K D).isSome && PySem.W.typeIn K (.ref D) == some (.type "type")) = true then PySem.W.subIn K (.ref C) (.ref D) else none) = some true
    have i' : (PySem.W.clsIn K D).isSome = true := i
    rw [i', t, h]
    rfl
theorem kit_refF {K : PySem.W.Frag} {C D : Addr} (h0 : PySem.W.subIn K (.ref C) (.ref C) = some true) (h : PySem.W.subIn K (.ref C) (.ref D) = some false) (i : PySem.W.isClsIn K D = true) (t : PySem.W.typeIn K (.ref D) = some (.type "type")) : PySem.W.kitOne K (.ref C) (.ref D) = some false := by
  have hne : (Value.ref C == Value.ref D) = false := by
    rw [beq_eq_false_iff_ne]
    intro e
    have e' : C = D := Value.ref.inj e
    rw [← e', h0] at h
    cases h
  unfold PySem.W.kitOne
  rw [hne]
  show (if ((PySem.W.clsIn K D).isSome && PySem.W.typeIn K (.ref D) == some (.type "type")) = true then PySem.W.subIn K (.ref C) (.ref D) else none) = some false
  have i' : (PySem.W.clsIn K D).isSome = true := i
  rw [i', t, h]
  rfl
theorem kit_refTy {K : PySem.W.Frag} {C : Addr} {T : String} {b : Bool} (h : PySem.W.subIn K (.ref C) (.type T) = some b) (m : PySem.W.kitMeta T = true) : PySem.W.kitOne K (.ref C) (.type T) = some b := by
  unfold PySem.W.kitOne
  have hne : (Value.ref C == Value.type T) = false := by
    rw [beq_eq_false_iff_ne]
    intro e
    cases e
  rw [hne]
  show (if PySem.W.kitMeta T = true then PySem.W.subIn K (.ref C) (.type T) else none) = some b
  rw [if_pos m, h]
end L2

namespace L2
open PySem PySem.Spec PyProof.Rows
theorem passX0 {P : Program} {w : World} {X : Cx} (e1 : X.prog = P) (e2 : X.w = w) : Passes (L2.CX P w) X E0 := fun _ _ _ _ _ _ _ c => by
  obtain ⟨_, _, _, _, _, _, _, _, _, _, _, _, z⟩ := c
  exact z.elim
section
variable {X : Cx} {a : Addr} {oe : Obj} {pn : List (Addr × Obj)} {cls : Value} {d : Option Addr}
/-- isinstance(e, c) in the suite that holds e -/
def rIsX (K : PySem.W.Frag) (a : Addr) (cls : Value) (d : Option Addr) : List V → Hp → VK → Prop := fun xs H Q => ∃ (D dd : Addr), cls = .ref D ∧ d = some dd ∧ ExcC K D ∧ rIsD K D a dd xs H Q
theorem call_isX (hz : Zc cls d oe) (hf : ∃ vs, oe.data = .fields vs) : CallR (X.suite a ((a, oe) :: pn)) (.builtin "isinstance") (rIsX X.K a cls d) := by
  rintro pins s σ H xs us Q I r ⟨D, dd, rfl, rfl, C, h⟩
  exact call_isD C hz hf pins s σ H xs us Q I r h
/-- isinstance(e, (c1, ..)) -/
def rIsXT (K : PySem.W.Frag) (a : Addr) (cls : Value) (d : Option Addr) : List V → Hp → VK → Prop := fun xs H Q => ∃ (D dd : Addr), cls = .ref D ∧ d = some dd ∧ ExcC K D ∧ rIsDT K D a dd xs H Q
theorem call_isXT (hz : Zc cls d oe) (hf : ∃ vs, oe.data = .fields vs) : CallR (X.suite a ((a, oe) :: pn)) (.builtin "isinstance") (rIsXT X.K a cls d) := by
  rintro pins s σ H xs us Q I r ⟨D, dd, rfl, rfl, C, h⟩
  exact call_isDT C hz hf pins s σ H xs us Q I r h
end
end L2

namespace L2
open PySem PySem.Spec PyProof.Rows
/-- an error object of the own class at C, held as a value, its dict at d -/
def erv (a C : Addr) (d : Option Addr) : HO := .ext fun hp => ∃ (oe : Obj) (vs : Array Value), hp.get? a = some oe ∧ Zc (.ref C) d oe ∧ oe.data = .fields vs
section
variable {X : Cx} {pins : List (Addr × Obj)} {σ : L2.St} {H : Hp} {s : Shared} {a C dd : Addr} {fs : List (Str × V)}
theorem erv_ok {P : Program} {w : World} {hp : Heap} {d : Option Addr} {oe : Obj} {vs : Array Value} (h1 : hp.get? a = some oe) (h2 : Zc (.ref C) d oe) (h3 : oe.data = .fields vs) : ObjOk P w H hp a (erv a C d) :=
  ⟨⟨oe, vs, h1, h2, h3⟩, ⟨oe, h1⟩, fun _ _ ⟨o1, v1, k1, k2, k3⟩ more => ⟨o1, v1, more _ k1, k2, k3⟩⟩
/-- what makes an error also gives it as a value -/
theorem pe_ofMk {e : Expr} {t : L2.St → Hp → XK → Prop} (h : PMk X e t) :
    PE X e (fun σ H Q => t σ H fun cls d H1 => ∃ C, cls = .ref C ∧ ∀ a, H1 a = none → Q (.ref a) (upd H1 a (erv a C d))) := by
  constructor
  intro pins s σ H Q I hw
  refine thn (h pins s σ H _ I hw) ?_
  rintro u s1 ⟨a, oe, vs, sI, H1, cls, d, eu, I1, kp, n1, ho, hz, hd, _, n2, os, bare, _, C, ec, q⟩
  subst eu
  subst ec
  refine ⟨.ref a, upd H1 a (erv a C d), ?_, rfl, q a n2⟩
  exact I1.call' (ch := []) os (Un.laidN kp n1 n2) (I1.hok.laidN kp n2 (erv_ok ho hz hd)) bare (by simp)
/-- where the error and its dict stand -/
theorem erv_inst (I : Inv X pins σ H s) (ha : H a = some (erv a C (some dd))) (hx : H dd = some (.xd fs)) :
    ∃ (oe : Obj) (m : Str → Option Value) (od : Option Obj), PySem.W.InstAt s.heap a oe C od ∧ (∃ o, od = some o) ∧ (∀ n, PySem.W.lookIn n (od.getD oe) = some (m n)) ∧ ∀ f, RelO (fs.lookup f) (m f) := by
  have k1 : ObjOk X.prog X.w H s.heap a (.ext fun hp => ∃ (oe : Obj) (vs : Array Value), hp.get? a = some oe ∧ Zc (.ref C) (some dd) oe ∧ oe.data = .fields vs) := I.hok a _ ha
  obtain ⟨⟨oe, vs, g1, g2, g3⟩, _⟩ := k1
  have k2 : ObjOk X.prog X.w H s.heap dd (.xd fs) := I.hok dd _ hx
  obtain ⟨m, k3, k4⟩ := k2
  obtain ⟨o, k5, k6⟩ := lookIn_ns k3
  refine ⟨oe, m, some o, ⟨g1, g2.1, ?_, ?_⟩, ⟨o, rfl⟩, k6, k4⟩
  · unfold PySem.W.notCls
    rw [g3] <;> rfl
  · rw [g2.2]
    exact k5
/-- isinstance(x, c), x an error that is held as a value -/
def rIsV (K : PySem.W.Frag) : List V → Hp → VK → Prop := fun xs H Q => ∃ (a C dd : Addr) (fs : List (Str × V)) (c : V) (cv : Value) (b : Bool), xs = [.ref a, c] ∧ H a = some (erv a C (some dd)) ∧ H dd = some (.xd fs) ∧ ExcC K C ∧ ClsV c cv ∧ PySem.W.kitOne K (.ref C) cv = some b ∧ Q (.bl b) H
theorem call_isV : CallR X (.builtin "isinstance") (rIsV X.K) := by
  rintro pins s σ H xs us Q I r ⟨a, C, dd, fs, c, cv, b, rfl, ha, hx, T, hcv, e, q⟩
  obtain ⟨w1, w2, rfl, p1, p2⟩ := vals2 r
  have e1 : w1 = Value.ref a := p1
  have e2 := hcv.eq p2
  subst e1 e2
  obtain ⟨oe, m, od, J, ⟨o, eo⟩, _⟩ := erv_inst I ha hx
  subst eo
  exact PySem.W.kia_one (PySem.W.own_kitx T) I.kIn ⟨o, J⟩ e nofun fun tk => ⟨.bl b, H, I.kept (t' := tk) fun _ _ z => z, rfl, q⟩
/-- x.f, x an error that is held as a value -/
def tFxE (K : PySem.W.Frag) (f : Str) (te : TE) : TE := fun σ H Q => te σ H fun x H1 => ∃ (a C dd : Addr) (fs : List (Str × V)) (v : V), x = .ref a ∧ XfC K C ∧ PySem.W.findIn K (.ref C) f = some none ∧ H1 a = some (erv a C (some dd)) ∧ H1 dd = some (.xd fs) ∧ fs.lookup f = some v ∧ Q v H1
theorem pe_fxE {e : Expr} {te : TE} {pos : Pos} {n : Str} (he : PE X e te) (hb : attributeBase e n X.env (eval e X.env) = eval e X.env := by rfl) : PE X (.Attribute e n pos) (tFxE X.K n te) := by
  constructor
  intro pins s σ H Q I h
  refine attr_of hb (thn (he.run pins s σ H _ I h) ?_)
  rintro y s1 ⟨x, H1, I1, rx, a, C, dd, fs, v, ex, T, hno, ha, hx, l, q⟩
  subst ex
  have ey : y = Value.ref a := rx
  subst ey
  obtain ⟨oe, m, od, J, ⟨o, eo⟩, k1, k2⟩ := erv_inst I1 ha hx
  subst eo
  have k3 := k2 n
  rw [l] at k3
  obtain ⟨val, k4, k5⟩ := RelO.some_of k3
  have k6 : PySem.W.lookIn n o = some (some val) := by
    rw [← k4]
    exact k1 n
  exact HandSPX.exc_get I1.kIn J T.ga T.gg T.exC (PySem.W.findObj_own T.hdC hno rfl k6) (handed_of k5) ⟨v, H1, I1.tok _, k5, q⟩
end
end L2

namespace L2
open PySem PySem.Spec PyProof.Rows
/-- a flat item as repr tells it -/
def sText : V → Str
  | .int i => toString i
  | .str y => reprText y
  | _ => Str.empty
def sOk : V → Prop
  | .int i => i.natAbs.log2 < 1920
  | .str y => ∀ c ∈ y.cps.toList, c < 16 ^ 8
  | _ => False
def sCost : V → Nat
  | .int _ => 1925
  | .str y => 10 * y.length + 4
  | _ => 0
theorem sText_len {v : V} (h : sOk v) : (sText v).length + 2 ≤ sCost v := by
  cases v with
  | int i =>
    have := PyProof.Rows.int_text_len_1921 (i := i) h
    show (Str.ofString (toString i)).length + 2 ≤ 1925
    omega
  | str y =>
    have := StrLaws.reprText_len y h
    show (reprText y).length + 2 ≤ 10 * y.length + 4
    omega
  | _ => exact False.elim h
def sCosts (l : List V) : Nat := (l.map sCost).sum
theorem sCosts_cons (v : V) (l : List V) : sCosts (v :: l) = sCost v + sCosts l := by
  unfold sCosts
  rw [List.map_cons, List.sum_cons]
theorem s_piled : ∀ l : List V, (∀ v ∈ l, sOk v) → piled (l.map sText) ≤ sCosts l
  | [], _ => Nat.zero_le _
  | v :: l, h => by
    have h1 := sText_len (h v List.mem_cons_self)
    have h2 := s_piled l fun x hx => h x (List.mem_cons_of_mem _ hx)
    rw [List.map_cons, piled_cons, sCosts_cons]
    omega
theorem repr_allS {prog : Program} {w : World} : ∀ {l : List V} {its : List Value}, Vals l its → (∀ v ∈ l, sOk v) → sCosts l ≤ sizeLine → ReprAll prog w its (l.map sText)
  | [], _, r, _, _ => by
    cases r
    exact .nil
  | v :: l, _, r, h, hz => by
    cases r with
    | @cons _ u _ us r1 r2 =>
      have h1 := h v List.mem_cons_self
      have hl := sText_len h1
      rw [sCosts_cons] at hz
      have k : ReprIs prog w u (sText v) := by
        cases v with
        | int i =>
          obtain ⟨t, rfl⟩ := r1
          exact ReprIs.int t h1
        | str y =>
          obtain ⟨t, rfl⟩ := r1
          exact ReprIs.str y t (by have : (reprText y).length + 2 ≤ sCost (.str y) := hl; omega)
        | _ => exact False.elim h1
      exact .cons k (repr_allS r2 (fun x hx => h x (List.mem_cons_of_mem _ hx)) (by omega))
section
variable {X : Cx}
/-- {t}, t a tuple of ints and texts: some text -/
def tFmtS (K : PySem.W.Frag) (te : TE) : TE := fun σ H Q => te σ H fun x H1 => ∃ (a : Addr) (l : List V), x = .ref a ∧ SqT K H1 a l ∧ (∀ v ∈ l, sOk v) ∧ sCosts l + 7 ≤ sizeLine ∧ ∀ m : Str, m.length ≤ sCosts l + 7 → Q (.str m) H1
theorem pe_fmtS {e : Expr} {te : TE} {pos : Pos} {k : Nat} (hr : Room k X.A) (he : PE X e te) : PE X (.FormattedValue e (-1) none pos) (tFmtS X.K te) := by
  refine ⟨fun pins s σ H Q I h => ?_⟩
  refine wpAny_FormattedValue_plain (thn (he.run pins s σ H _ I h) fun v s1 hv => ?_)
  obtain ⟨x, H1, I1, r1, a, l, rfl, ht, hc, hz, q⟩ := hv
  cases r1
  obtain ⟨its, rv, ⟨o, ho, hcl, n, hd⟩, _⟩ := I1.tuple ht
  have hp := s_piled l hc
  have htx := fmt_text (l.map sText)
  have hu := hr.units
  exact fmt_tuple (ts := l.map sText) (by omega) ho hcl hd (repr_allS rv hc (by omega)) (by omega) fun m u tk hm => ⟨.str m, H1, I1.tok _, ⟨u, rfl⟩, q m (by omega)⟩
end
/-- x = e and what follows, e's reading first -/
theorem seq_asg {te : TE} {g : TG} {b : TS} {D : Ends} {σ : L2.St} {H : Hp} (h : te σ H fun x H1 => g x σ H1 fun σ2 H2 => b D σ2 H2) : tSeq (tAsg te g) b D σ H := h
/-- what making an error leaves: an error whose dict holds the fields fs, all else as it was -/
def spInitN (C : Addr) (n : Nat) (ok : Hp → List V → Prop) (fs : List V → List (Str × V)) : Sp := fun vs H Q _ => ∃ (a : Addr) (ws : List V), vs = .ref a :: ws ∧ ws.length = n ∧ ok H ws ∧ H a = some (exo a C none) ∧
  ∀ dx H', H dx = none → dx ≠ a → H' a = some (exo a C (some dx)) → H' dx = some (exd dx (fs ws)) → (∀ b, b ≠ a → b ≠ dx → H' b = H b) → Q .non H'
theorem mkN {C : Addr} {n : Nat} {ok : Hp → List V → Prop} {fs : List V → List (Str × V)} {ta : TA} {σ : L2.St} {H : Hp} {Q : XK}
    (h : ta σ H fun ws H1 => ws.length = n ∧ ws.length ≤ 1000 ∧ (∀ a, H1 a = none → ok (upd H1 a (exo a C none)) ws) ∧ ∀ d H', Same H1 H' → H1 d = none → H' d = some (.xd (fs ws)) → Q (.ref C) (some d) H')
    (mono : ∀ Q1 Q2 : List V → Hp → Prop, (∀ vs H1, Q1 vs H1 → Q2 vs H1) → ta σ H Q1 → ta σ H Q2) : tMkO C (spInitN C n ok fs) [] ta σ H Q := by
  refine mono _ _ (fun ws H1 h1 => ?_) h
  obtain ⟨hn, hz, hk, q⟩ := h1
  refine ⟨hz, fun a na => ⟨a, ws, by rw [List.append_nil], hn, hk a na, upd_same, fun dx H' nd hne ha hd hb => ⟨rfl, dx, fs ws, ha, hd, ?_, ?_⟩⟩⟩
  · rw [upd_ne hne] at nd
    exact nd
  · rw [upd_ne hne] at nd
    refine q dx _ (fun b o e => ?_) nd upd_same
    have h1 : b ≠ a := ne_of_none e na
    have h2 : b ≠ dx := ne_of_none e nd
    rw [upd_ne h2, del_ne h1, hb b h1 h2, upd_ne h1]
    exact e
end L2

/-! operators of own classes: binary ones of two instances of one class, unary ones, `in` -/
namespace OwnOp
open PySem PySem.Spec PyProof.Rows L2
section
variable {X : Cx} {CX : CXT} {C f : Addr} {fd : FuncData} {ps : List Str} {sp : Sp} {E : XK} {n : Nat}
def rOwn2 (C : Addr) (sp : Sp) (E : XK) : R2 := fun x y H Q => ∃ a b dx dy fs gs, x = .ref a ∧ y = .ref b ∧ H a = some (.ins C dx fs) ∧ H b = some (.ins C dy gs) ∧ sp [.ref a, .ref b] H Q E
theorem op_own {op : Operator} (hs : PySem.W.findIn X.K (.ref C) (PySem.dunder op.info.2) = some (some (.ref f))) (hf : PySem.W.isFn X.K (.ref f) = true) (hc : PySem.W.selfFirst X.K C = true)
    (F : FnOk X.prog X.w X.K X.mg X.base CX n f fd ps sp) (hr : Room n X.A) (hb : Binds X.K fd ps []) (hx : Passes CX X E) : OpR X (binaryOp op) (rOwn2 C sp E) := by
  intro pins s σ H x y v u Q I rx ry h
  obtain ⟨a, b, dx, dy, fs, gs, rfl, rfl, ha, hb', q⟩ := h
  cases rx
  cases ry
  obtain ⟨mA, J, _⟩ := ins_get I.hok ha
  obtain ⟨mB, J', _⟩ := ins_get I.hok hb'
  obtain ⟨od, J, _⟩ := J.look
  obtain ⟨od', J', _⟩ := J'.look
  obtain ⟨m, hF⟩ := I.fr
  refine PySem.W.binop_K hF I.ok.mod.kin J J'.type hc hs hf ?_
  refine wpAny_mono (run_fn (us := [.ref a, .ref b]) (vs := [.ref a, .ref b]) F hr hb .nil hx I (.cons rfl (.cons rfl .nil)) q) (fun r s' z => ?_) fun _ _ e => e
  obtain ⟨k, H', I', rk, qk⟩ := z
  cases k with
  | str y => obtain ⟨t, rfl⟩ := rk; exact ⟨.str y, H', I', ⟨t, rfl⟩, qk⟩
  | int y => obtain ⟨t, rfl⟩ := rk; exact ⟨.int y, H', I', ⟨t, rfl⟩, qk⟩
  | byt y => obtain ⟨t, rfl⟩ := rk; exact ⟨.byt y, H', I', ⟨t, rfl⟩, qk⟩
  | flt y => obtain ⟨t, rfl⟩ := rk; exact ⟨.flt y, H', I', ⟨t, rfl⟩, qk⟩
  | non => cases rk; exact ⟨.non, H', I', rfl, qk⟩
  | bl y => cases rk; exact ⟨.bl y, H', I', rfl, qk⟩
  | ref y => cases rk; exact ⟨.ref y, H', I', rfl, qk⟩
  | ty y => cases rk; exact ⟨.ty y, H', I', rfl, qk⟩
def rOwn1 (C : Addr) (sp : Sp) (E : XK) : V → Hp → VK → Prop := fun x H Q => ∃ a dx fs, x = .ref a ∧ H a = some (.ins C dx fs) ∧ sp [.ref a] H Q E
theorem un_ownNeg (hs : PySem.W.findIn X.K (.ref C) "__neg__" = some (some (.ref f))) (hf : PySem.W.isFn X.K (.ref f) = true)
    (F : FnOk X.prog X.w X.K X.mg X.base CX n f fd ps sp) (hr : Room n X.A) (hb : Binds X.K fd ps []) (hx : Passes CX X E) : UnR X (unaryOp .USub) (rOwn1 C sp E) := by
  intro pins s σ H x v Q I rx h
  obtain ⟨a, dx, fs, rfl, ha, q⟩ := h
  cases rx
  obtain ⟨mA, J, _⟩ := ins_get I.hok ha
  obtain ⟨od, J, _⟩ := J.look
  obtain ⟨m, hF⟩ := I.fr
  exact PySem.W.ksp_neg hF I.ok.mod.kin J hs hf (run_fn (us := [.ref a]) (vs := [.ref a]) F hr hb .nil hx I (.cons rfl .nil) q)
/-- x in o, o of an own class whose __contains__ answers True or False -/
def rOwnIn (C : Addr) (sp : Sp) (E : XK) : R2 := fun x y H Q => ∃ b dy gs, y = .ref b ∧ H b = some (.ins C dy gs) ∧ sp [.ref b, x] H (fun v H' => ∃ k, v = .bl k ∧ Q (.bl k) H') E
theorem op_ownIn (hs : PySem.W.findIn X.K (.ref C) "__contains__" = some (some (.ref f))) (hf : PySem.W.isFn X.K (.ref f) = true)
    (F : FnOk X.prog X.w X.K X.mg X.base CX n f fd ps sp) (hr : Room n X.A) (hb : Binds X.K fd ps []) (hx : Passes CX X E) : OpR X (compareOp .In) (rOwnIn C sp E) := by
  intro pins s σ H x y v u Q I rx ry h
  obtain ⟨b, dy, gs, rfl, hb', q⟩ := h
  cases ry
  obtain ⟨mB, J', _⟩ := ins_get I.hok hb'
  obtain ⟨od', J', _⟩ := J'.look
  obtain ⟨m, hF⟩ := I.fr
  refine PySem.W.in_K hF I.ok.mod.kin J' hs hf ?_
  refine wpAny_mono (run_fn (us := [.ref b, v]) (vs := [.ref b, x]) F hr hb .nil hx I (.cons rfl (.cons rx .nil)) q) (fun r s' z => ?_) fun _ _ e => e
  obtain ⟨k, H', I', rk, b', rfl, qk⟩ := z
  cases rk
  exact wpAny_truthy_bool ⟨.bl b', H', I', rfl, qk⟩
end
end OwnOp

/-! own classes whose __iter__ hands out the iterator of a tuple: iter(t), for x in o, list(o) -/
namespace OwnOp
open PySem PySem.Spec PyProof.Rows L2
abbrev tiObj (t : Addr) (i : Nat) : Obj := { cls := .type "tuple_iterator", data := .fields #[.ref t, .int i 0] }
/-- the iterator of the tuple at t, at its place i -/
def TiO (t it : Addr) (i : Nat) : HO := .ext fun h => h.get? it = some (tiObj t i)
section
variable {X : Cx} {pins : List (Addr × Obj)} {σ : L2.St} {H : Hp} {s : Shared} {it t : Addr} {i : Nat}
theorem tiO_ok {P : Program} {w : World} {H : Hp} {h : Heap} (e : h.get? it = some (tiObj t i)) : ObjOk P w H h it (TiO t it i) := ⟨e, ⟨_, e⟩, fun h1 h2 q k => k _ q⟩
theorem tiO_get (I : Inv X pins σ H s) (e : H it = some (TiO t it i)) : s.heap.get? it = some (tiObj t i) := (I.hok it _ e).1
end
/-! ### iter(t) -/
def rIterT (K : PySem.W.Frag) : List V → Hp → VK → Prop := fun xs H Q => ∃ (t : Addr) (zs : List V), xs = [.ref t] ∧ SqT K H t zs ∧ ∀ it, H it = Option.none → Q (.ref it) (upd H it (TiO t it 0))
section
variable {X : Cx}
theorem call_iterT : CallR X (.builtin "iter") (rIterT X.K) := by
  intro pins s σ H xs us Q I r h
  obtain ⟨t, zs, rfl, hq, q⟩ := h
  obtain ⟨u, rfl, ru⟩ := vals1 r
  cases ru
  obtain ⟨its, rv, pl, hz⟩ := I.tuple hq
  refine Calls.call_function_entry (by decide +kernel) (by decide +kernel) PySem.W.kdk_entry_iter (PySem.W.kdk_args_iter _) ?_
  unfold Builtin.«iter»
  refine wpAny_bind (m := someArgs "iter" 1 2 _) (wpAny_of_eq (a := [Value.ref t]) (by first | rfl | kernel_rfl!) ?_)
  show wpAny _ _ (pyIter (.ref t) >>= _) _ _ _
  refine wpAny_bind (wpAny_pyIter_tuple (show s.heap.IsTuple t its.toArray from pl) ?_)
  refine wpAny_pure ⟨_, rfl, ?_⟩
  exact ⟨.ref s.heap.objs.size, _, I.laid (t' := s.toks) (fun b u e => Heap.get?_push_of_some _ e) (Nat.le_refl _) (tiO_ok (Heap.get?_push_size _ rfl)), rfl, q _ (I.hok.fresh (Nat.le_refl _))⟩
end
/-- the same, and the iterator is younger than the call -/
def rIterTN (K : PySem.W.Frag) (n : Nat) : List V → Hp → VK → Prop := fun xs H Q => ∃ (t : Addr) (zs : List V), xs = [.ref t] ∧ SqT K H t zs ∧ ∀ it, n ≤ it → H it = Option.none → Q (.ref it) (upd H it (TiO t it 0))
theorem call_iterTN {X : Cx} : CallR X (.builtin "iter") (rIterTN X.K X.s_0.heap.objs.size) := by
  intro pins s σ H xs us Q I r h
  obtain ⟨t, zs, rfl, hq, q⟩ := h
  obtain ⟨u, rfl, ru⟩ := vals1 r
  cases ru
  obtain ⟨its, rv, pl, hz⟩ := I.tuple hq
  refine Calls.call_function_entry (by decide +kernel) (by decide +kernel) PySem.W.kdk_entry_iter (PySem.W.kdk_args_iter _) ?_
  unfold Builtin.«iter»
  refine wpAny_bind (m := someArgs "iter" 1 2 _) (wpAny_of_eq (a := [Value.ref t]) (by first | rfl | kernel_rfl!) ?_)
  show wpAny _ _ (pyIter (.ref t) >>= _) _ _ _
  refine wpAny_bind (wpAny_pyIter_tuple (show s.heap.IsTuple t its.toArray from pl) ?_)
  refine wpAny_pure ⟨_, rfl, ?_⟩
  exact ⟨.ref s.heap.objs.size, _, I.laid (t' := s.toks) (fun b u e => Heap.get?_push_of_some _ e) (Nat.le_refl _) (tiO_ok (Heap.get?_push_size _ rfl)), rfl, q _ I.sz (I.hok.fresh (Nat.le_refl _))⟩
/-! ### a def's body, run at one state alone -/
section
variable {CX : CXT} {P : Program} {w : World} {K : PySem.W.Frag} {mg : Str → Option Value} {base : Heap}
theorem run_here {x qual : Str} {st : Stmt} {f : Addr} {fd : FuncData} {N ps : List Str} {k : Nat} (F : Fun K x qual st f fd) (S : FnScope N ps (defScope st)) {A : Around} {outer : List Env} {s : Shared} {H : Hp} {args : Args} {us : List Value} {vs : List V} {Q : VK} {E : XK}
    (hr : Room (k + 1) A) (e0 : Env0 P w K mg base A outer s H) (hb : BindsTo s fd args (ps.zip us)) (r : Vals vs us) (hl : vs.length = ps.length)
    (hbody : ∀ cdv : Value, Room k (A.deeper (envOfC qual (defScope st) s.heap.objs.size f cdv)) → ∃ t, PSs (cxOf CX P w K mg base N qual (defScope st) f cdv A outer s H E) (defBody st) t ∧ t { nx := fun _ H' => Q .non H', rt := Q } (start N vs) H) :
    codeAny (model P w) A (.call (.ref f) args) (CR CX outer P w H s Q E) s := by
  obtain ⟨oc, od, kV, doc, pm, an, cdv, ct, osl, rfl, lk, hcd⟩ := F.ex
  have kin : K.In s.heap := e0.mod.kin.keeps fun b o e => (e0.bs b o e).1
  have nolim : s.heap.NoLimit := e0.mod.nolimit.keeps fun b o e => (e0.bs b o e).1
  have kinds : ∀ y ∈ ps.zip us, (defScope st).names.lookup y.1 = some .local ∨ ((defScope st).names.lookup y.1 = some .cell ∧ ((cellsFrom (s.heap.objs.size + 1) (defScope st).names []).lookup y.1).isSome = true) := by
    rintro ⟨n, v⟩ hy
    exact (S.par n (List.of_mem_zip hy).1).elim (fun q => .inl q) fun q => .inr ⟨q, PySem.W.cellsFrom_some _ _ _ (.inl q)⟩
  have code := PySem.W.codeRec_of kin hcd
  refine codeAny_call_function hr.depth (kin _ _ lk) rfl S.co S.gen rfl code (hb _ _ _ _ (wpAny_newFunctionEnv_cells S.kind kinds fun env he s1 y => ?_))
  subst he
  refine ⟨nolim.keeps y.toInCall.keep, codeAny_func ?_⟩
  obtain ⟨t, ht, hq⟩ := hbody cdv (hr.deeper _)
  have I1 := inv_start (CX := CX) (E := E) S hr.hd e0 hl r y
  refine wpAny_mono (ht.run [] s1 (start N vs) H _ I1 hq) (fun fl s' hs => ?_) fun _ _ hs => hs
  have done : ∀ {σ' : L2.St} {H' : Hp} {v : V} {u : Value}, Inv (cxOf CX P w K mg base N qual (defScope st) f cdv A outer s H E) [] σ' H' s' → RelV v u → Q v H' → CE outer P w H s Q u s' := by
    intro σ' H' v u J rv q
    exact ⟨v, H', J.os, J.bare, J.base, J.hok, rv, q⟩
  cases fl with
  | ret u => exact let ⟨v, σ', H', J, rv, q⟩ := hs; done J rv q
  | next => exact let ⟨σ', H', J, q⟩ := hs; done (v := V.non) (u := Value.none) J rfl q
  | brk => exact (fun ⟨_, _, _, no⟩ => False.elim no) hs
  | cont => exact (fun ⟨_, _, _, no⟩ => False.elim no) hs
end
theorem slot_ti : Slot "tuple_iterator" "__next__" "tuple_iterator.__next__" := PySem.F.slot_tuple_iterator_next
/-! ### a class with such an __iter__ -/
structure ItT (K : PySem.W.Frag) (C fi : Addr) : Prop where
  it : PySem.W.findIn K (.ref C) "__iter__" = some (some (.ref fi))
  itF : PySem.W.isFn K (.ref fi) = true
  nolen : PySem.W.findIn K (.ref C) "__len__" = some none
  nohint : PySem.W.findIn K (.ref C) "__length_hint__" = some none
section
variable {X : Cx} {C fi : Addr} {fd : FuncData} {ps N : List Str} {x qual : Str} {st : Stmt} {n : Nat} {TA : Addr → Hp → Addr → List V → Prop}
/-- what the body of __iter__ does: it hands out the iterator of the tuple that TA tells, a new one -/
def ItBody (P : Program) (w : World) (K : PySem.W.Frag) (mg : Str → Option Value) (base : Heap) (N : List Str) (qual : Str) (st : Stmt) (f : Addr) (n : Nat) (TA : Addr → Hp → Addr → List V → Prop) : Prop :=
  ∀ (cdv : Value) (A : Around) (outer : List Env) (s : Shared) (H : Hp) (p t : Addr) (xs : List V) (Q : VK) (E : XK), Room n (A.deeper (envOfC qual (defScope st) s.heap.objs.size f cdv)) → TA p H t xs → SqT K H t xs →
    (∀ it, s.heap.objs.size ≤ it → H it = Option.none → Q (.ref it) (upd H it (TiO t it 0))) →
    ∃ t', PSs (cxOf CX0 P w K mg base N qual (defScope st) f cdv A outer s H E).nox (defBody st) t' ∧ t' { nx := fun _ H' => Q .non H', rt := Q } (start N [.ref p]) H
theorem own_pyIter {A1 : Around} {pins : List (Addr × Obj)} {σ : L2.St} {H : Hp} {s : Shared} {a dx t : Addr} {fs : List (Str × V)} {xs : List V} {R : Value → Shared → Prop} {R2 : Value → Shared → Prop} (sb : Sub X (n + 1) A1) (hc : ItT X.K C fi)
    (F : Fun X.K x qual st fi fd) (S : FnScope N ["self"] (defScope st)) (hbody : ItBody X.prog X.w X.K X.mg X.base N qual st fi n TA) (hb : Binds X.K fd ["self"] []) (I : Inv X pins σ H s) (ha : H a = some (.ins C dx fs)) (ht : TA a H t xs) (hq : SqT X.K H t xs)
    (k : ∀ it s', s.heap.objs.size ≤ it → H it = Option.none → Inv X pins σ (upd H it (TiO t it 0)) s' → R (.ref it) s') :
    wpAny (model X.prog X.w) A1 (pyIter (.ref a)) R R2 s := by
  obtain ⟨mA, J, _⟩ := ins_get I.hok ha
  obtain ⟨od, J, _⟩ := J.look
  obtain ⟨m, hF⟩ := I.fr
  refine PySem.W.owit_iter hF I.ok.mod.kin J hc.it hc.itF ?_
  have e0 : Env0 X.prog X.w X.K X.mg X.base A1 X.stack s H := by
    have e := I.env0
    exact ⟨by rw [sb.fr]; exact e.frames, e.mod, e.bs, e.bsz, e.funs, e.frf, e.hok, e.bare⟩
  have hz : BindsTo s fd ⟨[.ref a], []⟩ ((["self"] : List Str).zip [Value.ref a]) := by simpa using hb s [.ref a] I.kIn rfl
  have r2 : Vals [V.ref a] [Value.ref a] := .cons rfl .nil
  have run : codeAny (model X.prog X.w) A1 (.call (.ref fi) ⟨[.ref a], []⟩) (CR CX0 X.stack X.prog X.w H s (fun v H' => ∃ it, v = .ref it ∧ s.heap.objs.size ≤ it ∧ H it = Option.none ∧ H' = upd H it (TiO t it 0)) (fun _ _ _ => False)) s :=
    run_here F S sb.room e0 hz r2 rfl fun cdv hr => by
      obtain ⟨t', h1, h2⟩ := hbody cdv A1 X.stack s H a t xs (fun v H' => ∃ it, v = .ref it ∧ s.heap.objs.size ≤ it ∧ H it = Option.none ∧ H' = upd H it (TiO t it 0)) (fun _ _ _ => False) hr ht hq fun it h1 h2 => ⟨it, rfl, h1, h2, rfl⟩
      exact ⟨t', h1.nox, h2⟩
  refine wpAny_call (codeAny_mono run fun r s' hq => ?_)
  cases r with
  | error e => exact False.elim hq
  | ok fl =>
    cases fl with
    | next => exact False.elim hq
    | brk => exact False.elim hq
    | cont => exact False.elim hq
    | ret w' =>
      obtain ⟨v2, H2, I2, rv2, it, ev2, h1, h2, eH2⟩ := I.after hq
      subst ev2
      subst eH2
      cases rv2
      unfold PySem.W.OwitIt
      exact wpAny_specialOf (name := Str.ofString "__next__") ⟨_, tiO_get I2 upd_same, rfl⟩ slot_ti.lookup (k it s' h1 h2 I2)
/-- for x in o: the items of its tuple -/
def iOwnT (C : Addr) (K : PySem.W.Frag) (TA : Addr → Hp → Addr → List V → Prop) (te : TE) : TI := fun σ H R => te σ H fun v H1 => ∃ p dx fs t xs, v = .ref p ∧ H1 p = some (.ins C dx fs) ∧ TA p H1 t xs ∧ SqT K H1 t xs ∧ R (Itt K t) H1
theorem pi_own {tg e : Expr} {te : TE} (he : PE X e te) (hr : Room (n + 1) X.A) (hc : ItT X.K C fi) (F : Fun X.K x qual st fi fd) (S : FnScope N ["self"] (defScope st)) (hbody : ItBody X.prog X.w X.K X.mg X.base N qual st fi n TA) (hb : Binds X.K fd ["self"] []) :
    PI X tg e (iOwnT C X.K TA te) := by
  refine ⟨fun pins s σ H R I h => ?_⟩
  refine thn (he.run pins s σ H _ I h) fun u s1 ⟨v, H1, I1, r1, p, dx, fs, t, xs, ev, hp, ht, hq, q⟩ => ?_
  subst ev
  cases r1
  refine own_pyIter (⟨hr, rfl⟩ : Sub X (n + 1) X.A) hc F S hbody hb I1 hp ht hq fun it s2 h1 h2 I2 => ?_
  have hi : upd H1 it (TiO t it 0) it = some (TiO t it 0) := upd_same
  have st0 : s2.heap.IsTupleIter it t 0 := ⟨_, tiO_get I2 hi, rfl, rfl⟩
  have hi' := hi
  unfold TiO at hi'
  have back : ItX.dropH (upd H1 it (TiO t it 0)) it = H1 := ItX.dropH_upd h2
  have I3 := ItX.inv_drop I2 hi'
  have fp := ItX.inv_fp I2 hi (Nat.le_trans I1.sz h1)
  rw [show ItX.dropH (upd H1 it (TiO t it 0)) it = H1 from back] at I3 fp
  refine ⟨it, [it], _, _, H1, rfl, I3, turn_tuple t it, st0, fun b hb => ?_, q⟩
  have e : b = it := by simpa using hb
  rw [e]
  exact fp
/-! ### list(o) -/
theorem tup_loop {A1 : Around} {pins : List (Addr × Obj)} {σ : L2.St} {H : Hp} {q t it : Addr} {xs : List V} {Rs : Result → Shared → Prop} (hA : A1.in1.handled = Option.none) (hq : H q = Option.none) (ht : ∀ o, SqT X.K (upd H q o) t xs) (hqi : it ≠ q)
    (fp : H it = Option.none ∧ it ≠ X.env.locals ∧ (it ∈ X.ex ∨ X.s_0.heap.objs.size ≤ it) ∧ (∀ x c, X.env.cells.lookup x = some c → c ≠ it) ∧ ∀ p ∈ X.pn ++ pins, p.1 ≠ it)
    (hdone : ∀ s, Inv X pins σ (upd H q (.lst xs)) s → Rs (.ok (.ret .none)) s) (hlen : xs.length < sizeLine) :
    ∀ (m i : Nat) (s : Shared), xs.length - i = m → i ≤ xs.length → Inv X pins σ (upd H q (.lst (xs.take i))) s → s.heap.IsTupleIter it t i → codeAny (model X.prog X.w) A1 (.builtin "list.extend.loop" ⟨[.ref q, .ref it, .none], []⟩) Rs s := by
  obtain ⟨f0, f1, f3, f4, f5⟩ := fp
  have f0' : ∀ o, (upd H q o) it = Option.none := fun o => by rw [upd_ne hqi]; exact f0
  intro m
  induction m with
  | zero =>
    intro i s hm hi I st
    have e : i = xs.length := by omega
    subst e
    rw [List.take_length] at I
    obtain ⟨its, rv, p, hz⟩ := I.tuple (ht _)
    refine codeAny_builtin PySem.F.entry_extend_loop ?_
    rw [Around.under_plainId PySem.F.plain_extend_loop _]
    show wpAny _ A1.in1 (pyNext (.ref it) >>= _) _ _ s
    have hl := rv.length
    refine wpAny_bind (wpAny_pyNext_tuple_end hA st (show s.heap.IsTuple t its.toArray from p) (by simp; omega) fun h' eb => ?_)
    exact wpAny_pure (hdone _ (I.turned (t' := s.toks) (fun b o hb z => eb b o hb z) (f0' _) f1 f3 f4 f5))
  | succ m ih =>
    intro i s hm hi I st
    have hlt : i < xs.length := by omega
    obtain ⟨its, rv, p, hz⟩ := I.tuple (ht _)
    obtain ⟨u, hu, ru⟩ := rv.get (List.getElem?_eq_getElem hlt)
    refine codeAny_builtin PySem.F.entry_extend_loop ?_
    rw [Around.under_plainId PySem.F.plain_extend_loop _]
    show wpAny _ A1.in1 (pyNext (.ref it) >>= _) _ _ s
    refine wpAny_bind (wpAny_pyNext_tuple_item st (show s.heap.IsTuple t its.toArray from p) (x := u) (by simpa using hu) fun h' st' sb => ?_)
    have I1 : Inv X pins σ (upd H q (.lst (xs.take i))) { s with heap := h' } := I.turned (t' := s.toks) (fun b o hb z => (sb.2 b hb).trans z) (f0' _) f1 f3 f4 f5
    show wpAny _ A1.in1 (updateSeq q (·.push u) >>= _) _ _ _
    obtain ⟨z, its2, k, r2, hl, e⟩ := I1.lstM upd_same
    have lt2 : its2.length < sizeLine := by rw [← hl, List.length_take]; omega
    have I2 := I1.lset (its' := its2 ++ [u]) (ys := xs.take (i + 1)) (f := (·.push u)) (t' := s.toks) upd_same e (by simp) (by rw [List.take_add_one, List.getElem?_eq_getElem hlt]; exact r2.append (.cons ru .nil)) (by rw [List.length_take]; omega)
    rw [upd_upd] at I2
    refine wpAny_bind (wpAny_updateSeq e rfl (wpAny_pure ⟨plainId_quiet PySem.F.plain_extend_loop _, ?_⟩) (by rw [List.size_toArray]; omega) (by show (its2.toArray.push u).size ≤ sizeLine + 1; rw [Array.size_push, List.size_toArray]; omega))
    exact ih (i + 1) _ (by omega) (by omega) I2 (st'.at fun o z => (Heap.get?_update_other h' (Obj.mapSeq (·.push u)) (Ne.symm hqi)).trans z)
def rListT (C : Addr) (K : PySem.W.Frag) (TA : Addr → Hp → Addr → List V → Prop) : List V → Hp → VK → Prop := fun vs H Q => ∃ a dx fs t xs, vs = [.ref a] ∧ H a = some (.ins C dx fs) ∧ TA a H t xs ∧ (∀ q o, H q = Option.none → TA a (upd H q o) t xs) ∧ SqT K H t xs ∧ xs.length < sizeLine ∧
  ∀ q, H q = Option.none → Q (.ref q) (upd H q (.lst xs))
theorem call_listT (hc : ItT X.K C fi) (F : Fun X.K x qual st fi fd) (S : FnScope N ["self"] (defScope st)) (hbody : ItBody X.prog X.w X.K X.mg X.base N qual st fi n TA) (hb : Binds X.K fd ["self"] []) (hr : Room (n + 3) X.A) (hcalm : X.A.handled = Option.none) :
    CallR X (.type "list") (rListT C X.K TA) := by
  intro pins s σ H vs us Q I rv h
  obtain ⟨a, dx, fs, t, xs, rfl, ha, ht, htk, hq, hlen, k⟩ := h
  obtain ⟨u, rfl, ru⟩ := rv.one
  cases ru
  have sb : Sub X (n + 1) X.A.in1.in1 := Sub.in1 (Sub.in1 (⟨hr, rfl⟩ : Sub X (n + 1 + 2) X.A))
  have hS : (s.heap.push { cls := .type "list", data := .seq #[] }).get? s.heap.objs.size = some { cls := .type "list", data := .seq #[] } := Heap.get?_push_size _ rfl
  have fr : H s.heap.objs.size = Option.none := I.hok.fresh (Nat.le_refl _)
  have I1 : Inv X pins σ (upd H s.heap.objs.size (.lst [])) { s with heap := s.heap.push { cls := .type "list", data := .seq #[] } } := I.lnew (its := []) (t' := s.toks) .nil (Nat.zero_le _)
  have I2 := I1.lset (f := fun _ => #[]) (its := []) (its' := []) (ys := []) (t' := s.toks) upd_same hS rfl .nil (Nat.zero_le _)
  rw [upd_upd] at I2
  generalize hqa : s.heap.objs.size = q at *
  refine callType_codes (Q₁ := fun obj s₁ => obj = .ref q ∧ s₁ = { s with heap := s.heap.push { cls := .type "list", data := .seq #[] } }) PySem.F.called_list (PySem.F.typeCall_list_1 _) PySem.F.entry_list_init
    (by rw [← hqa]; exact code_list_new _ ⟨rfl, rfl⟩) fun obj s₁ h₁ => ?_
  obtain ⟨rfl, rfl⟩ := h₁
  refine ⟨⟨_, hS, rfl⟩, PySem.F.args_list_init_2 _ _, ?_⟩
  show wpAny _ _ (do let old ← Builtin.List.listItems (.ref q); Builtin.List.listUpdate (.ref q) (fun _ => #[]); letGo old.toList.reverse; Builtin.List.listExtendWith (.ref q) (.ref a) .none) _ _ _
  refine wpAny_bind ?_
  unfold Builtin.List.listItems
  refine wpAny_bind (wpAny_seqItems hS rfl (wpAny_pure ?_))
  show wpAny _ _ (updateSeq q (fun _ => #[]) >>= fun _ => letGo (#[] : Array Value).toList.reverse >>= fun _ => Builtin.List.listExtendWith (.ref q) (.ref a) .none) _ _ _
  refine wpAny_bind (wpAny_updateSeq hS rfl (wpAny_bind (wpAny_letGo ?_)))
  have hne : q ≠ a := fun z => by rw [z, ha] at fr; cases fr
  have ha2 : upd H q (.lst []) a = some (.ins C dx fs) := by rw [upd_ne (Ne.symm hne)]; exact ha
  have ht2 : ∀ o, SqT X.K (upd H q o) t xs := fun o => hq.ext (Ext.upd fr)
  obtain ⟨mA, J, _⟩ := ins_get I2.hok ha2
  obtain ⟨od, J, _⟩ := J.look
  unfold Builtin.List.listExtendWith
  refine wpAny_bind (J.type.here ?_)
  have e1 : Builtin.List.listSameRef (.ref q) (.ref a) = false := by simp [Builtin.List.listSameRef, hne]
  have e2 : (Value.ref C == Value.type "list") = false := rfl
  have e3 : (Value.ref C == Value.type "tuple") = false := rfl
  simp only [e1, e2, e3, Bool.or_false, Bool.false_eq_true, if_false]
  refine wpAny_bind (own_pyIter sb hc F S hbody hb I2 ha2 (htk q _ fr) (ht2 _) fun it s3 h1 h2 I3 => ?_)
  have hi : upd (upd H q (.lst [])) it (TiO t it 0) it = some (TiO t it 0) := upd_same
  have st0 : s3.heap.IsTupleIter it t 0 := ⟨_, tiO_get I3 hi, rfl, rfl⟩
  have hi' := hi
  unfold TiO at hi'
  have back : ItX.dropH (upd (upd H q (.lst [])) it (TiO t it 0)) it = upd H q (.lst []) := ItX.dropH_upd h2
  have I4 := ItX.inv_drop I3 hi'
  have hqi : it ≠ q := fun z => by rw [z, upd_same] at h2; cases h2
  have h2' : H it = Option.none := by rw [upd_ne hqi] at h2; exact h2
  obtain ⟨g0, g1, g2, g3, g4, g5⟩ := ItX.inv_fp I3 hi (Nat.le_trans I2.sz h1)
  rw [back] at I4
  have loop := fun (Rs : Result → Shared → Prop) hd => tup_loop (A1 := X.A.in1) (Rs := Rs) (pins := pins) (σ := σ) (H := H) (q := q) (t := t) (it := it) (xs := xs) hcalm fr ht2 hqi ⟨h2', g1, g3, g4, g5⟩ hd hlen xs.length 0
  have fin : ∀ s4, Inv X pins σ (upd H q (.lst xs)) s4 → wants (fun r s₂ => r = .none ∧ EP X pins σ Q (.ref q) s₂) X.xe (.ok (.ret .none)) s4 := fun s4 I5 => ⟨rfl, .ref q, _, I5, rfl, k q fr⟩
  have ha3 : upd H q (.lst []) a = some (.ins C dx fs) := ha2
  obtain ⟨mA', J', _⟩ := ins_get I4.hok ha3
  obtain ⟨od', J', _⟩ := J'.look
  refine wpAny_bind (wpAny_holding ?_)
  unfold Builtin.List.listLengthHint
  refine wpAny_bind (wpAny_bind (J'.type.here ((PySem.W.looks_findIn I4.kIn hc.nolen).here ?_)))
  refine PySem.W.KFB.if_not rfl (PySem.W.KFB.if_not rfl ?_)
  refine wpAny_bind (wpAny_bind (J'.type.here ((PySem.W.looks_findIn I4.kIn hc.nohint).here (wpAny_pure ?_))))
  obtain ⟨z5, its5, k5, r5, hl5, e5⟩ := I4.lstM upd_same
  cases r5
  refine wpAny_ite_split (fun _ => ?_) (fun _ => wpAny_pure ⟨plainId_quiet PySem.F.plain_extend_loop _, loop _ fin s3 (Nat.sub_zero _) (Nat.zero_le _) I4 st0⟩)
  refine wpAny_bind (wpAny_rule (wpAny_bind ?_))
  show wpAny _ _ (updateSeq q (·.push .none) >>= fun _ => updateSeq q (·.pop)) _ _ _
  refine wpAny_bind (wpAny_updateSeq e5 rfl ?_)
  have I6 := I4.lset (f := (·.push Value.none)) (its' := [Value.none]) (ys := [.non]) (t' := s3.toks) upd_same e5 (by simp) (.cons rfl .nil) (by rw [List.length_singleton, sizeLine_eq]; decide)
  obtain ⟨z7, its7, k7, r7, hl7, e7⟩ := I6.lstM upd_same
  obtain ⟨u7, rfl, ru7⟩ := r7.one
  refine wpAny_updateSeq e7 rfl ?_ (by show 1 ≤ sizeLine; rw [sizeLine_eq]; decide) (by show 0 ≤ sizeLine + 1; exact Nat.zero_le _)
  have I8 := I6.lset (f := (·.pop)) (its := [u7]) (its' := []) (ys := []) (t' := s3.toks) upd_same e7 (by rfl) .nil (Nat.zero_le _)
  rw [upd_upd, upd_upd] at I8
  refine wpAny_pure ⟨plainId_quiet PySem.F.plain_extend_loop _, loop _ fin _ (Nat.sub_zero _) (Nat.zero_le _) I8 (st0.at fun o z => ?_)⟩
  exact (Heap.get?_update_other _ _ (Ne.symm hqi)).trans ((Heap.get?_update_other _ _ (Ne.symm hqi)).trans z)
end
end OwnOp

/-! C.m(e, ..), m a static method of the class at C -/
namespace OwnOp
open PySem PySem.Spec PyProof.Rows L2
/-- m stands in C as a static method, its def at f -/
structure CSt (K : PySem.W.Frag) (C : Addr) (m : Str) (f : Addr) : Prop where
  ga : PySem.W.specialIn K (.ref C) "__getattribute__" = some (some (.builtin "type.__getattribute__"))
  rd : PySem.W.readsIn K C (.type "type") = true
  st : ∃ p rest, PySem.W.findCls K (.ref C) (.type "type") m = some (.get (.builtin "staticmethod.__get__") (.ref p) .none (.ref C)) ∧ PySem.W.recIn K p "staticmethod" = some (.ref f :: rest)
  kp : PySem.W.keepIn K (.ref f) = true
section
variable {X : Cx} {pins : List (Addr × Obj)} {σ : L2.St} {H : Hp} {s : Shared} {C f : Addr} {m : Str} {A : Around} {E : Value → Shared → Prop}
theorem getst_ok {pl : Sem Bool} {Q : Value × List Value → Shared → Prop} (I : Inv X pins σ H s) (c : CSt X.K C m f) (h : ∀ s', Inv X pins σ H s' → Q (.ref f, []) s') : wpAny (model X.prog X.w) A (getMethod (.ref C) m pl) Q E s := by
  obtain ⟨p, rest, e1, e2⟩ := c.st
  exact PySem.W.method_cls I.kIn c.ga (PySem.W.cls_bind I.kIn c.rd e1 (wpAny_call (PySem.W.sm_get (s := { s with toks := s.toks + 1 }) I.kIn e2 (PySem.W.handed_on rfl (h _ (I.tok _))))))
end
def tStat (C : Addr) (sp : Sp) (dvs : List V) (E : XK) (ta : TE) (t : TA) : TE := fun σ H Q => ta σ H fun x H1 => x = .ref C ∧ t σ H1 fun vs H2 => sp (vs ++ dvs) H2 Q E
section
variable {X : Cx} {CX : CXT} {C f : Addr} {fd : FuncData} {ps : List Str} {ds : List Value} {dvs : List V} {sp : Sp} {E : XK} {k : Nat} {m : Str} {o e : Expr} {es : List Expr} {apos pos : Pos} {ta : TE} {t : TA}
theorem pe_stat {pl : Sem Bool} (he : PE X o ta) (c : CSt X.K C m f) (F : FnOk X.prog X.w X.K X.mg X.base CX k f fd ps sp) (hr : Room k X.A) (hb : Binds X.K fd ps ds) (hd : Vals dvs ds) (hx : Passes CX X E) (ha : PA X (e :: es) t)
    (hst : starEach (e :: es) X.env = (false, eval e X.env) :: starEach es X.env := by rfl) (hpl : (backTo pos (starEach es X.env)).any (·.1) = false := by rfl)
    (ht : eval (.Call (.Attribute o m apos) (e :: es) [] pos) X.env = (do
      let ov ← eval o X.env
      standAt apos.atName
      let (f, first) ← holding [ov] (getMethod ov m pl)
      callWith pos f first (backTo pos (starEach (e :: es) X.env)) (backToKw pos (keywordEach [] X.env))) := by rfl) :
    PE X (.Call (.Attribute o m apos) (e :: es) [] pos) (tStat C sp dvs E ta t) := by
  refine ⟨fun pins s σ H Q I h => ?_⟩
  refine PySem.W.methodCall_KW (pl := pl) (thn (he.run pins s σ H _ I h) fun u s1 ⟨x, H1, I1, rx, ex, q⟩ => ?_) ht
  subst ex
  obtain rfl : u = Value.ref C := rx
  refine getst_ok I1 c fun s2 I2 => ?_
  refine PySem.W.callWith_K (first := []) (h₀ := X.base) I.ok.mod.kin c.kp (thn (ha.run pos pins s2 σ H1 _ I2 q) fun us s3 ⟨vs, H2, I3, r, q2⟩ => ⟨I3.kIn, ?_⟩) hst hpl
  exact run_fn (us := us) (vs := vs) F hr hb hd hx I3 r q2
end
end OwnOp

/-! two tuples of the same plain items and objects: != tells False -/
namespace OwnOp
open PySem PySem.Spec PyProof.Rows L2
def itemB (v : V) : Prop := flatB v = true ∨ ∃ p, v = .ref p
theorem items_same {A : Around} {s : Shared} : ∀ {xs : List V} {us ws : List Value}, Vals xs us → Vals xs ws → (∀ v ∈ xs, itemB v) → ∀ j (h1 : j < us.length) (h2 : j < ws.length), SeqAt.EqAt A s us[j] ws[j] true
  | [], _, _, .nil, _, _, j, h1, _ => absurd h1 (Nat.not_lt_zero j)
  | x :: xs, _, _, .cons a1 b1, .cons a2 b2, h, j, h1, h2 => by
    cases j with
    | zero =>
      rcases h x List.mem_cons_self with f | ⟨p, rfl⟩
      · exact eqAt_same a1 a2 f
      · cases (show _ = Value.ref p from a1)
        cases (show _ = Value.ref p from a2)
        exact SeqAt.EqAt.same _
    | succ j => exact items_same b1 b2 (fun v hv => h v (List.mem_cons_of_mem _ hv)) j (Nat.lt_of_succ_lt_succ h1) (Nat.lt_of_succ_lt_succ h2)
section
variable {X : Cx}
def rNeTS (K : PySem.W.Frag) : R2 := fun x y H Q => ∃ a b xs, x = .ref a ∧ y = .ref b ∧ SqT K H a xs ∧ SqT K H b xs ∧ (∀ v ∈ xs, itemB v) ∧ Q (.bl false) H
theorem op_neTS (hu : X.A.units + 64 < cLine) : OpR X (compareOp .NotEq) (rNeTS X.K) := by
  intro pins s σ H x y v u Q I rx ry h
  obtain ⟨a, b, xs, rfl, rfl, ha, hb, hi, q⟩ := h
  cases (show v = Value.ref a from rx)
  cases (show u = Value.ref b from ry)
  obtain ⟨us, r1, p1, _⟩ := I.tuple ha
  obtain ⟨ws, r2, p2, _⟩ := I.tuple hb
  have hsz : us.toArray.size = ws.toArray.size := by
    rw [List.size_toArray, List.size_toArray, ← r1.length, ← r2.length]
  have e : (!((List.range (min us.toArray.size ws.toArray.size)).all (fun _ => true) && us.toArray.size == ws.toArray.size)) = false := by
    rw [show ((List.range (min us.toArray.size ws.toArray.size)).all fun _ => true) = true from List.all_eq_true.mpr fun _ _ => rfl, hsz]
    simp
  refine SeqAt.RcNeAt.tuples (e := fun _ => true) p1 p2 (by omega) (fun j h1 h2 => ?_) X.prog X.w _ _ ?_
  · have k := items_same (A := X.A.in1) (s := s) r1 r2 hi j (by simpa using h1) (by simpa using h2)
    simpa using k
  · rw [e]
    exact ⟨.bl false, H, I, rfl, q⟩
end
end OwnOp

/-! o.m(e, ..) in a try suite, m a def that may raise -/
namespace OwnOp
open PySem PySem.Spec PyProof.Rows L2
def tMethT (C : Addr) (m : Str) (sp : Sp) (E : L2.St → XK) (ta : TE) (t : TA) : TE := fun σ H Q => ta σ H fun x H1 => ∃ a dx fs, x = .ref a ∧ H1 a = some (.ins C dx fs) ∧ fs.lookup m = none ∧ t σ H1 fun vs H2 => sp (x :: vs) H2 Q (E σ)
section
variable {X : Cx} {CX : CXT} {k : Nat} {C f : Addr} {fd : FuncData} {ps : List Str} {sp : Sp} {E : L2.St → XK} {o e : Expr} {es : List Expr} {m : Str} {ta : TE} {t : TA} {pos apos : Pos}
theorem pe_methT {pl : Sem Bool} (he : PE X o ta) (c : Cls X.K C) (hm : Meth X.K C m f) (F : FnOk X.prog X.w X.K X.mg X.base CX k f fd ps sp) (hr : Room k X.A) (hb : Binds X.K fd ps []) (hx : ∀ σ, PassesAt CX X σ (E σ)) (ha : PA X (e :: es) t)
    (hst : starEach (e :: es) X.env = (false, eval e X.env) :: starEach es X.env := by rfl) (hpl : (backTo pos (starEach es X.env)).any (·.1) = false := by rfl)
    (ht : eval (.Call (.Attribute o m apos) (e :: es) [] pos) X.env = (do
      let ov ← eval o X.env
      standAt apos.atName
      let (f, first) ← holding [ov] (getMethod ov m pl)
      callWith pos f first (backTo pos (starEach (e :: es) X.env)) (backToKw pos (keywordEach [] X.env))) := by rfl) :
    PE X (.Call (.Attribute o m apos) (e :: es) [] pos) (tMethT C m sp E ta t) := by
  refine ⟨fun pins s σ H Q I h => ?_⟩
  refine PySem.W.methodCall_KW (pl := pl) (thn (he.run pins s σ H _ I h) fun u s1 ⟨x, H1, I1, rx, a, dx, fs, ex, ea, l, q⟩ => ?_) ht
  subst ex
  obtain rfl : u = Value.ref a := rx
  refine getmeth_ok I1 ea c hm l ?_
  refine PySem.W.callWith_K (first := [.ref a]) (h₀ := X.base) I.ok.mod.kin hm.kp (thn (ha.run pos pins s1 σ H1 _ I1 q) fun us s2 ⟨vs, H2, I2, r, q2⟩ => ⟨I2.kIn, ?_⟩) hst hpl
  exact run_fnS (us := .ref a :: us) (vs := .ref a :: vs) F hr hb (hx σ) I2 (.cons rfl r) q2
end
end OwnOp

namespace M
open PySem PySem.Spec PyProof.Rows L2
def topS (i : Nat) : Stmt := PySem.Challenge.pw_mendedtree_k65_whole_edits.main.body.getD i (.Pass ⟨0, 0, 0, 0⟩)
abbrev s_EditError_init : Stmt := inClass (topS 3) 0
theorem sc_EditError_init : FnScope ["self", "index"] ["self", "index"] (defScope s_EditError_init) := ⟨rfl, rfl, rfl, by decide +kernel, rfl, by decide +kernel, by decide +kernel⟩
abbrev s_fits : Stmt := topS 5
theorem sc_fits : FnScope ["length", "edits"] ["length", "edits"] (defScope s_fits) := ⟨rfl, rfl, rfl, by decide +kernel, rfl, by decide +kernel, by decide +kernel⟩
abbrev s_first_misfit : Stmt := topS 6
theorem sc_first_misfit : FnScope ["length", "edits", "index", "start", "end", "new"] ["length", "edits"] (defScope s_first_misfit) := ⟨rfl, rfl, rfl, by decide +kernel, rfl, by decide +kernel, by decide +kernel⟩
abbrev s_check_fits : Stmt := topS 7
theorem sc_check_fits : FnScope ["length", "edits", "index"] ["length", "edits"] (defScope s_check_fits) := ⟨rfl, rfl, rfl, by decide +kernel, rfl, by decide +kernel, by decide +kernel⟩
abbrev s_apply : Stmt := topS 8
theorem sc_apply : FnScope ["text", "edits", "start", "end", "new"] ["text", "edits"] (defScope s_apply) := ⟨rfl, rfl, rfl, by decide +kernel, rfl, by decide +kernel, by decide +kernel⟩
abbrev s_inverse : Stmt := topS 9
theorem sc_inverse : FnScope ["text", "edits", "back", "start", "end", "new"] ["text", "edits"] (defScope s_inverse) := ⟨rfl, rfl, rfl, by decide +kernel, rfl, by decide +kernel, by decide +kernel⟩
abbrev s_Rope_init : Stmt := inClass (topS 12) 0
theorem sc_Rope_init : FnScope ["self", "piece", "left", "right"] ["self", "piece", "left", "right"] (defScope s_Rope_init) := ⟨rfl, rfl, rfl, by decide +kernel, rfl, by decide +kernel, by decide +kernel⟩
abbrev s_Rope_of : Stmt := inClass (topS 12) 1
theorem sc_Rope_of : FnScope ["text", "at"] ["text"] (defScope s_Rope_of) := ⟨rfl, rfl, rfl, by decide +kernel, rfl, by decide +kernel, by decide +kernel⟩
abbrev s_Rope_whole : Stmt := inClass (topS 12) 2
theorem sc_Rope_whole : FnScope ["self", "pieces", "waiting", "rope"] ["self"] (defScope s_Rope_whole) := ⟨rfl, rfl, rfl, by decide +kernel, rfl, by decide +kernel, by decide +kernel⟩
abbrev s_Rope_cut : Stmt := inClass (topS 12) 4
theorem sc_Rope_cut : FnScope ["self", "start", "end", "split"] ["self", "start", "end"] (defScope s_Rope_cut) := ⟨rfl, rfl, rfl, by decide +kernel, rfl, by decide +kernel, by decide +kernel⟩
abbrev s_Rope_joined : Stmt := inClass (topS 12) 5
theorem sc_Rope_joined : FnScope ["self", "other"] ["self", "other"] (defScope s_Rope_joined) := ⟨rfl, rfl, rfl, by decide +kernel, rfl, by decide +kernel, by decide +kernel⟩
abbrev s_Rope_edited : Stmt := inClass (topS 12) 6
theorem sc_Rope_edited : FnScope ["self", "edits", "rope", "start", "end", "new", "behind"] ["self", "edits"] (defScope s_Rope_edited) := ⟨rfl, rfl, rfl, by decide +kernel, rfl, by decide +kernel, by decide +kernel⟩
abbrev s_tree : Stmt := topS 13
theorem sc_tree : FnScope ["pieces", "middle"] ["pieces"] (defScope s_tree) := ⟨rfl, rfl, rfl, by decide +kernel, rfl, by decide +kernel, by decide +kernel⟩
abbrev s_balanced : Stmt := topS 14
theorem sc_balanced : FnScope ["left", "right", "middle"] ["left", "right"] (defScope s_balanced) := ⟨rfl, rfl, rfl, by decide +kernel, rfl, by decide +kernel, by decide +kernel⟩
abbrev s_Carry_init : Stmt := inClass (topS 16) 0
theorem sc_Carry_init : FnScope ["self", "old", "new", "runs"] ["self", "old", "new", "runs"] (defScope s_Carry_init) := ⟨rfl, rfl, rfl, by decide +kernel, rfl, by decide +kernel, by decide +kernel⟩
abbrev s_Carry___iter__ : Stmt := inClass (topS 16) 1
theorem sc_Carry___iter__ : FnScope ["self"] ["self"] (defScope s_Carry___iter__) := ⟨rfl, rfl, rfl, by decide +kernel, rfl, by decide +kernel, by decide +kernel⟩
abbrev s_Carry___add__ : Stmt := inClass (topS 16) 2
theorem sc_Carry___add__ : FnScope ["self", "other"] ["self", "other"] (defScope s_Carry___add__) := ⟨rfl, rfl, rfl, by decide +kernel, rfl, by decide +kernel, by decide +kernel⟩
abbrev s_through : Stmt := topS 19
theorem sc_through : FnScope ["first", "second", "pieces", "at", "old", "new", "count", "index", "begin", "end"] ["first", "second"] (defScope s_through) := ⟨rfl, rfl, rfl, by decide +kernel, rfl, by decide +kernel, by decide +kernel⟩
abbrev s_joined_runs : Stmt := topS 20
theorem sc_joined_runs : FnScope ["pieces", "runs", "old", "new", "count"] ["pieces"] (defScope s_joined_runs) := ⟨rfl, rfl, rfl, by decide +kernel, rfl, by decide +kernel, by decide +kernel⟩
abbrev s_carry_of : Stmt := topS 21
theorem sc_carry_of : FnScope ["length", "edits", "carry", "start", "end", "new"] ["length", "edits"] (defScope s_carry_of) := ⟨rfl, rfl, rfl, by decide +kernel, rfl, by decide +kernel, by decide +kernel⟩
abbrev s_carry_of_one : Stmt := topS 22
theorem sc_carry_of_one : FnScope ["length", "start", "end", "count", "behind", "pieces", "piece"] ["length", "start", "end", "count"] (defScope s_carry_of_one) := ⟨rfl, rfl, rfl, by decide +kernel, rfl, by decide +kernel, by decide +kernel⟩
abbrev s_compact : Stmt := topS 24
theorem sc_compact : FnScope ["text", "edits", "result", "found", "old", "new", "old_place", "new_place", "count"] ["text", "edits"] (defScope s_compact) := ⟨rfl, rfl, rfl, by decide +kernel, rfl, by decide +kernel, by decide +kernel⟩
abbrev s_law_reel : Stmt := topS 26
theorem sc_law_reel : FnScope ["script", "reel", "k", "cell", "rest", "turn", "mixed"] ["script"] (defScope s_law_reel) := ⟨rfl, rfl, rfl, by decide +kernel, rfl, by decide +kernel, by decide +kernel⟩
abbrev s_law_draw : Stmt := topS 27
theorem sc_law_draw : FnScope ["reel", "size", "count", "at"] ["reel", "size"] (defScope s_law_draw) := ⟨rfl, rfl, rfl, by decide +kernel, rfl, by decide +kernel, by decide +kernel⟩
abbrev s_law_pick : Stmt := topS 28
theorem sc_law_pick : FnScope ["reel", "row"] ["reel", "row"] (defScope s_law_pick) := ⟨rfl, rfl, rfl, by decide +kernel, rfl, by decide +kernel, by decide +kernel⟩
abbrev s_law_word : Stmt := topS 29
theorem sc_law_word : FnScope ["reel", "letters", "least", "most", "k"] ["reel", "letters", "least", "most"] (defScope s_law_word) := ⟨rfl, rfl, rfl, by decide +kernel, rfl, by decide +kernel, by decide +kernel⟩
abbrev s_law_number : Stmt := topS 30
theorem sc_law_number : FnScope ["value"] ["value"] (defScope s_law_number) := ⟨rfl, rfl, rfl, by decide +kernel, rfl, by decide +kernel, by decide +kernel⟩
abbrev s_law_signs : Stmt := topS 31
theorem sc_law_signs : FnScope ["signs"] [] (defScope s_law_signs) := ⟨rfl, rfl, rfl, by decide +kernel, rfl, by decide +kernel, by decide +kernel⟩
abbrev s_law_stepped : Stmt := topS 32
theorem sc_law_stepped : FnScope ["reel", "size", "letters", "first", "step", "k"] ["reel", "size"] (defScope s_law_stepped) := ⟨rfl, rfl, rfl, by decide +kernel, rfl, by decide +kernel, by decide +kernel⟩
abbrev s_law_text : Stmt := topS 33
theorem sc_law_text : FnScope ["reel", "form", "size"] ["reel"] (defScope s_law_text) := ⟨rfl, rfl, rfl, by decide +kernel, rfl, by decide +kernel, by decide +kernel⟩
abbrev s_law_new : Stmt := topS 34
theorem sc_law_new : FnScope ["reel", "size"] ["reel"] (defScope s_law_new) := ⟨rfl, rfl, rfl, by decide +kernel, rfl, by decide +kernel, by decide +kernel⟩
abbrev s_law_edit_row : Stmt := topS 35
theorem sc_law_edit_row : FnScope ["reel", "text", "count", "edits", "now", "near", "turn", "form", "start", "end", "new"] ["reel", "text", "count"] (defScope s_law_edit_row) := ⟨rfl, rfl, rfl, by decide +kernel, rfl, by decide +kernel, by decide +kernel⟩
abbrev s_law_splice : Stmt := topS 36
theorem sc_law_splice : FnScope ["text", "edits", "now", "edit"] ["text", "edits"] (defScope s_law_splice) := ⟨rfl, rfl, rfl, by decide +kernel, rfl, by decide +kernel, by decide +kernel⟩
abbrev s_law_tags : Stmt := topS 37
theorem sc_law_tags : FnScope ["size", "edits", "tags", "k", "edit", "char"] ["size", "edits"] (defScope s_law_tags) := ⟨rfl, rfl, rfl, by decide +kernel, rfl, by decide +kernel, by decide +kernel⟩
abbrev s_law_runs : Stmt := topS 38
theorem sc_law_runs : FnScope ["tags", "runs", "k", "last"] ["tags"] (defScope s_law_runs) := ⟨rfl, rfl, rfl, by decide +kernel, rfl, by decide +kernel, by decide +kernel⟩
abbrev s_law_ahead : Stmt := topS 39
theorem sc_law_ahead : FnScope ["tags", "size", "ahead", "k"] ["tags", "size"] (defScope s_law_ahead) := ⟨rfl, rfl, rfl, by decide +kernel, rfl, by decide +kernel, by decide +kernel⟩
abbrev s_law_same_edit : Stmt := topS 40
theorem sc_law_same_edit : FnScope ["told", "due"] ["told", "due"] (defScope s_law_same_edit) := ⟨rfl, rfl, rfl, by decide +kernel, rfl, by decide +kernel, by decide +kernel⟩
abbrev s_law_same_edits : Stmt := topS 41
theorem sc_law_same_edits : FnScope ["told", "due", "k"] ["told", "due"] (defScope s_law_same_edits) := ⟨rfl, rfl, rfl, by decide +kernel, rfl, by decide +kernel, by decide +kernel⟩
abbrev s_law_carry_ok : Stmt := topS 42
theorem sc_law_carry_ok : FnScope ["told", "old", "new", "runs", "row", "part"] ["told", "old", "new", "runs"] (defScope s_law_carry_ok) := ⟨rfl, rfl, rfl, by decide +kernel, rfl, by decide +kernel, by decide +kernel⟩
abbrev s_law_gaps : Stmt := topS 43
theorem sc_law_gaps : FnScope ["after", "runs", "gaps", "old_end", "new_end", "run"] ["after", "runs"] (defScope s_law_gaps) := ⟨rfl, rfl, rfl, by decide +kernel, rfl, by decide +kernel, by decide +kernel⟩
abbrev s_law_back : Stmt := topS 44
theorem sc_law_back : FnScope ["text", "edits", "now", "back", "edit"] ["text", "edits"] (defScope s_law_back) := ⟨rfl, rfl, rfl, by decide +kernel, rfl, by decide +kernel, by decide +kernel⟩
abbrev s_law_rope_is : Stmt := topS 45
theorem sc_law_rope_is : FnScope ["rope", "text", "told"] ["rope", "text"] (defScope s_law_rope_is) := ⟨rfl, rfl, rfl, by decide +kernel, rfl, by decide +kernel, by decide +kernel⟩
abbrev s_law_texts_ok : Stmt := topS 46
theorem sc_law_texts_ok : FnScope ["text", "edits", "after", "short", "back", "row", "one_by_one", "edit"] ["text", "edits", "after", "short", "back"] (defScope s_law_texts_ok) := ⟨rfl, rfl, rfl, by decide +kernel, rfl, by decide +kernel, by decide +kernel⟩
abbrev s_law_carries_ok : Stmt := topS 47
theorem sc_law_carries_ok : FnScope ["text", "edits", "after", "tags", "short", "back", "size", "ahead", "runs", "row", "kept", "k"] ["text", "edits", "after", "tags", "short", "back"] (defScope s_law_carries_ok) := ⟨rfl, rfl, rfl, by decide +kernel, rfl, by decide +kernel, by decide +kernel⟩
abbrev s_law_characters_ok : Stmt := topS 48
theorem sc_law_characters_ok : FnScope ["text", "edits", "after", "old_rope", "new_rope", "covered", "run", "count", "part", "k"] ["text", "edits", "after"] (defScope s_law_characters_ok) := ⟨rfl, rfl, rfl, by decide +kernel, rfl, by decide +kernel, by decide +kernel⟩
abbrev s_law : Stmt := topS 49
theorem sc_law : FnScope ["script", "reel", "count", "text", "edits", "after", "tags", "short", "back", "away"] ["script"] (defScope s_law) := ⟨rfl, rfl, rfl, by decide +kernel, rfl, by decide +kernel, by decide +kernel⟩
structure Txt (K : PySem.W.Frag) (mg : Str → Option Value) where
  a_EditError_init : Addr
  fd_EditError_init : FuncData
  F_EditError_init : Fun K "__init__" "EditError.__init__" s_EditError_init a_EditError_init fd_EditError_init
  b_EditError_init : Binds K fd_EditError_init ["self", "index"] []
  a_fits : Addr
  fd_fits : FuncData
  F_fits : Fun K "fits" "fits" s_fits a_fits fd_fits
  b_fits : Binds K fd_fits ["length", "edits"] []
  g_fits : mg "fits" = some (.ref a_fits)
  a_first_misfit : Addr
  fd_first_misfit : FuncData
  F_first_misfit : Fun K "_first_misfit" "_first_misfit" s_first_misfit a_first_misfit fd_first_misfit
  b_first_misfit : Binds K fd_first_misfit ["length", "edits"] []
  g_first_misfit : mg "_first_misfit" = some (.ref a_first_misfit)
  a_check_fits : Addr
  fd_check_fits : FuncData
  F_check_fits : Fun K "check_fits" "check_fits" s_check_fits a_check_fits fd_check_fits
  b_check_fits : Binds K fd_check_fits ["length", "edits"] []
  g_check_fits : mg "check_fits" = some (.ref a_check_fits)
  a_apply : Addr
  fd_apply : FuncData
  F_apply : Fun K "apply" "apply" s_apply a_apply fd_apply
  b_apply : Binds K fd_apply ["text", "edits"] []
  g_apply : mg "apply" = some (.ref a_apply)
  a_inverse : Addr
  fd_inverse : FuncData
  F_inverse : Fun K "inverse" "inverse" s_inverse a_inverse fd_inverse
  b_inverse : Binds K fd_inverse ["text", "edits"] []
  g_inverse : mg "inverse" = some (.ref a_inverse)
  a_Rope_init : Addr
  fd_Rope_init : FuncData
  F_Rope_init : Fun K "__init__" "Rope.__init__" s_Rope_init a_Rope_init fd_Rope_init
  b_Rope_init : Binds K fd_Rope_init ["self", "piece", "left", "right"] []
  a_Rope_of : Addr
  fd_Rope_of : FuncData
  F_Rope_of : Fun K "of" "Rope.of" s_Rope_of a_Rope_of fd_Rope_of
  b_Rope_of : Binds K fd_Rope_of ["text"] []
  a_Rope_whole : Addr
  fd_Rope_whole : FuncData
  F_Rope_whole : Fun K "whole" "Rope.whole" s_Rope_whole a_Rope_whole fd_Rope_whole
  b_Rope_whole : Binds K fd_Rope_whole ["self"] []
  a_Rope_cut : Addr
  fd_Rope_cut : FuncData
  F_Rope_cut : Fun K "cut" "Rope.cut" s_Rope_cut a_Rope_cut fd_Rope_cut
  b_Rope_cut : Binds K fd_Rope_cut ["self", "start", "end"] []
  a_Rope_joined : Addr
  fd_Rope_joined : FuncData
  F_Rope_joined : Fun K "joined" "Rope.joined" s_Rope_joined a_Rope_joined fd_Rope_joined
  b_Rope_joined : Binds K fd_Rope_joined ["self", "other"] []
  a_Rope_edited : Addr
  fd_Rope_edited : FuncData
  F_Rope_edited : Fun K "edited" "Rope.edited" s_Rope_edited a_Rope_edited fd_Rope_edited
  b_Rope_edited : Binds K fd_Rope_edited ["self", "edits"] []
  a_tree : Addr
  fd_tree : FuncData
  F_tree : Fun K "_tree" "_tree" s_tree a_tree fd_tree
  b_tree : Binds K fd_tree ["pieces"] []
  g_tree : mg "_tree" = some (.ref a_tree)
  a_balanced : Addr
  fd_balanced : FuncData
  F_balanced : Fun K "_balanced" "_balanced" s_balanced a_balanced fd_balanced
  b_balanced : Binds K fd_balanced ["left", "right"] []
  g_balanced : mg "_balanced" = some (.ref a_balanced)
  a_Carry_init : Addr
  fd_Carry_init : FuncData
  F_Carry_init : Fun K "__init__" "Carry.__init__" s_Carry_init a_Carry_init fd_Carry_init
  b_Carry_init : Binds K fd_Carry_init ["self", "old", "new", "runs"] []
  a_Carry___iter__ : Addr
  fd_Carry___iter__ : FuncData
  F_Carry___iter__ : Fun K "__iter__" "Carry.__iter__" s_Carry___iter__ a_Carry___iter__ fd_Carry___iter__
  b_Carry___iter__ : Binds K fd_Carry___iter__ ["self"] []
  a_Carry___add__ : Addr
  fd_Carry___add__ : FuncData
  F_Carry___add__ : Fun K "__add__" "Carry.__add__" s_Carry___add__ a_Carry___add__ fd_Carry___add__
  b_Carry___add__ : Binds K fd_Carry___add__ ["self", "other"] []
  a_through : Addr
  fd_through : FuncData
  F_through : Fun K "_through" "_through" s_through a_through fd_through
  b_through : Binds K fd_through ["first", "second"] []
  g_through : mg "_through" = some (.ref a_through)
  a_joined_runs : Addr
  fd_joined_runs : FuncData
  F_joined_runs : Fun K "joined_runs" "joined_runs" s_joined_runs a_joined_runs fd_joined_runs
  b_joined_runs : Binds K fd_joined_runs ["pieces"] []
  g_joined_runs : mg "joined_runs" = some (.ref a_joined_runs)
  a_carry_of : Addr
  fd_carry_of : FuncData
  F_carry_of : Fun K "carry_of" "carry_of" s_carry_of a_carry_of fd_carry_of
  b_carry_of : Binds K fd_carry_of ["length", "edits"] []
  g_carry_of : mg "carry_of" = some (.ref a_carry_of)
  a_carry_of_one : Addr
  fd_carry_of_one : FuncData
  F_carry_of_one : Fun K "_carry_of_one" "_carry_of_one" s_carry_of_one a_carry_of_one fd_carry_of_one
  b_carry_of_one : Binds K fd_carry_of_one ["length", "start", "end", "count"] []
  g_carry_of_one : mg "_carry_of_one" = some (.ref a_carry_of_one)
  a_compact : Addr
  fd_compact : FuncData
  F_compact : Fun K "compact" "compact" s_compact a_compact fd_compact
  b_compact : Binds K fd_compact ["text", "edits"] []
  g_compact : mg "compact" = some (.ref a_compact)
  a_law_reel : Addr
  fd_law_reel : FuncData
  F_law_reel : Fun K "_law_reel" "_law_reel" s_law_reel a_law_reel fd_law_reel
  b_law_reel : Binds K fd_law_reel ["script"] []
  g_law_reel : mg "_law_reel" = some (.ref a_law_reel)
  a_law_draw : Addr
  fd_law_draw : FuncData
  F_law_draw : Fun K "_law_draw" "_law_draw" s_law_draw a_law_draw fd_law_draw
  b_law_draw : Binds K fd_law_draw ["reel", "size"] []
  g_law_draw : mg "_law_draw" = some (.ref a_law_draw)
  a_law_pick : Addr
  fd_law_pick : FuncData
  F_law_pick : Fun K "_law_pick" "_law_pick" s_law_pick a_law_pick fd_law_pick
  b_law_pick : Binds K fd_law_pick ["reel", "row"] []
  g_law_pick : mg "_law_pick" = some (.ref a_law_pick)
  a_law_word : Addr
  fd_law_word : FuncData
  F_law_word : Fun K "_law_word" "_law_word" s_law_word a_law_word fd_law_word
  b_law_word : Binds K fd_law_word ["reel", "letters", "least", "most"] []
  g_law_word : mg "_law_word" = some (.ref a_law_word)
  a_law_number : Addr
  fd_law_number : FuncData
  F_law_number : Fun K "_law_number" "_law_number" s_law_number a_law_number fd_law_number
  b_law_number : Binds K fd_law_number ["value"] []
  g_law_number : mg "_law_number" = some (.ref a_law_number)
  a_law_signs : Addr
  fd_law_signs : FuncData
  F_law_signs : Fun K "_law_signs" "_law_signs" s_law_signs a_law_signs fd_law_signs
  b_law_signs : Binds K fd_law_signs [] []
  g_law_signs : mg "_law_signs" = some (.ref a_law_signs)
  a_law_stepped : Addr
  fd_law_stepped : FuncData
  F_law_stepped : Fun K "_law_stepped" "_law_stepped" s_law_stepped a_law_stepped fd_law_stepped
  b_law_stepped : Binds K fd_law_stepped ["reel", "size"] []
  g_law_stepped : mg "_law_stepped" = some (.ref a_law_stepped)
  a_law_text : Addr
  fd_law_text : FuncData
  F_law_text : Fun K "_law_text" "_law_text" s_law_text a_law_text fd_law_text
  b_law_text : Binds K fd_law_text ["reel"] []
  g_law_text : mg "_law_text" = some (.ref a_law_text)
  a_law_new : Addr
  fd_law_new : FuncData
  F_law_new : Fun K "_law_new" "_law_new" s_law_new a_law_new fd_law_new
  b_law_new : Binds K fd_law_new ["reel"] []
  g_law_new : mg "_law_new" = some (.ref a_law_new)
  a_law_edit_row : Addr
  fd_law_edit_row : FuncData
  F_law_edit_row : Fun K "_law_edit_row" "_law_edit_row" s_law_edit_row a_law_edit_row fd_law_edit_row
  b_law_edit_row : Binds K fd_law_edit_row ["reel", "text", "count"] []
  g_law_edit_row : mg "_law_edit_row" = some (.ref a_law_edit_row)
  a_law_splice : Addr
  fd_law_splice : FuncData
  F_law_splice : Fun K "_law_splice" "_law_splice" s_law_splice a_law_splice fd_law_splice
  b_law_splice : Binds K fd_law_splice ["text", "edits"] []
  g_law_splice : mg "_law_splice" = some (.ref a_law_splice)
  a_law_tags : Addr
  fd_law_tags : FuncData
  F_law_tags : Fun K "_law_tags" "_law_tags" s_law_tags a_law_tags fd_law_tags
  b_law_tags : Binds K fd_law_tags ["size", "edits"] []
  g_law_tags : mg "_law_tags" = some (.ref a_law_tags)
  a_law_runs : Addr
  fd_law_runs : FuncData
  F_law_runs : Fun K "_law_runs" "_law_runs" s_law_runs a_law_runs fd_law_runs
  b_law_runs : Binds K fd_law_runs ["tags"] []
  g_law_runs : mg "_law_runs" = some (.ref a_law_runs)
  a_law_ahead : Addr
  fd_law_ahead : FuncData
  F_law_ahead : Fun K "_law_ahead" "_law_ahead" s_law_ahead a_law_ahead fd_law_ahead
  b_law_ahead : Binds K fd_law_ahead ["tags", "size"] []
  g_law_ahead : mg "_law_ahead" = some (.ref a_law_ahead)
  a_law_same_edit : Addr
  fd_law_same_edit : FuncData
  F_law_same_edit : Fun K "_law_same_edit" "_law_same_edit" s_law_same_edit a_law_same_edit fd_law_same_edit
  b_law_same_edit : Binds K fd_law_same_edit ["told", "due"] []
  g_law_same_edit : mg "_law_same_edit" = some (.ref a_law_same_edit)
  a_law_same_edits : Addr
  fd_law_same_edits : FuncData
  F_law_same_edits : Fun K "_law_same_edits" "_law_same_edits" s_law_same_edits a_law_same_edits fd_law_same_edits
  b_law_same_edits : Binds K fd_law_same_edits ["told", "due"] []
  g_law_same_edits : mg "_law_same_edits" = some (.ref a_law_same_edits)
  a_law_carry_ok : Addr
  fd_law_carry_ok : FuncData
  F_law_carry_ok : Fun K "_law_carry_ok" "_law_carry_ok" s_law_carry_ok a_law_carry_ok fd_law_carry_ok
  b_law_carry_ok : Binds K fd_law_carry_ok ["told", "old", "new", "runs"] []
  g_law_carry_ok : mg "_law_carry_ok" = some (.ref a_law_carry_ok)
  a_law_gaps : Addr
  fd_law_gaps : FuncData
  F_law_gaps : Fun K "_law_gaps" "_law_gaps" s_law_gaps a_law_gaps fd_law_gaps
  b_law_gaps : Binds K fd_law_gaps ["after", "runs"] []
  g_law_gaps : mg "_law_gaps" = some (.ref a_law_gaps)
  a_law_back : Addr
  fd_law_back : FuncData
  F_law_back : Fun K "_law_back" "_law_back" s_law_back a_law_back fd_law_back
  b_law_back : Binds K fd_law_back ["text", "edits"] []
  g_law_back : mg "_law_back" = some (.ref a_law_back)
  a_law_rope_is : Addr
  fd_law_rope_is : FuncData
  F_law_rope_is : Fun K "_law_rope_is" "_law_rope_is" s_law_rope_is a_law_rope_is fd_law_rope_is
  b_law_rope_is : Binds K fd_law_rope_is ["rope", "text"] []
  g_law_rope_is : mg "_law_rope_is" = some (.ref a_law_rope_is)
  a_law_texts_ok : Addr
  fd_law_texts_ok : FuncData
  F_law_texts_ok : Fun K "_law_texts_ok" "_law_texts_ok" s_law_texts_ok a_law_texts_ok fd_law_texts_ok
  b_law_texts_ok : Binds K fd_law_texts_ok ["text", "edits", "after", "short", "back"] []
  g_law_texts_ok : mg "_law_texts_ok" = some (.ref a_law_texts_ok)
  a_law_carries_ok : Addr
  fd_law_carries_ok : FuncData
  F_law_carries_ok : Fun K "_law_carries_ok" "_law_carries_ok" s_law_carries_ok a_law_carries_ok fd_law_carries_ok
  b_law_carries_ok : Binds K fd_law_carries_ok ["text", "edits", "after", "tags", "short", "back"] []
  g_law_carries_ok : mg "_law_carries_ok" = some (.ref a_law_carries_ok)
  a_law_characters_ok : Addr
  fd_law_characters_ok : FuncData
  F_law_characters_ok : Fun K "_law_characters_ok" "_law_characters_ok" s_law_characters_ok a_law_characters_ok fd_law_characters_ok
  b_law_characters_ok : Binds K fd_law_characters_ok ["text", "edits", "after"] []
  g_law_characters_ok : mg "_law_characters_ok" = some (.ref a_law_characters_ok)
  a_law : Addr
  fd_law : FuncData
  F_law : Fun K "law" "law" s_law a_law fd_law
  b_law : Binds K fd_law ["script"] []
  g_law : mg "law" = some (.ref a_law)
  m_range : mg "range" = none
  m_min : mg "min" = none
  m_max : mg "max" = none
  m_len : mg "len" = none
  m_abs : mg "abs" = none
  m_int : mg "int" = none
  m_sum : mg "sum" = none
  m_isinstance : mg "isinstance" = none
  m_bool : mg "bool" = none
  m_list : mg "list" = none
  m_tuple : mg "tuple" = none
  m_str : mg "str" = none
  m_enumerate : mg "enumerate" = none
  m_ValueError : mg "ValueError" = none
  m_iter : mg "iter" = none
  c_LONGEST : ∃ t, mg "LONGEST" = some (Value.int 16 t)
  C_MendedError : Addr
  G_MendedError : mg "MendedError" = some (.ref C_MendedError)
  C_EditError : Addr
  G_EditError : mg "EditError" = some (.ref C_EditError)
  C_Rope : Addr
  G_Rope : mg "Rope" = some (.ref C_Rope)
  C_Carry : Addr
  G_Carry : mg "Carry" = some (.ref C_Carry)
  B_MendedError : BaseC K C_MendedError
  E_EditError : ErrK K mg "EditError" C_EditError a_EditError_init
  n_EditError_index : PySem.W.findIn K (.ref C_EditError) "index" = some none
  CL_Rope : Cls K C_Rope
  MK_Rope : Mk K C_Rope a_Rope_init
  IC_Rope : C8.InsC K C_Rope
  NA_Rope_piece : NoAttr K C_Rope "piece"
  NA_Rope_left : NoAttr K C_Rope "left"
  NA_Rope_right : NoAttr K C_Rope "right"
  NA_Rope_size : NoAttr K C_Rope "size"
  NA_Rope_height : NoAttr K C_Rope "height"
  ME_Ropewhole : Meth K C_Rope "whole" a_Rope_whole
  ME_Ropecut : Meth K C_Rope "cut" a_Rope_cut
  ME_Ropejoined : Meth K C_Rope "joined" a_Rope_joined
  ME_Ropeedited : Meth K C_Rope "edited" a_Rope_edited
  ST_Ropeof : OwnOp.CSt K C_Rope "of" a_Rope_of
  CL_Carry : Cls K C_Carry
  MK_Carry : Mk K C_Carry a_Carry_init
  IC_Carry : C8.InsC K C_Carry
  NA_Carry_old : NoAttr K C_Carry "old"
  NA_Carry_new : NoAttr K C_Carry "new"
  NA_Carry_runs : NoAttr K C_Carry "runs"
  ME_Carry__add__ : Meth K C_Carry "__add__" a_Carry___add__
  SF_Carry : PySem.W.selfFirst K C_Carry = true
  IT_Carry : OwnOp.ItT K C_Carry a_Carry___iter__
/-! ### heaps: what a def leaves as it was -/
/-- all that was tracked but at r stands as it was -/
def But (r : Addr) (H H' : Hp) : Prop := ∀ b o, b ≠ r → H b = some o → H' b = some o
theorem But.refl (r : Addr) (H : Hp) : But r H H := fun _ _ _ h => h
theorem But.trans {r : Addr} {H H1 H2 : Hp} (a : But r H H1) (b : But r H1 H2) : But r H H2 := fun c o n h => b c o n (a c o n h)
theorem But.of {r : Addr} {H H' : Hp} (e : Same H H') : But r H H' := fun b o _ h => e b o h
theorem But.set {r : Addr} {H : Hp} {o : HO} : But r H (upd H r o) := fun b u n h => by rw [upd_ne n]; exact h
theorem But.new {r p : Addr} {H : Hp} {o : HO} (h : H p = none) : But r H (upd H p o) := fun b u _ e => by rw [upd_ne (ne_of_none e h)]; exact e
theorem same_upd {H : Hp} {p : Addr} {o : HO} (h : H p = none) : Same H (upd H p o) := fun b x e => by rw [upd_ne (ne_of_none e h)]; exact e
/-- the list that the drawing goes along: a place, then numbers -/
def ReelAt (H : Hp) (r : Addr) : Prop := ∃ (z : Int) (c : List Int), H r = some (.lst (.int z :: c.map V.int)) ∧ 1 ≤ c.length ∧ c.length ≤ 100000
theorem ReelAt.new {H : Hp} {r p : Addr} {o : HO} (h : ReelAt H r) (n : H p = none) : ReelAt (upd H p o) r := by
  obtain ⟨z, c, h1, h2⟩ := h
  exact ⟨z, c, by rw [upd_ne (ne_of_none h1 n)]; exact h1, h2⟩
theorem ReelAt.ne {H : Hp} {r p : Addr} (h : ReelAt H r) (n : H p = none) : r ≠ p := by
  obtain ⟨z, c, h1, h2⟩ := h
  exact ne_of_none h1 n
theorem atI_lt {xs : List V} {z : Int} (h0 : 0 ≤ z) (h : z.toNat < xs.length) : atI xs z = some (xs[z.toNat]'h) :=
  at_of (j := z.toNat) (by omega) (List.getElem?_eq_getElem h)
theorem at_of' {α : Type} {xs : List α} {z : Int} {c : α} (h0 : 0 ≤ z) (h : xs[z.toNat]? = some c) : atI xs z = some c := by
  have e : z = ((z.toNat : Nat) : Int) := by omega
  rw [e]
  exact atI_nat h
theorem fmod_range (a : Int) {n : Int} (h : 0 < n) : 0 ≤ a.fmod n ∧ a.fmod n < n := ⟨Int.fmod_nonneg_of_pos a h, Int.fmod_lt_of_pos a h⟩
theorem sz1 {n : Nat} (h : n ≤ 100000) : n ≤ sizeLine := Nat.le_trans h (by decide)
theorem sz2 {n : Nat} (h : n < 100000) : n < sizeLine := Nat.lt_of_lt_of_le h (by decide)
/-- a text's signs -/
abbrev cs (x : Str) : List Nat := x.cps.toList
theorem len_cs (x : Str) : x.length = (cs x).length := by
  show x.cps.size = x.cps.toList.length
  rw [Array.length_toList]
theorem cs_mk (l : List Nat) : cs ⟨l.toArray⟩ = l := rfl
theorem cs_inj {x y : Str} (h : cs x = cs y) : x = y := by
  cases x with
  | mk a =>
    cases y with
    | mk b =>
      have e : a = b := Array.toList_inj.mp h
      rw [e]
theorem cs_app (x y : Str) : cs (x ++ y) = cs x ++ cs y := by
  show (x.cps ++ y.cps).toList = _
  rw [Array.toList_append]
theorem cs_join {e : Str} (he : cs e = []) : ∀ ys : List Str, cs (Str.join e ys) = (ys.map cs).flatten
  | [] => rfl
  | [x] => by
    show cs x = ([x].map cs).flatten
    simp
  | x :: y :: r => by
    show cs (x ++ e ++ Str.join e (y :: r)) = _
    rw [cs_app, cs_app, he, List.append_nil, cs_join he (y :: r)]
    rfl
theorem cs_joinT {e : Str} (he : cs e = []) (ys : List Str) : cs (Txt.join e ys) = (ys.map cs).flatten := by rw [TL.join_eq]; exact cs_join he ys
/-- the text of one sign -/
abbrev sg (c : Nat) : Str := ⟨#[c]⟩
theorem sg_flat : ∀ l : List Nat, ((l.map sg).map cs).flatten = l
  | [] => rfl
  | c :: r => by
    show [c] ++ ((r.map sg).map cs).flatten = c :: r
    rw [sg_flat r]
    rfl
theorem sg_lens : ∀ l : List Nat, ((l.map sg).map (·.length)).sum = l.length
  | [] => rfl
  | c :: r => by
    show 1 + ((r.map sg).map (·.length)).sum = r.length + 1
    rw [sg_lens r]
    omega
theorem join_sg {e : Str} (he : cs e = []) (l : List Nat) : Txt.join e (l.map sg) = ⟨l.toArray⟩ := cs_inj (by rw [cs_joinT he, sg_flat])
theorem But.seq {r : Addr} {K : PySem.W.Frag} {H H' : Hp} {a : Addr} {xs : List V} (e : But r H H') (n : a ≠ r) (h : SqL K H a xs) : SqL K H' a xs := by
  rcases h with (h | ⟨o, h⟩) | h
  · exact .inl (.inl (e _ _ n h))
  · exact .inl (.inr ⟨o, e _ _ n h⟩)
  · exact .inr h
theorem But.free {r : Addr} {H H' : Hp} (e : But r H H') {l : Addr} (n : l ≠ r) (h : H' l = none) : H l = none := by
  cases q : H l with
  | none => rfl
  | some o =>
    rw [e l o n q] at h
    cases h
/-- a text whose signs are signs -/
def TOk (x : Str) : Prop := ∀ c ∈ cs x, c < 1114112
def tokB (x : Str) : Bool := x.cps.toList.all fun c => decide (c < 1114112)
theorem tok_of {x : Str} (h : tokB x = true) : TOk x := fun c hc => of_decide_eq_true (List.all_eq_true.mp h c hc)

section
variable {P : Program} {w : World} {K : PySem.W.Frag} {mg : Str → Option Value} {base : Heap}
/-! ### the reel -/
def spReel (K : PySem.W.Frag) : Sp := fun vs H Q _ => ∃ (a : Addr) (ns : List Int), vs = [.ref a] ∧ SqL K H a (ns.map V.int) ∧
  ∀ H' p, Same H H' → H p = none → ReelAt H' p → Q (.ref p) H'
def spDraw : Sp := fun vs H Q _ => ∃ (r : Addr) (n : Int), vs = [.ref r, .int n] ∧ ReelAt H r ∧ 0 < n ∧
  ∀ (v : Int) H', 0 ≤ v → v < n → But r H H' → ReelAt H' r → Q (.int v) H'
theorem ok_draw (T : Txt K mg) : FnOk P w K mg base CX0 1 T.a_law_draw T.fd_law_draw ["reel", "size"] spDraw := by
  refine T.F_law_draw.ok sc_law_draw (fun vs H Q E h => ?_) (fun cdv A outer s H vs Q E hr h => ?_)
  · obtain ⟨r, n, rfl, _⟩ := h
    rfl
  · obtain ⟨r, n, rfl, ⟨z, c, hr0, hc, hc2⟩, hn, q⟩ := h
    refine ⟨_, (pss_cons (ps_set (i := 2) sc_law_draw.nd rfl (.inl rfl) (pe_op op_sub (pe_callB call_len_seq (by rfl) T.m_len PySem.boot_len (pa_cons (pv 0) pa_nil)) pe_int))
      (pss_cons (ps_set (i := 3) sc_law_draw.nd rfl (.inl rfl) (pe_ix ix_list (pv 0) pe_int (fun _ _ => rfl)))
      (pss_cons (ps_asg (pe_op op_add (pv 3) pe_int) (pg_sub (pv 0) pe_int set_list))
      (pss_one (ps_ret (pe_op op_modN (pe_callTy call_int1 (by rfl) T.m_int (by decide +kernel) (pa_cons (pe_op op_add (pe_ix ix_list (pv 0) (pe_op op_add pe_int (pe_op op_modN (pe_callTy call_int1 (by rfl) T.m_int (by decide +kernel) (pa_cons (pv 3) pa_nil)) (pv 2))) (fun _ _ => rfl)) (pe_op op_mul (pe_op op_fdivN (pv 3) (pv 2)) pe_int)) pa_nil)) (pv 1))))))), ?_⟩
    have hl : (V.int z :: c.map V.int).length = c.length + 1 := by rw [List.length_cons, List.length_map]
    -- count = len(reel) - 1
    refine ⟨.ref r, rfl, r, _, rfl, .inl (SqL.of hr0), _, _, rfl, rfl, ?_⟩
    -- at = reel[0]
    refine ⟨.ref r, rfl, r, _, 0, .int z, rfl, rfl, SqL.of hr0, atI_nat (j := 0) rfl, ?_⟩
    -- reel[0] = at + 1
    refine ⟨_, rfl, z, 1, rfl, rfl, .ref r, rfl, r, _, 0, 0, rfl, rfl, hr0, by rw [hl]; unfold ixN; rw [if_pos (by omega), if_pos (by omega)]; rfl, ?_⟩
    have e1 : (V.int z :: c.map V.int).set 0 (.int (z + 1)) = .int (z + 1) :: c.map V.int := rfl
    rw [e1]
    have hc0 : (0 : Int) < ((V.int z :: c.map V.int).length : Int) - 1 := by rw [hl]; omega
    have fm := fmod_range z hc0
    have hat : 0 ≤ 1 + z.fmod (((V.int z :: c.map V.int).length : Int) - 1) := by omega
    have hat2 : (1 + z.fmod (((V.int z :: c.map V.int).length : Int) - 1)).toNat < (V.int (z + 1) :: c.map V.int).length := by
      have e2 : (V.int (z + 1) :: c.map V.int).length = c.length + 1 := by rw [List.length_cons, List.length_map]
      rw [hl] at fm ⊢
      rw [e2]
      omega
    obtain ⟨y, hy⟩ : ∃ y, atI (V.int (z + 1) :: c.map V.int) (1 + z.fmod (((V.int z :: c.map V.int).length : Int) - 1)) = some (.int y) := by
      have e := atI_lt hat hat2
      have e2 : (V.int (z + 1) :: c.map V.int) = ((z + 1) :: c).map V.int := rfl
      refine ⟨((z + 1) :: c)[(1 + z.fmod (((V.int z :: c.map V.int).length : Int) - 1)).toNat]'(by rw [e2, List.length_map] at hat2; exact hat2), ?_⟩
      rw [e]
      congr 1
      simp only [e2, List.getElem_map]
    -- return int(reel[1 + int(at) % count] + at // count * 389) % size
    refine ⟨.ref r, rfl, _, rfl, .inl ⟨z, rfl, ?_⟩⟩
    refine ⟨_, rfl, z, _, rfl, rfl, by omega, 1, _, rfl, rfl, r, _, _, .int y, rfl, rfl, SqL.of upd_same, hy, ?_⟩
    refine ⟨_, rfl, _, rfl, z, _, rfl, rfl, ⟨by omega, by rw [hl]; omega⟩, _, 389, rfl, rfl, .inr ⟨by decide, by decide⟩, _, _, rfl, rfl, .inl ⟨_, rfl, ?_⟩⟩
    refine ⟨_, rfl, _, n, rfl, rfl, by omega, ?_⟩
    exact q _ _ (fmod_range _ hn).1 (fmod_range _ hn).2 But.set ⟨z + 1, c, upd_same, hc, hc2⟩
/-- the words in which a turn of the reel's making is told -/
def Making (a o : Addr) (H : Hp) (n : Nat) (σ : L2.St) (H' : Hp) : Prop := ∃ y2 y3 y4 y5 y6, σ = [some (.ref a), some (.ref o), y2, y3, y4, y5, y6] ∧ Same H H' ∧ ∃ c : List Int, H' o = some (.lst (.int 0 :: c.map V.int)) ∧ c.length ≤ n
theorem ints_snoc (c : List Int) (x : Int) : (V.int 0 :: c.map V.int) ++ [V.int x] = .int 0 :: (c ++ [x]).map V.int := by
  rw [List.map_append]
  rfl
theorem same_mut {H H' : Hp} {p : Addr} {o : HO} (e : Same H H') (h : H p = none) : Same H (upd H' p o) := fun b x q => by
  rw [upd_ne (ne_of_none q h)]
  exact e b x q
theorem ok_reel (T : Txt K mg) : FnOk P w K mg base CX0 1 T.a_law_reel T.fd_law_reel ["script"] (spReel K) := by
  refine T.F_law_reel.ok sc_law_reel (fun vs H Q E h => ?_) (fun cdv A outer s H vs Q E hr h => ?_)
  · obtain ⟨a, ns, rfl, _⟩ := h
    rfl
  · obtain ⟨a, ns, rfl, hS, q⟩ := h
    refine ⟨_, (pss_cons (ps_set (i := 1) sc_law_reel.nd rfl (.inl rfl) (pe_lst (pa_cons pe_int pa_nil)))
      (pss_cons (ps_for PassesOwn.never rfl (pi_range1 (by rfl) T.m_range (pa_cons (pe_callB (call_min2 rfl) (by rfl) T.m_min (by decide +kernel) (pa_cons (pe_callB call_len_seq (by rfl) T.m_len PySem.boot_len (pa_cons (pv 0) pa_nil)) (pa_cons pe_int pa_nil))) pa_nil)) (pg_name (i := 2) sc_law_reel.nd rfl (.inl rfl)) (pss_cons (ps_set (i := 3) sc_law_reel.nd rfl (.inl rfl) (pe_ix ix_list (pv 0) (pv 2) (fun _ _ => rfl)))
      (pss_one (ps_if (pt_cmpR op_ge (pe_callB call_abs (by rfl) T.m_abs (by decide +kernel) (pa_cons (pv 3) pa_nil)) (pe_op op_pow pe_int pe_int) (nomark _)) (pss_cons (ps_set (i := 4) sc_law_reel.nd rfl (.inl rfl) (pe_callB call_abs (by rfl) T.m_abs (by decide +kernel) (pa_cons (pv 3) pa_nil)))
      (pss_one (ps_for PassesOwn.never rfl (pi_range1 (by rfl) T.m_range (pa_cons pe_int pa_nil)) (pg_name (i := 5) sc_law_reel.nd rfl (.inl rfl)) (pss_one (ps_if (pt_cmpR op_gt (pv 4) pe_int (nomark _)) (pss_cons (ps_expr (pe_bm PySem.F.plainAttrs_list PySem.F.slot_list_append PySem.F.type_list_append mt_append (pv 1) (pa_cons (pe_op op_mod (pe_callTy call_int1 (by rfl) T.m_int (by decide +kernel) (pa_cons (pv 4) pa_nil)) pe_int) pa_nil)))
      (pss_one (ps_set (i := 4) sc_law_reel.nd rfl (.inl rfl) (pe_op op_fdiv (pv 4) pe_int)))) pss_nil))))) (pss_cons (ps_set (i := 6) sc_law_reel.nd rfl (.inl rfl) (pe_op op_mod (pe_callTy call_int1 (by rfl) T.m_int (by decide +kernel) (pa_cons (pe_op op_add (pe_op op_add (pe_op op_mul (pv 3) pe_int) (pe_op op_mul (pv 2) pe_int)) pe_int) pa_nil)) pe_int))
      (pss_one (ps_for PassesOwn.never rfl (pi_range1 (by rfl) T.m_range (pa_cons pe_int pa_nil)) (pg_name (i := 5) sc_law_reel.nd rfl (.inl rfl)) (pss_cons (ps_set (i := 6) sc_law_reel.nd rfl (.inl rfl) (pe_op op_mod (pe_callTy call_int1 (by rfl) T.m_int (by decide +kernel) (pa_cons (pe_op op_add (pe_op op_add (pe_op op_mul (pv 6) pe_int) (pe_op op_mul (pv 5) pe_int)) pe_int) pa_nil)) pe_int))
      (pss_one (ps_expr (pe_bm PySem.F.plainAttrs_list PySem.F.slot_list_append PySem.F.type_list_append mt_append (pv 1) (pa_cons (pe_op op_mod (pe_callTy call_int1 (by rfl) T.m_int (by decide +kernel) (pa_cons (pe_op op_fdiv (pv 6) pe_int) pa_nil)) pe_int) pa_nil))))))))))))
      (pss_cons (ps_set (i := 6) sc_law_reel.nd rfl (.inl rfl) (pe_op op_mod (pe_callTy call_int1 (by rfl) T.m_int (by decide +kernel) (pa_cons (pe_op op_add (pe_op op_add (pe_op op_mul (pe_callB (cr_sum rfl) (by rfl) T.m_sum (by decide +kernel) (pa_cons (pv 1) pa_nil)) pe_int) (pe_op op_mul (pe_callB call_len_seq (by rfl) T.m_len PySem.boot_len (pa_cons (pv 1) pa_nil)) pe_int)) pe_int) pa_nil)) pe_int))
      (pss_cons (ps_for PassesOwn.never rfl (pi_range1 (by rfl) T.m_range (pa_cons pe_int pa_nil)) (pg_name (i := 5) sc_law_reel.nd rfl (.inl rfl)) (pss_cons (ps_set (i := 6) sc_law_reel.nd rfl (.inl rfl) (pe_op op_mod (pe_callTy call_int1 (by rfl) T.m_int (by decide +kernel) (pa_cons (pe_op op_add (pe_op op_add (pe_op op_mul (pv 6) pe_int) (pe_op op_mul (pv 5) pe_int)) pe_int) pa_nil)) pe_int))
      (pss_one (ps_expr (pe_bm PySem.F.plainAttrs_list PySem.F.slot_list_append PySem.F.type_list_append mt_append (pv 1) (pa_cons (pe_op op_mod (pe_callTy call_int1 (by rfl) T.m_int (by decide +kernel) (pa_cons (pe_op op_fdiv (pv 6) pe_int) pa_nil)) pe_int) pa_nil))))))
      (pss_one (ps_ret (pv 1))))))), ?_⟩
    -- reel = [0]
    refine ⟨by show 1 ≤ sizeLine; decide, fun o no => ?_⟩
    have s1 : Same H (upd H o (.lst [.int 0])) := same_upd no
    -- for k in range(min(len(script), 63))
    refine ⟨.ref a, rfl, a, _, rfl, .inl (s1.seq hS), _, _, rfl, _, rfl, by split <;> omega, by split <;> omega, ?_⟩
    refine for_range (lo := 0) (fun i σ H' => Making a o H (60 * i) σ H' ∧ i ≤ 63) ⟨⟨none, none, none, none, none, rfl, s1, [], upd_same, Nat.zero_le _⟩, Nat.zero_le _⟩ ?_ ?_
    · rintro i σ H3 hi ⟨⟨y2, y3, y4, y5, y6, rfl, s3, c, ho, hc⟩, hi63⟩
      have hi' : i < ns.length ∧ i < 63 := by
        rw [List.length_map] at hi
        split at hi <;> omega
      obtain ⟨x, hx⟩ : ∃ x, ns[i]? = some x := ⟨_, List.getElem?_eq_getElem hi'.1⟩
      -- cell = script[k]
      refine ⟨.ref a, rfl, _, rfl, a, _, _, .int x, rfl, rfl, s3.seq hS, at_of (j := i) (by omega) (by rw [List.getElem?_map, hx]; rfl), ?_⟩
      -- if abs(cell) >= 10 ** 18
      refine ⟨_, rfl, x, rfl, 10, 18, rfl, rfl, ⟨by decide, by decide, by decide⟩, _, _, rfl, rfl, _, rfl, ite2 (fun e => ?_) (fun e => ?_)⟩
      · -- rest = abs(cell); for turn in range(60)
        refine ⟨_, rfl, x, rfl, 60, rfl, by decide, by decide, ?_⟩
        refine for_range (lo := 0) (n := 60) (fun j σ H' => (∃ z : Int, σ[4]? = some (some (.int z))) ∧ Making a o H (60 * i + j) σ H') ⟨⟨_, rfl⟩, _, _, _, _, _, rfl, s3, c, ho, hc⟩ ?_ ?_
        · rintro j σ H4 hj ⟨⟨z, hz⟩, y2, y3, y4, y5, y6, rfl, s4, c, ho, hc⟩
          have hz' : y4 = some (.int z) := Option.some.inj hz
          subst hz'
          refine ⟨_, rfl, z, 0, rfl, rfl, _, rfl, ite2 (fun e => ?_) (fun e => ?_)⟩
          · refine ⟨.ref o, rfl, .inl ⟨rfl, _, SqL.of ho⟩, _, rfl, .inl ⟨z, rfl, z, 1009, rfl, rfl, (by show (0 : Int) < 1009; decide), o, _, _, rfl, rfl, ho, ?_, ?_⟩⟩
            · rw [List.length_cons, List.length_map]
              exact sz2 (by omega)
            · refine ⟨_, rfl, z, 1009, rfl, rfl, ⟨by decide, by decide⟩, ⟨_, rfl⟩, _, _, _, _, _, rfl, same_mut s4 no, c ++ [z % 1009], ?_, ?_⟩
              · rw [upd_same, ints_snoc]
              · rw [List.length_append]
                show c.length + 1 ≤ _
                omega
          · exact ⟨⟨z, rfl⟩, _, _, _, _, _, rfl, s4, c, ho, by omega⟩
        · rintro σ H4 ⟨_, y2, y3, y4, y5, y6, rfl, s4, c, ho, hc⟩
          exact ⟨⟨_, _, _, _, _, rfl, s4, c, ho, by omega⟩, by omega⟩
      · -- mixed = ..; for turn in range(4)
        refine ⟨_, rfl, x, 48271, rfl, rfl, .inr ⟨by decide, by decide⟩, _, rfl, _, 69621, rfl, rfl, .inr ⟨by decide, by decide⟩, _, _, rfl, rfl, _, 4099, rfl, rfl, .inl ⟨_, rfl, _, _, rfl, rfl, (by show (0 : Int) < 2147483647; decide), ?_⟩⟩
        refine ⟨4, rfl, by decide, by decide, ?_⟩
        refine for_range (lo := 0) (n := 4) (fun j σ H' => (∃ z : Int, σ[6]? = some (some (.int z))) ∧ Making a o H (60 * i + j) σ H') ⟨⟨_, rfl⟩, _, _, _, _, _, rfl, s3, c, ho, hc⟩ ?_ ?_
        · rintro j σ H4 hj ⟨⟨z, hz⟩, y2, y3, y4, y5, y6, rfl, s4, c, ho, hc⟩
          have hz' : y6 = some (.int z) := Option.some.inj hz
          subst hz'
          refine ⟨_, rfl, z, 16807, rfl, rfl, .inr ⟨by decide, by decide⟩, _, rfl, _, 7919, rfl, rfl, .inr ⟨by decide, by decide⟩, _, _, rfl, rfl, _, 101, rfl, rfl, .inl ⟨_, rfl, _, _, rfl, rfl, (by show (0 : Int) < 2147483629; decide), ?_⟩⟩
          refine ⟨.ref o, rfl, .inl ⟨rfl, _, SqL.of ho⟩, _, rfl, _, 2111, rfl, rfl, ⟨by decide, by decide⟩, .inl ⟨_, rfl, _, 1009, rfl, rfl, (by show (0 : Int) < 1009; decide), o, _, _, rfl, rfl, ho, ?_, ?_⟩⟩
          · rw [List.length_cons, List.length_map]
            exact sz2 (by omega)
          · refine ⟨⟨_, rfl⟩, _, _, _, _, _, rfl, same_mut s4 no, c ++ [((z * 16807 + (0 + (j : Int)) * 7919 + 101) % 2147483629 / 2111) % 1009], ?_, ?_⟩
            · rw [upd_same]
              exact congrArg (fun l => some (HO.lst l)) (ints_snoc c _)
            · rw [List.length_append]
              show c.length + 1 ≤ _
              omega
        · rintro σ H4 ⟨_, y2, y3, y4, y5, y6, rfl, s4, c, ho, hc⟩
          exact ⟨⟨_, _, _, _, _, rfl, s4, c, ho, by omega⟩, by omega⟩
    · rintro σ H3 ⟨⟨y2, y3, y4, y5, y6, rfl, s3, c, ho, hc⟩, hi63⟩
      have e0 : (V.int 0 :: c.map V.int) = ((0 : Int) :: c).map V.int := rfl
      have ho' : SqL K H3 o (((0 : Int) :: c).map V.int) := SqL.of ho
      refine ⟨.ref o, rfl, o, (0 : Int) :: c, rfl, ho', _, 69621, rfl, rfl, .inr ⟨by decide, by decide⟩, .ref o, rfl, o, _, rfl, .inl ho', _, 48271, rfl, rfl, .inr ⟨by decide, by decide⟩, _, _, rfl, rfl, _, 977, rfl, rfl, .inl ⟨_, rfl, _, _, rfl, rfl, (by show (0 : Int) < 2147483647; decide), ?_⟩⟩
      refine ⟨40, rfl, by decide, by decide, ?_⟩
      refine for_range (lo := 0) (n := 40) (fun j σ H' => (∃ z : Int, σ[6]? = some (some (.int z))) ∧ ∃ y2 y3 y4 y5 y6, σ = [some (.ref a), some (.ref o), y2, y3, y4, y5, y6] ∧ Same H H' ∧ ∃ c : List Int, H' o = some (.lst (.int 0 :: c.map V.int)) ∧ j ≤ c.length ∧ c.length ≤ 4000 + j) ⟨⟨_, rfl⟩, _, _, _, _, _, rfl, s3, c, ho, Nat.zero_le _, ?_⟩ ?_ ?_
      · have : (min' : Nat) → min' ≤ 63 → c.length ≤ 60 * min' → c.length ≤ 4000 + 0 := fun m h1 h2 => by omega
        exact this _ hi63 hc
      · rintro j σ H4 hj ⟨⟨z, hz⟩, y2, y3, y4, y5, y6, rfl, s4, c, ho, hc1, hc⟩
        have hz' : y6 = some (.int z) := Option.some.inj hz
        subst hz'
        refine ⟨_, rfl, z, 16807, rfl, rfl, .inr ⟨by decide, by decide⟩, _, rfl, _, 7919, rfl, rfl, .inr ⟨by decide, by decide⟩, _, _, rfl, rfl, _, 101, rfl, rfl, .inl ⟨_, rfl, _, _, rfl, rfl, (by show (0 : Int) < 2147483629; decide), ?_⟩⟩
        refine ⟨.ref o, rfl, .inl ⟨rfl, _, SqL.of ho⟩, _, rfl, _, 2111, rfl, rfl, ⟨by decide, by decide⟩, .inl ⟨_, rfl, _, 1009, rfl, rfl, (by show (0 : Int) < 1009; decide), o, _, _, rfl, rfl, ho, ?_, ?_⟩⟩
        · rw [List.length_cons, List.length_map]
          exact sz2 (by omega)
        · refine ⟨⟨_, rfl⟩, _, _, _, _, _, rfl, same_mut s4 no, c ++ [((z * 16807 + (0 + (j : Int)) * 7919 + 101) % 2147483629 / 2111) % 1009], ?_, ?_, ?_⟩
          · rw [upd_same]
            exact congrArg (fun l => some (HO.lst l)) (ints_snoc c _)
          · rw [List.length_append]
            show _ ≤ c.length + 1
            omega
          · rw [List.length_append]
            show c.length + 1 ≤ _
            omega
      · rintro σ H4 ⟨_, y2, y3, y4, y5, y6, rfl, s4, c, ho, hc1, hc⟩
        refine ⟨.ref o, rfl, q H4 o s4 no ⟨0, c, ho, by omega, by omega⟩⟩

/-! ### a drawn item, a drawn word -/
theorem But.seqT {r : Addr} {K : PySem.W.Frag} {H H' : Hp} {a : Addr} {xs : List V} (e : But r H H') (n : a ≠ r) (h : SqT K H a xs) : SqT K H' a xs := by
  rcases h with (h | ⟨o, h⟩) | h
  · exact .inl (.inl (e _ _ n h))
  · exact .inl (.inr ⟨o, e _ _ n h⟩)
  · exact .inr h
def spPick (K : PySem.W.Frag) : Sp := fun vs H Q _ => ∃ (r : Addr) (row : V), vs = [.ref r, row] ∧ ReelAt H r ∧
  ((∃ z, row = .str z ∧ 0 < (cs z).length ∧ (cs z).length ≤ 100000 ∧ ∀ c H', c ∈ cs z → But r H H' → ReelAt H' r → Q (.str (sg c)) H') ∨
   (∃ p xs, row = .ref p ∧ p ≠ r ∧ SqL K H p xs ∧ 0 < xs.length ∧ ∀ v H', v ∈ xs → But r H H' → ReelAt H' r → Q v H'))
theorem ok_pick (T : Txt K mg) : FnOk P w K mg base CX0 2 T.a_law_pick T.fd_law_pick ["reel", "row"] (spPick K) := by
  have G_law_draw : FnOk P w K mg base CX0 1 T.a_law_draw T.fd_law_draw ["reel", "size"] spDraw := ok_draw T
  refine T.F_law_pick.ok sc_law_pick (fun vs H Q E h => ?_) (fun cdv A outer s H vs Q E hr h => ?_)
  · obtain ⟨r, n, rfl, _⟩ := h
    rfl
  · have hr_law_draw : Room 1 _ := hr
    obtain ⟨r, row, rfl, hr0, ⟨z, rfl, hz, hz2, q⟩ | ⟨p, xs, rfl, hp, hS, hx, q⟩⟩ := h
    · refine ⟨_, (pss_one (ps_ret (pe_ix ix_seq (pv 1) (pe_call G_law_draw hr_law_draw (by rfl) T.g_law_draw T.F_law_draw.kp T.b_law_draw .nil pass0 (pa_cons (pv 0) (pa_cons (pe_callB call_len (by rfl) T.m_len PySem.boot_len (pa_cons (pv 1) pa_nil)) pa_nil))) (fun _ _ => rfl)))), ?_⟩
      have hl := len_cs z
      refine ⟨_, rfl, _, rfl, _, rfl, _, z.length, rfl, ⟨sz1 (by omega), rfl⟩, r, _, rfl, hr0, by omega, fun v H' h0 h1 hb hR => ?_⟩
      have hv : v.toNat < (cs z).length := by omega
      exact .inr (.inr ⟨z, v, (cs z)[v.toNat], rfl, rfl, sz1 (by omega), at_of' h0 (List.getElem?_eq_getElem hv), q _ _ (List.getElem_mem hv) hb hR⟩)
    · refine ⟨_, (pss_one (ps_ret (pe_ix ix_seq (pv 1) (pe_call G_law_draw hr_law_draw (by rfl) T.g_law_draw T.F_law_draw.kp T.b_law_draw .nil pass0 (pa_cons (pv 0) (pa_cons (pe_callB call_len (by rfl) T.m_len PySem.boot_len (pa_cons (pv 1) pa_nil)) pa_nil))) (fun _ _ => rfl)))), ?_⟩
      refine ⟨_, rfl, _, rfl, _, rfl, _, xs.length, rfl, .inl ⟨xs, hS, rfl⟩, r, _, rfl, hr0, by omega, fun v H' h0 h1 hb hR => ?_⟩
      have hv : v.toNat < xs.length := by omega
      exact .inl ⟨p, xs, v, xs[v.toNat], rfl, rfl, hb.seq hp hS, at_of (j := v.toNat) (by omega) (List.getElem?_eq_getElem hv), q _ _ (List.getElem_mem hv) hb hR⟩
def spWord : Sp := fun vs H Q _ => ∃ (r : Addr) (z : Str) (a b : Int), vs = [.ref r, .str z, .int a, .int b] ∧ ReelAt H r ∧ 0 < (cs z).length ∧ (cs z).length ≤ 100000 ∧ 0 ≤ a ∧ a ≤ b ∧ b ≤ 50000 ∧
  ∀ (x : Str) H', a ≤ ((cs x).length : Int) → ((cs x).length : Int) ≤ b → (∀ c ∈ cs x, c ∈ cs z) → But r H H' → ReelAt H' r → Q (.str x) H'
theorem map_snoc (l : List Nat) (c : Nat) : ((l.map sg).map V.str) ++ [V.str (sg c)] = ((l ++ [c]).map sg).map V.str := by
  rw [List.map_append, List.map_append]
  rfl
theorem ok_word (T : Txt K mg) : FnOk P w K mg base CX0 3 T.a_law_word T.fd_law_word ["reel", "letters", "least", "most"] spWord := by
  have G_law_draw : FnOk P w K mg base CX0 1 T.a_law_draw T.fd_law_draw ["reel", "size"] spDraw := ok_draw T
  have G_law_pick : FnOk P w K mg base CX0 2 T.a_law_pick T.fd_law_pick ["reel", "row"] (spPick K) := ok_pick T
  refine T.F_law_word.ok sc_law_word (fun vs H Q E h => ?_) (fun cdv A outer s H vs Q E hr h => ?_)
  · obtain ⟨r, z, a, b, rfl, _⟩ := h
    rfl
  · have hr_law_draw : Room 1 _ := hr.mono (by decide)
    have hr_law_pick : Room 2 _ := hr
    obtain ⟨r, z, a, b, rfl, hr0, hz, hz2, h0, h1, h2, q⟩ := h
    refine ⟨_, (pss_one (ps_ret (pe_join pe_str (pe_lc (own := [("k", 4)]) (g := gName 4) (by rfl) sc_law_word.nd (pi_range1 (by rfl) T.m_range (pa_cons (pe_op op_add (pv 2) (pe_call G_law_draw hr_law_draw (by rfl) T.g_law_draw T.F_law_draw.kp T.b_law_draw .nil pass0 (pa_cons (pv 0) (pa_cons (pe_op op_add (pe_op op_sub (pv 3) (pv 2)) pe_int) pa_nil)))) pa_nil)) (blkOk_by (own := [("k", 4)]) (N := ["reel", "letters", "least", "most", "k"]) (sc := defScope s_law_word) (by decide +kernel)) (fun _ _ _ _ _ => pg_name (i := 4) sc_law_word.nd rfl (Or.inl rfl)) (fun _ _ _ _ _ => pts_nil) (fun _ _ _ _ _ => (pe_call G_law_pick hr_law_pick (by rfl) T.g_law_pick T.F_law_pick.kp T.b_law_pick .nil pass0 (pa_cons (pv 0) (pa_cons (pv 1) pa_nil)))))))), ?_⟩
    refine ⟨⟨_, rfl⟩, _, rfl, _, rfl, _, rfl, _, rfl, _, _, rfl, rfl, _, 1, rfl, rfl, r, _, rfl, hr0, by omega, fun v H1 v0 v1 hb1 hR1 => ?_⟩
    refine ⟨_, _, rfl, rfl, _, rfl, by omega, by omega, fun D nD => ?_⟩
    refine lc_range (lo := 0) (n := (a + v).toNat) (fun i H' => ∃ l : List Nat, H' D = some (.lst ((l.map sg).map V.str)) ∧ l.length = i ∧ (∀ c ∈ l, c ∈ cs z) ∧ But r H1 H' ∧ ReelAt H' r)
      ⟨[], upd_same, rfl, (fun c hc => absurd hc List.not_mem_nil), But.new nD, hR1.new nD⟩ ?_ ?_
    · rintro i H' hi ⟨l, hD, hl, hm, hb, hR⟩
      refine ⟨rfl, _, rfl, _, rfl, r, _, rfl, hR, .inl ⟨z, rfl, hz, hz2, fun c H2 hc hb2 hR2 => ?_⟩⟩
      have hDr : D ≠ r := (hR1.ne nD).symm
      have hD2 := hb2 D _ hDr hD
      refine ⟨_, hD2, sz2 (by rw [List.length_map, List.length_map]; omega), l ++ [c], ?_, ?_, ?_, ?_, ?_⟩
      · rw [upd_same, map_snoc]
      · rw [List.length_append, hl]
        rfl
      · intro x hx
        rcases List.mem_append.mp hx with hx | hx
        · exact hm x hx
        · rw [List.mem_singleton.mp hx]
          exact hc
      · exact fun b o n e => by
          rw [upd_ne (ne_of_none e nD)]
          exact hb2 b o n (hb b o n e)
      · obtain ⟨z1, c1, e1, e2⟩ := hR2
        exact ⟨z1, c1, by rw [upd_ne hDr.symm]; exact e1, e2⟩
    · rintro H' ⟨l, hD, hl, hm, hb, hR⟩
      refine ⟨_, _, _, rfl, rfl, .inl (SqL.of hD), ?_, ?_⟩
      · rw [sg_lens, List.length_map]
        show l.length + l.length * 0 ≤ _
        omega
      · rw [join_sg rfl]
        exact q _ _ (by show a ≤ (l.length : Int); omega) (by show (l.length : Int) ≤ b; omega) hm (hb1.trans hb) hR

/-! ### drawn texts -/
def spNumber : Sp := fun vs H Q _ => ∃ i, vs = [.int i] ∧ Q (.bl true) H
theorem ok_number (T : Txt K mg) : FnOk P w K mg base CX0 1 T.a_law_number T.fd_law_number ["value"] spNumber := by
  refine T.F_law_number.ok sc_law_number (fun vs H Q E h => ?_) (fun cdv A outer s H vs Q E hr h => ?_)
  · obtain ⟨i, rfl, _⟩ := h
    rfl
  · obtain ⟨i, rfl, q⟩ := h
    refine ⟨_, (pss_one (ps_ret (pe_and (pe_callB call_isi (by rfl) T.m_isinstance (by decide +kernel) (pa_cons (pv 0) (pa_cons (pe_bltn (v := .ty "int") (by rfl) T.m_int (by decide +kernel) rfl) pa_nil))) (pe_one (pe_not (pe_callB call_isi (by rfl) T.m_isinstance (by decide +kernel) (pa_cons (pv 0) (pa_cons (pe_bltn (v := .ty "bool") (by rfl) T.m_bool (by decide +kernel) rfl) pa_nil)))))))), ?_⟩
    refine ⟨_, rfl, _, _, _, _, true, rfl, .ty _, .base (.int i), kit_ty (by decide +kernel), true, rfl, iteT ⟨_, rfl, _, _, _, _, false, rfl, .ty _, .base (.int i), kit_ty (by decide +kernel), false, rfl, q⟩⟩
def spSigns : Sp := fun vs H Q _ => vs = [] ∧ ∀ z : Str, (cs z).length = 96 → TOk z → Q (.str z) H
theorem ok_signs (T : Txt K mg) : FnOk P w K mg base CX0 1 T.a_law_signs T.fd_law_signs [] spSigns := by
  refine T.F_law_signs.ok sc_law_signs (fun vs H Q E h => ?_) (fun cdv A outer s H vs Q E hr h => ?_)
  · obtain ⟨rfl, _⟩ := h
    rfl
  · obtain ⟨rfl, q⟩ := h
    refine ⟨_, (pss_cons (ps_set (i := 0) sc_law_signs.nd rfl (.inl rfl) pe_str)
      (pss_one (ps_ret (pe_op op_add_str (pv 0) pe_str)))), ?_⟩
    refine ⟨_, rfl, _, _, rfl, rfl, by decide +kernel, ?_⟩
    exact q _ (by decide +kernel) (tok_of (by decide +kernel))
/-- every item of a written list of ints -/
theorem ints_of {vs : List V} {lo hi : Int} (h : ∀ v ∈ vs, ∃ i, v = V.int i ∧ lo ≤ i ∧ i ≤ hi) {v : V} (m : v ∈ vs) : ∃ i, v = V.int i ∧ lo ≤ i ∧ i ≤ hi := h v m
def intsIn (lo hi : Int) : List V → Bool
  | [] => true
  | .int i :: r => decide (lo ≤ i) && decide (i ≤ hi) && intsIn lo hi r
  | _ :: _ => false
theorem intsIn_mem {lo hi : Int} : ∀ {vs : List V}, intsIn lo hi vs = true → ∀ v ∈ vs, ∃ i, v = V.int i ∧ lo ≤ i ∧ i ≤ hi
  | [], _, v, m => absurd m List.not_mem_nil
  | .int i :: r, h, v, m => by
    unfold intsIn at h
    simp only [Bool.and_eq_true, decide_eq_true_eq] at h
    rcases List.mem_cons.mp m with rfl | m
    · exact ⟨i, rfl, h.1.1, h.1.2⟩
    · exact intsIn_mem h.2 v m
  | .non :: _, h, _, _ => by cases h
  | .bl _ :: _, h, _, _ => by cases h
  | .str _ :: _, h, _, _ => by cases h
  | .byt _ :: _, h, _, _ => by cases h
  | .flt _ :: _, h, _, _ => by cases h
  | .ref _ :: _, h, _, _ => by cases h
  | .ty _ :: _, h, _, _ => by cases h
def strsIn (lo hi : Nat) : List V → Bool
  | [] => true
  | .str z :: r => decide (lo ≤ z.cps.size) && decide (z.cps.size ≤ hi) && tokB z && strsIn lo hi r
  | _ :: _ => false
theorem strsIn_mem {lo hi : Nat} : ∀ {vs : List V}, strsIn lo hi vs = true → ∀ v ∈ vs, ∃ z, v = V.str z ∧ lo ≤ (cs z).length ∧ (cs z).length ≤ hi ∧ TOk z
  | [], _, v, m => absurd m List.not_mem_nil
  | .str z :: r, h, v, m => by
    unfold strsIn at h
    simp only [Bool.and_eq_true, decide_eq_true_eq] at h
    rcases List.mem_cons.mp m with rfl | m
    · have e : (cs z).length = z.cps.size := by
        show z.cps.toList.length = _
        rw [Array.length_toList]
      exact ⟨z, rfl, by omega, by omega, tok_of h.1.2⟩
    · exact strsIn_mem h.2 v m
  | .non :: _, h, _, _ => by cases h
  | .bl _ :: _, h, _, _ => by cases h
  | .int _ :: _, h, _, _ => by cases h
  | .byt _ :: _, h, _, _ => by cases h
  | .flt _ :: _, h, _, _ => by cases h
  | .ref _ :: _, h, _, _ => by cases h
  | .ty _ :: _, h, _, _ => by cases h
theorem strs4 {z1 z2 : Str} {a b : Str} (h1 : (cs z1).length = 96) (h2 : (cs z2).length = 96) (o1 : TOk z1) (o2 : TOk z2) (ha : strsIn 1 96 [.str a, .str b] = true) {v : V} (m : v ∈ [V.str z1, V.str z2, V.str a, V.str b]) :
    ∃ z, v = V.str z ∧ 0 < (cs z).length ∧ (cs z).length ≤ 96 ∧ TOk z := by
  rcases List.mem_cons.mp m with rfl | m
  · exact ⟨z1, rfl, by omega, by omega, o1⟩
  rcases List.mem_cons.mp m with rfl | m
  · exact ⟨z2, rfl, by omega, by omega, o2⟩
  obtain ⟨z, e, h3, h4, h5⟩ := strsIn_mem ha v m
  exact ⟨z, e, by omega, h4, h5⟩
def spStepped : Sp := fun vs H Q _ => ∃ (r : Addr) (n : Int), vs = [.ref r, .int n] ∧ ReelAt H r ∧ 0 ≤ n ∧ n ≤ 50000 ∧ ∀ (x : Str) H', ((cs x).length : Int) = n → TOk x → But r H H' → ReelAt H' r → Q (.str x) H'
theorem ok_stepped (T : Txt K mg) : FnOk P w K mg base CX0 3 T.a_law_stepped T.fd_law_stepped ["reel", "size"] spStepped := by
  have G_law_draw : FnOk P w K mg base CX0 1 T.a_law_draw T.fd_law_draw ["reel", "size"] spDraw := ok_draw T
  have G_law_pick : FnOk P w K mg base CX0 2 T.a_law_pick T.fd_law_pick ["reel", "row"] (spPick K) := ok_pick T
  have G_law_signs : FnOk P w K mg base CX0 1 T.a_law_signs T.fd_law_signs [] spSigns := ok_signs T
  refine T.F_law_stepped.ok sc_law_stepped (fun vs H Q E h => ?_) (fun cdv A outer s H vs Q E hr h => ?_)
  · obtain ⟨r, n, rfl, _⟩ := h
    rfl
  · have hr_law_draw : Room 1 _ := hr.mono (by decide)
    have hr_law_signs : Room 1 _ := hr.mono (by decide)
    have hr_law_pick : Room 2 _ := hr
    obtain ⟨r, n, rfl, hr0, h0, h1, q⟩ := h
    refine ⟨_, (pss_cons (ps_set (i := 2) sc_law_stepped.nd rfl (.inr rfl) (pe_call G_law_pick hr_law_pick (by rfl) T.g_law_pick T.F_law_pick.kp T.b_law_pick .nil pass0 (pa_cons (pv 0) (pa_cons (pe_lst (pa_cons (pe_call0 G_law_signs hr_law_signs (by rfl) T.g_law_signs T.F_law_signs.kp T.b_law_signs .nil pass0) (pa_cons (pe_call0 G_law_signs hr_law_signs (by rfl) T.g_law_signs T.F_law_signs.kp T.b_law_signs .nil pass0) (pa_cons pe_str (pa_cons pe_str pa_nil))))) pa_nil))))
      (pss_cons (ps_set (i := 3) sc_law_stepped.nd rfl (.inr rfl) (pe_call G_law_draw hr_law_draw (by rfl) T.g_law_draw T.F_law_draw.kp T.b_law_draw .nil pass0 (pa_cons (pv 0) (pa_cons pe_int pa_nil))))
      (pss_cons (ps_set (i := 4) sc_law_stepped.nd rfl (.inr rfl) (pe_call G_law_pick hr_law_pick (by rfl) T.g_law_pick T.F_law_pick.kp T.b_law_pick .nil pass0 (pa_cons (pv 0) (pa_cons (pe_lst (pa_cons pe_int (pa_cons pe_int (pa_cons pe_int (pa_cons pe_int pa_nil))))) pa_nil))))
      (pss_one (ps_ret (pe_join pe_str (pe_lc (own := [("k", 5)]) (g := gName 5) (by rfl) sc_law_stepped.nd (pi_range1 (by rfl) T.m_range (pa_cons (pv 1) pa_nil)) (blkOk_by (own := [("k", 5)]) (N := ["reel", "size", "letters", "first", "step", "k"]) (sc := defScope s_law_stepped) (by decide +kernel)) (fun _ _ _ _ _ => pg_name (i := 5) sc_law_stepped.nd rfl (Or.inl rfl)) (fun _ _ _ _ _ => pts_nil) (fun _ _ _ _ _ => (pe_ix ix_str (pv 2) (pe_op op_modN (pe_callTy call_int1 (by rfl) T.m_int (by decide +kernel) (pa_cons (pe_op op_add (pv 3) (pe_op op_mul (pv 5) (pv 4))) pa_nil)) (pe_callB call_len_str (by rfl) T.m_len PySem.boot_len (pa_cons (pv 2) pa_nil))) (fun _ _ => rfl)))))))))), ?_⟩
    -- letters
    refine ⟨_, rfl, rfl, fun z1 l1 o1 => ⟨rfl, fun z2 l2 o2 => ⟨by show 4 ≤ sizeLine; decide, fun p np => ?_⟩⟩⟩
    refine ⟨r, _, rfl, hr0.new np, .inr ⟨p, _, rfl, (hr0.ne np).symm, SqL.of upd_same, by show 0 < 4; decide, fun v H1 hv hb1 hR1 => ?_⟩⟩
    obtain ⟨z, rfl, hz0, hz1, hzo⟩ := strs4 l1 l2 o1 o2 (by decide +kernel) hv
    have hb1' : But r H H1 := (But.new np).trans hb1
    -- first
    refine ⟨_, rfl, r, _, rfl, hR1, by decide, fun f H2 f0 f1 hb2 hR2 => ?_⟩
    -- step
    refine ⟨_, rfl, by show 4 ≤ sizeLine; decide, fun p2 np2 => ?_⟩
    refine ⟨r, _, rfl, hR2.new np2, .inr ⟨p2, _, rfl, (hR2.ne np2).symm, SqL.of upd_same, by show 0 < 4; decide, fun v H3 hv hb3 hR3 => ?_⟩⟩
    obtain ⟨st, rfl, hs0, hs1⟩ : ∃ i : Int, v = .int i ∧ 0 ≤ i ∧ i ≤ 100 := by
      rcases List.mem_cons.mp hv with rfl | hv
      · exact ⟨1, rfl, by decide, by decide⟩
      rcases List.mem_cons.mp hv with rfl | hv
      · exact ⟨5, rfl, by decide, by decide⟩
      rcases List.mem_cons.mp hv with rfl | hv
      · exact ⟨7, rfl, by decide, by decide⟩
      rcases List.mem_cons.mp hv with rfl | hv
      · exact ⟨95, rfl, by decide, by decide⟩
      · exact absurd hv List.not_mem_nil
    have hb3' : But r H H3 := hb1'.trans (hb2.trans ((But.new np2).trans hb3))
    refine ⟨⟨_, rfl⟩, _, rfl, n, rfl, by omega, by omega, fun D nD => ?_⟩
    refine lc_range (lo := 0) (n := n.toNat) (fun i H' => ∃ l : List Nat, H' D = some (.lst ((l.map sg).map V.str)) ∧ l.length = i ∧ (∀ c ∈ l, c < 1114112) ∧ But r H3 H' ∧ ReelAt H' r)
      ⟨[], upd_same, rfl, (fun c hc => absurd hc List.not_mem_nil), But.new nD, hR3.new nD⟩ ?_ ?_
    · rintro i H' hi ⟨l, hD, hl, hlo, hb, hR⟩
      have fm := fmod_range (f + (0 + (i : Int)) * st) (n := (z.length : Int)) (by rw [len_cs]; omega)
      have hlz := len_cs z
      have hv : ((f + (0 + (i : Int)) * st).fmod (z.length : Int)).toNat < (cs z).length := by omega
      obtain ⟨c, hc⟩ : ∃ c, (cs z)[((f + (0 + (i : Int)) * st).fmod (z.length : Int)).toNat]? = some c := ⟨_, List.getElem?_eq_getElem hv⟩
      refine ⟨rfl, _, rfl, _, rfl, _, rfl, _, rfl, _, _, rfl, rfl, .inr ⟨by omega, by omega⟩, _, _, rfl, rfl, .inl ⟨_, rfl, ?_⟩⟩
      refine ⟨_, rfl, z, rfl, sz1 (by omega), _, _, rfl, rfl, by omega, z, _, c, rfl, rfl, sz1 (by omega), at_of' fm.1 hc, ?_⟩
      have hDr : D ≠ r := (hR3.ne nD).symm
      refine ⟨_, hD, sz2 (by rw [List.length_map, List.length_map]; omega), l ++ [c], ?_, ?_, ?_, ?_, ?_⟩
      · rw [upd_same, map_snoc]
      · rw [List.length_append, hl]
        rfl
      · intro x hx
        rcases List.mem_append.mp hx with hx | hx
        · exact hlo x hx
        · rw [List.mem_singleton.mp hx]
          exact hzo c (List.mem_of_getElem? hc)
      · exact fun b o n e => by
          rw [upd_ne (ne_of_none e nD)]
          exact hb b o n e
      · obtain ⟨z1, c1, e1, e2⟩ := hR
        exact ⟨z1, c1, by rw [upd_ne hDr.symm]; exact e1, e2⟩
    · rintro H' ⟨l, hD, hl, hlo, hb, hR⟩
      refine ⟨_, _, _, rfl, rfl, .inl (SqL.of hD), ?_, ?_⟩
      · rw [sg_lens, List.length_map]
        show l.length + l.length * 0 ≤ _
        omega
      · rw [join_sg rfl]
        exact q _ _ (by show (l.length : Int) = n; omega) hlo (hb3'.trans hb) hR
/-- a text of at most n signs -/
def spText (m : Nat) : Sp := fun vs H Q _ => ∃ (r : Addr), vs = [.ref r] ∧ ReelAt H r ∧ ∀ (x : Str) H', (cs x).length ≤ m → TOk x → But r H H' → ReelAt H' r → Q (.str x) H'

theorem ok_text (T : Txt K mg) : FnOk P w K mg base CX0 4 T.a_law_text T.fd_law_text ["reel"] (spText 2000) := by
  have G_law_draw : FnOk P w K mg base CX0 1 T.a_law_draw T.fd_law_draw ["reel", "size"] spDraw := ok_draw T
  have G_law_pick : FnOk P w K mg base CX0 2 T.a_law_pick T.fd_law_pick ["reel", "row"] (spPick K) := ok_pick T
  have G_law_word : FnOk P w K mg base CX0 3 T.a_law_word T.fd_law_word ["reel", "letters", "least", "most"] spWord := ok_word T
  have G_law_signs : FnOk P w K mg base CX0 1 T.a_law_signs T.fd_law_signs [] spSigns := ok_signs T
  have G_law_stepped : FnOk P w K mg base CX0 3 T.a_law_stepped T.fd_law_stepped ["reel", "size"] spStepped := ok_stepped T
  refine T.F_law_text.ok sc_law_text (fun vs H Q E h => ?_) (fun cdv A outer s H vs Q E hr h => ?_)
  · obtain ⟨r, rfl, _⟩ := h
    rfl
  · have hr_law_draw : Room 1 _ := hr.mono (by decide)
    have hr_law_signs : Room 1 _ := hr.mono (by decide)
    have hr_law_pick : Room 2 _ := hr.mono (by decide)
    have hr_law_word : Room 3 _ := hr
    have hr_law_stepped : Room 3 _ := hr
    obtain ⟨r, rfl, hr0, q⟩ := h
    refine ⟨_, (pss_cons (ps_set (i := 1) sc_law_text.nd rfl (.inl rfl) (pe_call G_law_draw hr_law_draw (by rfl) T.g_law_draw T.F_law_draw.kp T.b_law_draw .nil pass0 (pa_cons (pv 0) (pa_cons pe_int pa_nil))))
      (pss_cons (ps_if (pt_cmpR op_eq (pv 1) pe_int (nomark _)) (pss_cons (ps_set (i := 2) sc_law_text.nd rfl (.inl rfl) (pe_op op_add pe_int (pe_call G_law_draw hr_law_draw (by rfl) T.g_law_draw T.F_law_draw.kp T.b_law_draw .nil pass0 (pa_cons (pv 0) (pa_cons pe_int pa_nil)))))
      (pss_cons (ps_if (pt_cmpR op_eq (pe_call G_law_draw hr_law_draw (by rfl) T.g_law_draw T.F_law_draw.kp T.b_law_draw .nil pass0 (pa_cons (pv 0) (pa_cons pe_int pa_nil))) pe_int (nomark _)) (pss_one (ps_set (i := 2) sc_law_text.nd rfl (.inl rfl) (pe_op op_sub pe_int (pe_call G_law_draw hr_law_draw (by rfl) T.g_law_draw T.F_law_draw.kp T.b_law_draw .nil pass0 (pa_cons (pv 0) (pa_cons pe_int pa_nil)))))) pss_nil)
      (pss_one (ps_ret (pe_call G_law_stepped hr_law_stepped (by rfl) T.g_law_stepped T.F_law_stepped.kp T.b_law_stepped .nil pass0 (pa_cons (pv 0) (pa_cons (pv 2) pa_nil))))))) pss_nil)
      (pss_cons (ps_if (pt_cmpR op_lt (pv 1) pe_int (nomark _)) (pss_one (ps_ret (pe_call G_law_stepped hr_law_stepped (by rfl) T.g_law_stepped T.F_law_stepped.kp T.b_law_stepped .nil pass0 (pa_cons (pv 0) (pa_cons (pe_call G_law_pick hr_law_pick (by rfl) T.g_law_pick T.F_law_pick.kp T.b_law_pick .nil pass0 (pa_cons (pv 0) (pa_cons (pe_lst (pa_cons pe_int (pa_cons pe_int (pa_cons pe_int (pa_cons pe_int (pa_cons pe_int (pa_cons pe_int (pa_cons pe_int pa_nil)))))))) pa_nil))) pa_nil))))) pss_nil)
      (pss_one (ps_ret (pe_call G_law_word hr_law_word (by rfl) T.g_law_word T.F_law_word.kp T.b_law_word .nil pass0 (pa_cons (pv 0) (pa_cons (pe_call G_law_pick hr_law_pick (by rfl) T.g_law_pick T.F_law_pick.kp T.b_law_pick .nil pass0 (pa_cons (pv 0) (pa_cons (pe_lst (pa_cons (pe_call0 G_law_signs hr_law_signs (by rfl) T.g_law_signs T.F_law_signs.kp T.b_law_signs .nil pass0) (pa_cons (pe_call0 G_law_signs hr_law_signs (by rfl) T.g_law_signs T.F_law_signs.kp T.b_law_signs .nil pass0) (pa_cons pe_str (pa_cons pe_str pa_nil))))) pa_nil))) (pa_cons pe_int (pa_cons (pe_call G_law_pick hr_law_pick (by rfl) T.g_law_pick T.F_law_pick.kp T.b_law_pick .nil pass0 (pa_cons (pv 0) (pa_cons (pe_lst (pa_cons pe_int (pa_cons pe_int (pa_cons pe_int (pa_cons pe_int pa_nil))))) pa_nil))) pa_nil)))))))))), ?_⟩
    -- form
    refine ⟨_, rfl, r, _, rfl, hr0, by decide, fun f H1 f0 f1 hb1 hR1 => ?_⟩
    refine ⟨_, rfl, rfl, _, rfl, ite2 (fun e => ?_) (fun e => ?_)⟩
    · refine ⟨_, rfl, r, _, rfl, hR1, by decide, fun a H2 a0 a1 hb2 hR2 => ?_⟩
      refine ⟨200, a, rfl, rfl, ?_⟩
      refine ⟨_, rfl, r, _, rfl, hR2, by decide, fun b H3 b0 b1 hb3 hR3 => ?_⟩
      have hb := hb1.trans (hb2.trans hb3)
      refine ⟨rfl, _, rfl, ite2 (fun e => ?_) (fun e => ?_)⟩
      · refine ⟨_, rfl, r, _, rfl, hR3, by decide, fun c H4 c0 c1 hb4 hR4 => ?_⟩
        refine ⟨2000, c, rfl, rfl, _, rfl, _, rfl, r, _, rfl, hR4, by omega, by omega, fun x H5 hx ho hb5 hR5 => ?_⟩
        exact q x H5 (by omega) ho (hb.trans (hb4.trans hb5)) hR5
      · refine ⟨_, rfl, _, rfl, r, _, rfl, hR3, by omega, by omega, fun x H5 hx ho hb5 hR5 => ?_⟩
        exact q x H5 (by omega) ho (hb.trans hb5) hR5
    · refine ⟨_, rfl, f, 4, rfl, rfl, _, rfl, ite2 (fun e => ?_) (fun e => ?_)⟩
      · refine ⟨_, rfl, _, rfl, by show 7 ≤ sizeLine; decide, fun p np => ?_⟩
        refine ⟨r, _, rfl, hR1.new np, .inr ⟨p, _, rfl, (hR1.ne np).symm, SqL.of upd_same, by show 0 < 7; decide, fun v H2 hv hb2 hR2 => ?_⟩⟩
        obtain ⟨i, rfl, i0, i1⟩ := intsIn_mem (lo := 0) (hi := 60) (by decide +kernel) v hv
        refine ⟨r, _, rfl, hR2, i0, by omega, fun x H5 hx ho hb5 hR5 => ?_⟩
        exact q x H5 (by omega) ho (hb1.trans ((But.new np).trans (hb2.trans hb5))) hR5
      · refine ⟨_, rfl, _, rfl, rfl, fun z1 l1 o1 => ⟨rfl, fun z2 l2 o2 => ⟨by show 4 ≤ sizeLine; decide, fun p np => ?_⟩⟩⟩
        refine ⟨r, _, rfl, hR1.new np, .inr ⟨p, _, rfl, (hR1.ne np).symm, SqL.of upd_same, by show 0 < 4; decide, fun v H2 hv hb2 hR2 => ?_⟩⟩
        obtain ⟨z, rfl, hz0, hz1, hzo⟩ := strs4 l1 l2 o1 o2 (by decide +kernel) hv
        refine ⟨_, rfl, by show 4 ≤ sizeLine; decide, fun p2 np2 => ?_⟩
        refine ⟨r, _, rfl, hR2.new np2, .inr ⟨p2, _, rfl, (hR2.ne np2).symm, SqL.of upd_same, by show 0 < 4; decide, fun v H3 hv hb3 hR3 => ?_⟩⟩
        obtain ⟨i, rfl, i0, i1⟩ := intsIn_mem (lo := 1) (hi := 20) (by decide +kernel) v hv
        refine ⟨r, z, 0, i, rfl, hR3, hz0, by omega, by decide, by omega, by omega, fun x H5 hx hx2 hxz hb5 hR5 => ?_⟩
        exact q x H5 (by omega) (fun c hc => hzo c (hxz c hc)) (hb1.trans ((But.new np).trans (hb2.trans ((But.new np2).trans (hb3.trans hb5))))) hR5

theorem ok_new (T : Txt K mg) : FnOk P w K mg base CX0 4 T.a_law_new T.fd_law_new ["reel"] (spText 300) := by
  have G_law_draw : FnOk P w K mg base CX0 1 T.a_law_draw T.fd_law_draw ["reel", "size"] spDraw := ok_draw T
  have G_law_pick : FnOk P w K mg base CX0 2 T.a_law_pick T.fd_law_pick ["reel", "row"] (spPick K) := ok_pick T
  have G_law_word : FnOk P w K mg base CX0 3 T.a_law_word T.fd_law_word ["reel", "letters", "least", "most"] spWord := ok_word T
  have G_law_signs : FnOk P w K mg base CX0 1 T.a_law_signs T.fd_law_signs [] spSigns := ok_signs T
  have G_law_stepped : FnOk P w K mg base CX0 3 T.a_law_stepped T.fd_law_stepped ["reel", "size"] spStepped := ok_stepped T
  refine T.F_law_new.ok sc_law_new (fun vs H Q E h => ?_) (fun cdv A outer s H vs Q E hr h => ?_)
  · obtain ⟨r, rfl, _⟩ := h
    rfl
  · have hr_law_draw : Room 1 _ := hr.mono (by decide)
    have hr_law_signs : Room 1 _ := hr.mono (by decide)
    have hr_law_pick : Room 2 _ := hr.mono (by decide)
    have hr_law_word : Room 3 _ := hr
    have hr_law_stepped : Room 3 _ := hr
    obtain ⟨r, rfl, hr0, q⟩ := h
    refine ⟨_, (pss_cons (ps_if (pt_cmpR op_eq (pe_call G_law_draw hr_law_draw (by rfl) T.g_law_draw T.F_law_draw.kp T.b_law_draw .nil pass0 (pa_cons (pv 0) (pa_cons pe_int pa_nil))) pe_int (nomark _)) (pss_one (ps_ret (pe_call G_law_stepped hr_law_stepped (by rfl) T.g_law_stepped T.F_law_stepped.kp T.b_law_stepped .nil pass0 (pa_cons (pv 0) (pa_cons (pe_call G_law_pick hr_law_pick (by rfl) T.g_law_pick T.F_law_pick.kp T.b_law_pick .nil pass0 (pa_cons (pv 0) (pa_cons (pe_lst (pa_cons pe_int (pa_cons pe_int (pa_cons pe_int (pa_cons pe_int (pa_cons pe_int (pa_cons pe_int (pa_cons pe_int (pa_cons pe_int (pa_cons pe_int pa_nil)))))))))) pa_nil))) pa_nil))))) pss_nil)
      (pss_cons (ps_set (i := 1) sc_law_new.nd rfl (.inl rfl) (pe_call G_law_pick hr_law_pick (by rfl) T.g_law_pick T.F_law_pick.kp T.b_law_pick .nil pass0 (pa_cons (pv 0) (pa_cons (pe_lst (pa_cons pe_int (pa_cons pe_int (pa_cons pe_int (pa_cons pe_int (pa_cons pe_int (pa_cons pe_int (pa_cons pe_int (pa_cons pe_int pa_nil))))))))) pa_nil))))
      (pss_one (ps_ret (pe_call G_law_word hr_law_word (by rfl) T.g_law_word T.F_law_word.kp T.b_law_word .nil pass0 (pa_cons (pv 0) (pa_cons (pe_call G_law_pick hr_law_pick (by rfl) T.g_law_pick T.F_law_pick.kp T.b_law_pick .nil pass0 (pa_cons (pv 0) (pa_cons (pe_lst (pa_cons (pe_call0 G_law_signs hr_law_signs (by rfl) T.g_law_signs T.F_law_signs.kp T.b_law_signs .nil pass0) (pa_cons (pe_call0 G_law_signs hr_law_signs (by rfl) T.g_law_signs T.F_law_signs.kp T.b_law_signs .nil pass0) (pa_cons pe_str (pa_cons pe_str pa_nil))))) pa_nil))) (pa_cons (pv 1) (pa_cons (pv 1) pa_nil))))))))), ?_⟩
    refine ⟨_, rfl, r, _, rfl, hr0, by decide, fun f H1 f0 f1 hb1 hR1 => ?_⟩
    refine ⟨rfl, _, rfl, ite2 (fun e => ?_) (fun e => ?_)⟩
    · refine ⟨_, rfl, _, rfl, by show 9 ≤ sizeLine; decide, fun p np => ?_⟩
      refine ⟨r, _, rfl, hR1.new np, .inr ⟨p, _, rfl, (hR1.ne np).symm, SqL.of upd_same, by show 0 < 9; decide, fun v H2 hv hb2 hR2 => ?_⟩⟩
      obtain ⟨i, rfl, i0, i1⟩ := intsIn_mem (lo := 15) (hi := 300) (by decide +kernel) v hv
      refine ⟨r, _, rfl, hR2, by omega, by omega, fun x H5 hx ho hb5 hR5 => ?_⟩
      exact q x H5 (by omega) ho (hb1.trans ((But.new np).trans (hb2.trans hb5))) hR5
    · refine ⟨_, rfl, by show 8 ≤ sizeLine; decide, fun p np => ?_⟩
      refine ⟨r, _, rfl, hR1.new np, .inr ⟨p, _, rfl, (hR1.ne np).symm, SqL.of upd_same, by show 0 < 8; decide, fun v H2 hv hb2 hR2 => ?_⟩⟩
      obtain ⟨i, rfl, i0, i1⟩ := intsIn_mem (lo := 0) (hi := 5) (by decide +kernel) v hv
      refine ⟨_, rfl, _, rfl, rfl, fun z1 l1 o1 => ⟨rfl, fun z2 l2 o2 => ⟨by show 4 ≤ sizeLine; decide, fun p2 np2 => ?_⟩⟩⟩
      refine ⟨r, _, rfl, hR2.new np2, .inr ⟨p2, _, rfl, (hR2.ne np2).symm, SqL.of upd_same, by show 0 < 4; decide, fun v H3 hv hb3 hR3 => ?_⟩⟩
      obtain ⟨z, rfl, hz0, hz1, hzo⟩ := strs4 l1 l2 o1 o2 (by decide +kernel) hv
      refine ⟨_, rfl, _, rfl, r, z, i, i, rfl, hR3, hz0, by omega, by omega, by omega, by omega, fun x H5 hx hx2 hxz hb5 hR5 => ?_⟩
      exact q x H5 (by omega) (fun c hc => hzo c (hxz c hc)) (hb1.trans ((But.new np).trans (hb2.trans ((But.new np2).trans (hb3.trans hb5))))) hR5


/-! ### edits, in plain Lean -/
abbrev Ed := Int × Int × Str
abbrev Ed.len (e : Ed) : Nat := (cs e.2.2).length
/-- a text with a stretch replaced -/
def spliceL (t : List Nat) (a b : Nat) (s : List Nat) : List Nat := t.take a ++ s ++ t.drop b
def spl1 (t : List Nat) (e : Ed) : List Nat := spliceL t e.1.toNat e.2.1.toNat (cs e.2.2)
def appl (t : List Nat) (es : List Ed) : List Nat := es.foldl spl1 t
def fit1 (n : Nat) (e : Ed) : Prop := 0 ≤ e.1 ∧ e.1 ≤ e.2.1 ∧ e.2.1 ≤ (n : Int)
instance (n : Nat) (e : Ed) : Decidable (fit1 n e) := by unfold fit1; infer_instance
def size1 (n : Nat) (e : Ed) : Nat := n - (e.2.1.toNat - e.1.toNat) + e.len
def sizeL (n : Nat) (es : List Ed) : Nat := es.foldl size1 n
def fitsL : Nat → List Ed → Prop
  | _, [] => True
  | n, e :: r => fit1 n e ∧ fitsL (size1 n e) r
/-- the index of the first edit that does not fit -/
def unfit : Nat → List Ed → Option Nat
  | _, [] => none
  | n, e :: r => if fit1 n e then (unfit (size1 n e) r).map (· + 1) else some 0
theorem spliceL_len {t s : List Nat} {a b : Nat} (h : a ≤ b) : (spliceL t a b s).length ≤ t.length + s.length := by
  unfold spliceL
  rw [List.length_append, List.length_append, List.length_take, List.length_drop]
  omega
theorem spl1_len {t : List Nat} {e : Ed} (h : fit1 t.length e) : (spl1 t e).length = size1 t.length e := by
  obtain ⟨h1, h2, h3⟩ := h
  unfold spl1 spliceL size1 Ed.len
  rw [List.length_append, List.length_append, List.length_take, List.length_drop]
  omega
theorem fitsL_snoc : ∀ (n : Nat) (es : List Ed) (e : Ed), fitsL n (es ++ [e]) ↔ fitsL n es ∧ fit1 (sizeL n es) e
  | n, [], e => by
    show fit1 n e ∧ True ↔ True ∧ fit1 n e
    simp
  | n, x :: r, e => by
    show fit1 n x ∧ fitsL (size1 n x) (r ++ [e]) ↔ (fit1 n x ∧ fitsL (size1 n x) r) ∧ fit1 (sizeL (size1 n x) r) e
    rw [fitsL_snoc (size1 n x) r e, and_assoc]
theorem appl_snoc (t : List Nat) (es : List Ed) (e : Ed) : appl t (es ++ [e]) = spl1 (appl t es) e := by
  unfold appl
  rw [List.foldl_append]
  rfl
theorem sizeL_snoc (n : Nat) (es : List Ed) (e : Ed) : sizeL n (es ++ [e]) = size1 (sizeL n es) e := by
  unfold sizeL
  rw [List.foldl_append]
  rfl
theorem appl_len : ∀ {t : List Nat} {es : List Ed}, fitsL t.length es → (appl t es).length = sizeL t.length es
  | t, [], _ => rfl
  | t, e :: r, h => by
    obtain ⟨h1, h2⟩ := h
    have e1 := spl1_len h1
    show (appl (spl1 t e) r).length = sizeL (size1 t.length e) r
    rw [← e1] at h2 ⊢
    exact appl_len h2
theorem fitsL_take : ∀ {n : Nat} {es : List Ed} (k : Nat), fitsL n es → fitsL n (es.take k)
  | _, [], k, _ => by rw [List.take_nil]; exact True.intro
  | _, _ :: _, 0, _ => True.intro
  | _, _ :: _, k + 1, h => ⟨h.1, fitsL_take k h.2⟩
theorem unfit_none : ∀ {n : Nat} {es : List Ed}, unfit n es = none ↔ fitsL n es
  | _, [] => by
    show none = none ↔ True
    simp
  | n, e :: r => by
    show (if fit1 n e then (unfit (size1 n e) r).map (· + 1) else some 0) = none ↔ fit1 n e ∧ fitsL (size1 n e) r
    by_cases h : fit1 n e
    · rw [if_pos h, Option.map_eq_none_iff, unfit_none]
      simp [h]
    · rw [if_neg h]
      simp [h]
theorem unfit_take : ∀ {n k : Nat} {es : List Ed}, unfit n es = some k → fitsL n (es.take k) ∧ k < es.length
  | _, _, [], h => by cases h
  | n, k, e :: r, h => by
    have h' : (if fit1 n e then (unfit (size1 n e) r).map (· + 1) else some 0) = some k := h
    by_cases c : fit1 n e
    · rw [if_pos c] at h'
      obtain ⟨j, h1, h2⟩ := Option.map_eq_some_iff.mp h'
      subst h2
      obtain ⟨h3, h4⟩ := unfit_take h1
      exact ⟨⟨c, h3⟩, Nat.succ_lt_succ h4⟩
    · rw [if_neg c] at h'
      cases h'
      exact ⟨True.intro, Nat.succ_pos _⟩
/-- the edit that leads back -/
def back1 (t : List Nat) (e : Ed) : Ed := (e.1, e.1 + (e.len : Int), ⟨((t.take e.2.1.toNat).drop e.1.toNat).toArray⟩)
/-- the edits that lead back, the last one first -/
def backL : List Nat → List Ed → List Ed
  | _, [] => []
  | t, e :: r => backL (spl1 t e) r ++ [back1 t e]
theorem backL_len : ∀ (t : List Nat) (es : List Ed), (backL t es).length = es.length
  | _, [] => rfl
  | t, e :: r => by
    show (backL (spl1 t e) r ++ [back1 t e]).length = r.length + 1
    rw [List.length_append, backL_len]
    rfl
theorem backL_snoc : ∀ (t : List Nat) (es : List Ed) (e : Ed), backL t (es ++ [e]) = back1 (appl t es) e :: backL t es
  | _, [], _ => rfl
  | t, x :: r, e => by
    show backL (spl1 t x) (r ++ [e]) ++ [back1 t x] = back1 (appl (spl1 t x) r) e :: (backL (spl1 t x) r ++ [back1 t x])
    rw [backL_snoc (spl1 t x) r e]
    rfl
theorem cs_toArray (l : List Nat) : cs ⟨l.toArray⟩ = l := rfl
/-- one step there, one step back -/
theorem back1_spl {t : List Nat} {e : Ed} (h : fit1 t.length e) : fit1 (spl1 t e).length (back1 t e) ∧ spl1 (spl1 t e) (back1 t e) = t ∧ back1 (spl1 t e) (back1 t e) = e := by
  obtain ⟨a, b, s⟩ := e
  obtain ⟨h1, h2, h3⟩ := h
  simp only at h1 h2 h3
  obtain ⟨a, rfl⟩ : ∃ n : Nat, a = (n : Int) := ⟨a.toNat, by omega⟩
  obtain ⟨b, rfl⟩ : ∃ n : Nat, b = (n : Int) := ⟨b.toNat, by omega⟩
  have hab : a ≤ b := by omega
  have hb : b ≤ t.length := by omega
  have la : (t.take a).length = a := by rw [List.length_take]; omega
  have lm : ((t.take b).drop a).length = b - a := by rw [List.length_drop, List.length_take]; omega
  have e1 : spl1 t ((a : Int), (b : Int), s) = t.take a ++ cs s ++ t.drop b := rfl
  have ea : ((a : Int) + ((cs s).length : Int)).toNat = a + (cs s).length := by omega
  have tk : (t.take a ++ cs s ++ t.drop b).take a = t.take a := by
    rw [List.append_assoc, List.take_append_of_le_length (by omega), List.take_of_length_le (by omega)]
  have dr : (t.take a ++ cs s ++ t.drop b).drop (a + (cs s).length) = t.drop b := by
    have : a + (cs s).length = (t.take a ++ cs s).length := by rw [List.length_append, la]
    rw [this, List.drop_left]
  have tt : t.take a ++ (t.take b).drop a ++ t.drop b = t := by
    have h1 : t.take a ++ (t.take b).drop a = t.take b := by
      have h2 : (t.take b).take a = t.take a := by rw [List.take_take, Nat.min_eq_left hab]
      rw [← h2, List.take_append_drop]
    rw [h1, List.take_append_drop]
  refine ⟨⟨by show (0 : Int) ≤ (a : Int); omega, by show (a : Int) ≤ (a : Int) + ((cs s).length : Int); omega, ?_⟩, ?_, ?_⟩
  · show (a : Int) + ((cs s).length : Int) ≤ ((spl1 t ((a : Int), (b : Int), s)).length : Int)
    rw [e1, List.length_append, List.length_append, la]
    omega
  · show (spl1 t ((a : Int), (b : Int), s)).take ((a : Int)).toNat ++ (t.take ((b : Int)).toNat).drop ((a : Int)).toNat ++ (spl1 t ((a : Int), (b : Int), s)).drop ((a : Int) + ((cs s).length : Int)).toNat = t
    rw [e1, ea, Int.toNat_natCast, Int.toNat_natCast, tk, dr, tt]
  · have c2 : (((t.take a ++ cs s ++ t.drop b).take (a + (cs s).length)).drop a) = cs s := by
      have h3 : a + (cs s).length = (t.take a ++ cs s).length := by rw [List.length_append, la]
      rw [h3, List.take_left]
      have h4 : (t.take a ++ cs s).drop a = (t.take a ++ cs s).drop (t.take a).length := by rw [la]
      rw [h4, List.drop_left]
    show (((a : Int)), (a : Int) + ((((t.take ((b : Int)).toNat).drop ((a : Int)).toNat).length : Nat) : Int), (⟨(((spl1 t ((a : Int), (b : Int), s)).take ((a : Int) + ((cs s).length : Int)).toNat).drop ((a : Int)).toNat).toArray⟩ : Str)) = ((a : Int), (b : Int), s)
    rw [e1, ea, Int.toNat_natCast, Int.toNat_natCast, c2, lm]
    have h5 : (a : Int) + ((b - a : Nat) : Int) = (b : Int) := by omega
    rw [h5]
theorem fitsL_app : ∀ {n : Nat} {es fs : List Ed}, fitsL n (es ++ fs) ↔ fitsL n es ∧ fitsL (sizeL n es) fs
  | n, [], fs => by
    show fitsL n fs ↔ True ∧ fitsL n fs
    simp
  | n, e :: r, fs => by
    show fit1 n e ∧ fitsL (size1 n e) (r ++ fs) ↔ (fit1 n e ∧ fitsL (size1 n e) r) ∧ fitsL (sizeL (size1 n e) r) fs
    rw [fitsL_app, and_assoc]
theorem appl_app (t : List Nat) (es fs : List Ed) : appl t (es ++ fs) = appl (appl t es) fs := by
  unfold appl
  rw [List.foldl_append]
theorem rev_ind {α : Type} {P : List α → Prop} (h0 : P []) (h1 : ∀ l a, P l → P (l ++ [a])) (l : List α) : P l := by
  have h : ∀ m : List α, P m.reverse := by
    intro m
    induction m with
    | nil => exact h0
    | cons a m ih =>
      rw [List.reverse_cons]
      exact h1 _ a ih
  have e := h l.reverse
  rw [List.reverse_reverse] at e
  exact e
/-- THE WAY BACK, k steps of it -/
theorem back_way : ∀ (k : Nat) {t : List Nat} {es : List Ed}, fitsL t.length es → k ≤ es.length →
    fitsL (appl t es).length ((backL t es).take k) ∧ appl (appl t es) ((backL t es).take k) = appl t (es.take (es.length - k)) := by
  intro k t es
  induction es using rev_ind generalizing k with
  | h0 =>
    intro _ hk
    have : k = 0 := by simpa using hk
    subst this
    exact ⟨True.intro, rfl⟩
  | h1 es e ih =>
    intro h hk
    obtain ⟨h1, h2⟩ := (fitsL_snoc _ _ _).mp h
    rw [← appl_len h1] at h2
    obtain ⟨b1, b2, _⟩ := back1_spl h2
    rw [backL_snoc, appl_snoc]
    cases k with
    | zero =>
      refine ⟨True.intro, ?_⟩
      rw [Nat.sub_zero, List.take_length, appl_snoc]
      rfl
    | succ k =>
      have hk' : k ≤ es.length := by
        rw [List.length_append] at hk
        simp only [List.length_singleton] at hk
        omega
      obtain ⟨i1, i2⟩ := ih k h1 hk'
      rw [List.take_succ_cons]
      refine ⟨⟨b1, ?_⟩, ?_⟩
      · rw [← spl1_len b1, b2]
        exact i1
      · show appl (spl1 (spl1 (appl t es) e) (back1 (appl t es) e)) ((backL t es).take k) = _
        rw [b2, i2]
        have e2 : (es ++ [e]).length - (k + 1) = es.length - k := by
          rw [List.length_append]
          simp only [List.length_singleton]
          omega
        rw [e2, List.take_append_of_le_length (by omega)]
/-- the way back of the way back -/
theorem back_back : ∀ {es : List Ed} {t : List Nat}, fitsL t.length es → backL (appl t es) (backL t es) = es := by
  intro es
  induction es using rev_ind with
  | h0 =>
    intro t _
    rfl
  | h1 es e ih =>
    intro t h
    obtain ⟨h1, h2⟩ := (fitsL_snoc _ _ _).mp h
    rw [← appl_len h1] at h2
    obtain ⟨b1, b2, b3⟩ := back1_spl h2
    rw [backL_snoc, appl_snoc]
    show backL (spl1 (spl1 (appl t es) e) (back1 (appl t es) e)) (backL t es) ++ [back1 (spl1 (appl t es) e) (back1 (appl t es) e)] = es ++ [e]
    rw [b2, b3, ih h1]

/-! ### edits of rows of anything, edits exchanged -/
def splG {α : Type} (t : List α) (a b : Nat) (s : List α) : List α := t.take a ++ s ++ t.drop b
def spl1G {α : Type} (g : Str → List α) (t : List α) (e : Ed) : List α := splG t e.1.toNat e.2.1.toNat (g e.2.2)
def applG {α : Type} (g : Str → List α) (t : List α) (es : List Ed) : List α := es.foldl (spl1G g) t
theorem applG_cs (t : List Nat) (es : List Ed) : applG cs t es = appl t es := rfl
theorem take_split {α : Type} (t : List α) (a : Nat) : t = t.take a ++ t.drop a := (List.take_append_drop a t).symm
theorem splG_mid {α : Type} {p q r s : List α} {a b : Nat} (ha : p.length = a) (hb : p.length + q.length = b) : splG (p ++ (q ++ r)) a b s = p ++ (s ++ r) := by
  subst ha
  subst hb
  unfold splG
  rw [List.take_append_of_le_length (Nat.le_refl _), List.take_length, List.append_assoc, List.drop_append, List.drop_append]
  have e1 : p.length + q.length - p.length = q.length := by omega
  rw [e1, List.drop_of_length_le (show p.length ≤ p.length + q.length by omega), List.drop_length, Nat.sub_self, List.drop_zero, List.nil_append, List.nil_append]
/-- a row in five parts -/
theorem five {α : Type} (t : List α) {a b c d : Nat} (h1 : a ≤ b) (h2 : b ≤ c) (h3 : c ≤ d) (h4 : d ≤ t.length) :
    ∃ x y z w v : List α, t = x ++ (y ++ (z ++ (w ++ v))) ∧ x.length = a ∧ y.length = b - a ∧ z.length = c - b ∧ w.length = d - c := by
  refine ⟨t.take a, (t.drop a).take (b - a), (t.drop b).take (c - b), (t.drop c).take (d - c), t.drop d, ?_, ?_, ?_, ?_, ?_⟩
  · have k1 : (t.drop c).take (d - c) ++ t.drop d = t.drop c := by
      have := List.take_append_drop (d - c) (t.drop c)
      rw [List.drop_drop, show c + (d - c) = d by omega] at this
      exact this
    have k2 : (t.drop b).take (c - b) ++ t.drop c = t.drop b := by
      have := List.take_append_drop (c - b) (t.drop b)
      rw [List.drop_drop, show b + (c - b) = c by omega] at this
      exact this
    have k3 : (t.drop a).take (b - a) ++ t.drop b = t.drop a := by
      have := List.take_append_drop (b - a) (t.drop a)
      rw [List.drop_drop, show a + (b - a) = b by omega] at this
      exact this
    rw [k1, k2, k3, List.take_append_drop]
  · rw [List.length_take]; omega
  · rw [List.length_take, List.length_drop]; omega
  · rw [List.length_take, List.length_drop]; omega
  · rw [List.length_take, List.length_drop]; omega
theorem swap_left {α : Type} {t s1 s2 : List α} {a b c d : Nat} (h1 : c ≤ d) (h2 : d ≤ a) (h3 : a ≤ b) (h4 : b ≤ t.length) :
    splG (splG t c d s2) (a - (d - c) + s2.length) (b - (d - c) + s2.length) s1 = splG (splG t a b s1) c d s2 := by
  obtain ⟨x, y, z, w, v, rfl, lx, ly, lz, lw⟩ := five t h1 h2 h3 h4
  rw [splG_mid (p := x) (q := y) lx (by omega)]
  have e1 : x ++ (s2 ++ (z ++ (w ++ v))) = (x ++ (s2 ++ z)) ++ (w ++ v) := by simp only [List.append_assoc]
  rw [e1, splG_mid (p := x ++ (s2 ++ z)) (q := w) (by simp only [List.length_append]; omega) (by simp only [List.length_append]; omega)]
  have e2 : x ++ (y ++ (z ++ (w ++ v))) = (x ++ (y ++ z)) ++ (w ++ v) := by simp only [List.append_assoc]
  rw [e2, splG_mid (p := x ++ (y ++ z)) (q := w) (by simp only [List.length_append]; omega) (by simp only [List.length_append]; omega)]
  have e3 : x ++ (y ++ z) ++ (s1 ++ v) = x ++ (y ++ (z ++ (s1 ++ v))) := by simp only [List.append_assoc]
  rw [e3, splG_mid (p := x) (q := y) lx (by omega)]
  simp only [List.append_assoc]
theorem swap_right {α : Type} {t s1 s2 : List α} {a b c d : Nat} (h1 : a ≤ b) (h2 : a + s1.length ≤ c) (h3 : c ≤ d) (h4 : d ≤ t.length - (b - a) + s1.length) (h5 : b ≤ t.length) :
    splG (splG t (c + (b - a) - s1.length) (d + (b - a) - s1.length) s2) a b s1 = splG (splG t a b s1) c d s2 := by
  obtain ⟨x, w, z, y, v, rfl, lx, lw, lz, ly⟩ := five t (c := c + (b - a) - s1.length) (d := d + (b - a) - s1.length) h1 (by omega) (by omega) (by omega)
  have e2 : x ++ (w ++ (z ++ (y ++ v))) = (x ++ (w ++ z)) ++ (y ++ v) := by simp only [List.append_assoc]
  rw [splG_mid (p := x) (q := w) lx (by omega)]
  rw [e2, splG_mid (p := x ++ (w ++ z)) (q := y) (by simp only [List.length_append]; omega) (by simp only [List.length_append]; omega)]
  have e3 : x ++ (w ++ z) ++ (s2 ++ v) = x ++ (w ++ (z ++ (s2 ++ v))) := by simp only [List.append_assoc]
  rw [e3, splG_mid (p := x) (q := w) lx (by omega)]
  have e1 : x ++ (s1 ++ (z ++ (y ++ v))) = (x ++ (s1 ++ z)) ++ (y ++ v) := by simp only [List.append_assoc]
  rw [e1, splG_mid (p := x ++ (s1 ++ z)) (q := y) (by simp only [List.length_append]; omega) (by simp only [List.length_append]; omega)]
  simp only [List.append_assoc]
/-- the pair in the other order -/
def dueE (e f : Ed) : Option (Ed × Ed) :=
  if f.2.1 ≤ e.1 then some (f, (e.1 + ((f.len : Int) - (f.2.1 - f.1)), e.2.1 + ((f.len : Int) - (f.2.1 - f.1)), e.2.2))
  else if e.1 + (e.len : Int) ≤ f.1 then some ((f.1 + (e.2.1 - e.1 - (e.len : Int)), f.2.1 + (e.2.1 - e.1 - (e.len : Int)), f.2.2), e)
  else none
theorem due_same {α : Type} {t r1 r2 : List α} {e f p q : Ed} (h : dueE e f = some (p, q)) (f1 : fit1 t.length e) (f2 : fit1 (size1 t.length e) f) (n1 : r1.length = e.len) (n2 : r2.length = f.len) :
    splG (splG t p.1.toNat p.2.1.toNat r2) q.1.toNat q.2.1.toNat r1 = splG (splG t e.1.toNat e.2.1.toNat r1) f.1.toNat f.2.1.toNat r2 := by
  obtain ⟨a1, a2, a3⟩ := f1
  obtain ⟨b1, b2, b3⟩ := f2
  obtain ⟨a, b, s⟩ := e
  obtain ⟨c, d, u⟩ := f
  obtain ⟨a, rfl⟩ : ∃ n : Nat, a = (n : Int) := ⟨a.toNat, by have : 0 ≤ a := a1; omega⟩
  obtain ⟨c, rfl⟩ : ∃ n : Nat, c = (n : Int) := ⟨c.toNat, by have : 0 ≤ c := b1; omega⟩
  obtain ⟨b, rfl⟩ : ∃ n : Nat, b = (n : Int) := ⟨b.toNat, by have : (a : Int) ≤ b := a2; omega⟩
  obtain ⟨d, rfl⟩ : ∃ n : Nat, d = (n : Int) := ⟨d.toNat, by have : (c : Int) ≤ d := b2; omega⟩
  have a2 : (a : Int) ≤ (b : Int) := a2
  have a3 : (b : Int) ≤ (t.length : Int) := a3
  have b2 : (c : Int) ≤ (d : Int) := b2
  have b3 : (d : Int) ≤ ((t.length - (((b : Int)).toNat - ((a : Int)).toNat) + (cs s).length : Nat) : Int) := b3
  have n1 : r1.length = (cs s).length := n1
  have n2 : r2.length = (cs u).length := n2
  unfold dueE at h
  simp only [Ed.len] at h
  by_cases k1 : (d : Int) ≤ (a : Int)
  · rw [if_pos k1] at h
    have h' := Prod.mk.inj (Option.some.inj h)
    rw [← h'.1, ← h'.2]
    show splG (splG t ((c : Int)).toNat ((d : Int)).toNat r2) ((a : Int) + (((cs u).length : Int) - ((d : Int) - (c : Int)))).toNat ((b : Int) + (((cs u).length : Int) - ((d : Int) - (c : Int)))).toNat r1 = splG (splG t ((a : Int)).toNat ((b : Int)).toNat r1) ((c : Int)).toNat ((d : Int)).toNat r2
    have e1 : ((a : Int) + (((cs u).length : Int) - ((d : Int) - (c : Int)))).toNat = a - (d - c) + r2.length := by omega
    have e2 : ((b : Int) + (((cs u).length : Int) - ((d : Int) - (c : Int)))).toNat = b - (d - c) + r2.length := by omega
    rw [e1, e2]
    simp only [Int.toNat_natCast]
    exact swap_left (by omega) (by omega) (by omega) (by omega)
  · rw [if_neg k1] at h
    by_cases k2 : (a : Int) + ((cs s).length : Int) ≤ (c : Int)
    · rw [if_pos k2] at h
      have h' := Prod.mk.inj (Option.some.inj h)
      rw [← h'.1, ← h'.2]
      show splG (splG t ((c : Int) + ((b : Int) - (a : Int) - ((cs s).length : Int))).toNat ((d : Int) + ((b : Int) - (a : Int) - ((cs s).length : Int))).toNat r2) ((a : Int)).toNat ((b : Int)).toNat r1 = splG (splG t ((a : Int)).toNat ((b : Int)).toNat r1) ((c : Int)).toNat ((d : Int)).toNat r2
      have e1 : ((c : Int) + ((b : Int) - (a : Int) - ((cs s).length : Int))).toNat = c + (b - a) - r1.length := by omega
      have e2 : ((d : Int) + ((b : Int) - (a : Int) - ((cs s).length : Int))).toNat = d + (b - a) - r1.length := by omega
      rw [e1, e2]
      simp only [Int.toNat_natCast] at b3 ⊢
      exact swap_right (by omega) (by omega) (by omega) (by omega) (by omega)
    · rw [if_neg k2] at h
      cases h
theorem swap_same {α : Type} {g : Str → List α} (hg : ∀ s, (g s).length = (cs s).length) {t : List α} {e f p q : Ed} (h : dueE e f = some (p, q)) (f1 : fit1 t.length e) (f2 : fit1 (size1 t.length e) f) :
    applG g t [p, q] = applG g t [e, f] := by
  have k := due_same (r1 := g e.2.2) (r2 := g f.2.2) h f1 f2 (hg _) (hg _)
  have tx : p.2.2 = f.2.2 ∧ q.2.2 = e.2.2 := by
    unfold dueE at h
    split at h
    · have h' := Prod.mk.inj (Option.some.inj h)
      rw [← h'.1, ← h'.2]
      exact ⟨rfl, rfl⟩
    · split at h
      · have h' := Prod.mk.inj (Option.some.inj h)
        rw [← h'.1, ← h'.2]
        exact ⟨rfl, rfl⟩
      · cases h
  show splG (splG t p.1.toNat p.2.1.toNat (g p.2.2)) q.1.toNat q.2.1.toNat (g q.2.2) = splG (splG t e.1.toNat e.2.1.toNat (g e.2.2)) f.1.toNat f.2.1.toNat (g f.2.2)
  rw [tx.1, tx.2]
  exact k
theorem swap_fits {n : Nat} {e f p q : Ed} (h : dueE e f = some (p, q)) (f1 : fit1 n e) (f2 : fit1 (size1 n e) f) : fitsL n [p, q] := by
  obtain ⟨a1, a2, a3⟩ := f1
  obtain ⟨b1, b2, b3⟩ := f2
  obtain ⟨a, b, s⟩ := e
  obtain ⟨c, d, u⟩ := f
  simp only [size1, Ed.len] at a1 a2 a3 b1 b2 b3
  unfold dueE at h
  simp only [Ed.len] at h
  split at h
  · have h' := Prod.mk.inj (Option.some.inj h)
    rw [← h'.1, ← h'.2]
    refine ⟨⟨b1, b2, ?_⟩, ⟨?_, ?_, ?_⟩, True.intro⟩
    · show d ≤ (n : Int)
      omega
    · show 0 ≤ a + _
      omega
    · show a + _ ≤ b + _
      omega
    · simp only [size1, Ed.len]
      omega
  · split at h
    · have h' := Prod.mk.inj (Option.some.inj h)
      rw [← h'.1, ← h'.2]
      refine ⟨⟨?_, ?_, ?_⟩, ⟨a1, a2, ?_⟩, True.intro⟩
      · show 0 ≤ c + _
        omega
      · show c + _ ≤ d + _
        omega
      · show d + _ ≤ (n : Int)
        omega
      · simp only [size1, Ed.len]
        omega
    · cases h

/-! ### edits -/
/-- the tuple of an edit -/
def EdAt (H : Hp) (v : V) (e : Ed) : Prop := ∃ t, v = .ref t ∧ H t = some (.tup [.int e.1, .int e.2.1, .str e.2.2])
/-- tuples stand as they stood -/
def Tups (H H' : Hp) : Prop := ∀ b xs, H b = some (.tup xs) → H' b = some (.tup xs)
theorem Tups.refl (H : Hp) : Tups H H := fun _ _ h => h
theorem Tups.trans {H H1 H2 : Hp} (a : Tups H H1) (b : Tups H1 H2) : Tups H H2 := fun c xs h => b c xs (a c xs h)
theorem But.tups {r : Addr} {H H' : Hp} (b : But r H H') (h : ReelAt H r) : Tups H H' := fun c xs e => b c _ (fun z => by
  obtain ⟨z1, c1, e1, _⟩ := h
  rw [z, e1] at e
  cases e) e
theorem Tups.new {H : Hp} {p : Addr} {o : HO} (h : H p = none) : Tups H (upd H p o) := fun c xs e => by rw [upd_ne (ne_of_none e h)]; exact e
theorem Tups.mut {H : Hp} {p : Addr} {xs : List V} {o : HO} (h : H p = some (.lst xs)) : Tups H (upd H p o) := fun c ys e => by
  rw [upd_ne (ne_of e h (fun z => by cases z))]
  exact e
theorem EdAt.mono {H H' : Hp} {v : V} {e : Ed} (t : Tups H H') (h : EdAt H v e) : EdAt H' v e := by
  obtain ⟨a, e1, e2⟩ := h
  exact ⟨a, e1, t a _ e2⟩
abbrev EdsIn (H : Hp) : List V → List Ed → Prop := Paired (EdAt H)
theorem EdsIn.mono {H H' : Hp} {vs : List V} {es : List Ed} (t : Tups H H') (h : EdsIn H vs es) : EdsIn H' vs es := Paired.mapP h fun _ _ => EdAt.mono t
theorem paired_len {α β : Type} {F : α → β → Prop} : ∀ {xs : List α} {ys : List β}, Paired F xs ys → xs.length = ys.length
  | _, _, .nil => rfl
  | _, _, .cons _ t => congrArg (· + 1) (paired_len t)
theorem paired_app {α β : Type} {F : α → β → Prop} : ∀ {xs xs' : List α} {ys ys' : List β}, Paired F xs ys → Paired F xs' ys' → Paired F (xs ++ xs') (ys ++ ys')
  | _, _, _, _, .nil, h => h
  | _, _, _, _, .cons r t, h => .cons r (paired_app t h)
theorem paired_get {α β : Type} {F : α → β → Prop} : ∀ {xs : List α} {ys : List β} {i : Nat} {y : β}, Paired F xs ys → ys[i]? = some y → ∃ x, xs[i]? = some x ∧ F x y
  | _, _, _, _, .nil, h => by simp at h
  | _, _, 0, y, .cons r t, h => by
    have e := Option.some.inj h
    subst e
    exact ⟨_, rfl, r⟩
  | _, _, i + 1, y, .cons r t, h => by
    obtain ⟨x, h1, h2⟩ := paired_get (i := i) (y := y) t (by simpa using h)
    exact ⟨x, by simpa using h1, h2⟩
theorem paired_take {α β : Type} {F : α → β → Prop} : ∀ {xs : List α} {ys : List β} (n : Nat), Paired F xs ys → Paired F (xs.take n) (ys.take n)
  | _, _, 0, _ => .nil
  | _, _, _ + 1, .nil => .nil
  | _, _, n + 1, .cons r t => .cons r (paired_take n t)
theorem paired_drop {α β : Type} {F : α → β → Prop} : ∀ {xs : List α} {ys : List β} (n : Nat), Paired F xs ys → Paired F (xs.drop n) (ys.drop n)
  | _, _, 0, h => h
  | _, _, _ + 1, .nil => .nil
  | _, _, n + 1, .cons r t => paired_drop n t
/-- a drawn edit -/
def EdBd (e : Ed) : Prop := 0 ≤ e.1 ∧ e.1 ≤ e.2.1 ∧ (cs e.2.2).length ≤ 2000 ∧ TOk e.2.2
/-- what stands behind i turns of the row's making -/
structure RowSt (r l : Addr) (H0 : Hp) (i : Nat) (z now : Str) (H : Hp) : Prop where
  ex : ∃ vs es, H l = some (.lst vs) ∧ EdsIn H vs es ∧ es.length = i ∧ (∀ e ∈ es, EdBd e) ∧ fitsL (cs z).length es ∧ appl (cs z) es = cs now ∧ ∀ k, (appl (cs z) (es.take k)).length ≤ 2000
  ne : l ≠ r
  but : But r H0 H
  reel : ReelAt H r
  len : (cs now).length ≤ 2000
  tok : TOk now
theorem RowSt.mono {r l : Addr} {H0 H H' : Hp} {i : Nat} {z now : Str} (h : RowSt r l H0 i z now H) (b : But r H H') (hR : ReelAt H' r) : RowSt r l H0 i z now H' := by
  obtain ⟨⟨vs, es, e1, e2, e3⟩, n, b0, r0, ln, tk⟩ := h
  exact ⟨⟨vs, es, b l _ n e1, e2.mono (b.tups r0), e3⟩, n, b0.trans b, hR, ln, tk⟩
theorem RowSt.new {r l p : Addr} {H0 H : Hp} {i : Nat} {z now : Str} {o : HO} (h : RowSt r l H0 i z now H) (np : H p = none) : RowSt r l H0 i z now (upd H p o) := h.mono (But.new np) (h.reel.new np)
theorem cut_len (z : Str) (lo hi : Option Int) : (cs (cutS z lo hi)).length ≤ (cs z).length := by
  have h := cutS_length z lo hi
  rw [len_cs, len_cs] at h
  exact h
theorem cut_tok {z : Str} (h : TOk z) (lo hi : Option Int) : TOk (cutS z lo hi) := fun c hc => h c (List.mem_of_mem_drop (List.mem_of_mem_take hc))
theorem spl_tok {t : List Nat} {a b : Nat} {s : List Nat} (h : ∀ c ∈ t, c < 1114112) (h2 : ∀ c ∈ s, c < 1114112) : ∀ c ∈ spliceL t a b s, c < 1114112 := fun c hc => by
  rcases List.mem_append.mp hc with hc | hc
  · rcases List.mem_append.mp hc with hc | hc
    · exact h c (List.mem_of_mem_take hc)
    · exact h2 c hc
  · exact h c (List.mem_of_mem_drop hc)
theorem tok_empty : TOk Str.empty := fun c hc => absurd hc List.not_mem_nil
theorem cut_pre (z : Str) (a : Nat) : cs (cutS z none (some (a : Int))) = (cs z).take a := by
  show ((cs z).drop 0).take _ = _
  rw [HT.sIx_nat, HT.sIx_none, List.drop_zero, Nat.sub_zero, len_cs, ← List.take_eq_take_min]
theorem cut_suf (z : Str) (a : Nat) : cs (cutS z (some (a : Int)) none) = (cs z).drop a := by
  show ((cs z).drop _).take _ = _
  rw [HT.sIx_nat, HT.sIx_none, len_cs, List.take_of_length_le (by rw [List.length_drop]; exact Nat.le_refl _)]
  by_cases h : a ≤ (cs z).length
  · rw [Nat.min_eq_left h]
  · rw [Nat.min_eq_right (by omega), List.drop_eq_nil_of_le (Nat.le_refl _), List.drop_eq_nil_of_le (by omega)]
theorem cut_mid (z : Str) (a b : Nat) : cs (cutS z (some (a : Int)) (some (b : Int))) = ((cs z).take b).drop a := by
  show ((cs z).drop _).take _ = _
  rw [HT.sIx_nat, HT.sIx_nat, len_cs]
  by_cases h : a ≤ (cs z).length
  · rw [Nat.min_eq_left h, List.drop_take]
    by_cases h2 : b ≤ (cs z).length
    · rw [Nat.min_eq_left h2]
    · rw [Nat.min_eq_right (by omega), List.take_of_length_le (by rw [List.length_drop]; exact Nat.le_refl _), List.take_of_length_le (by rw [List.length_drop]; omega)]
  · rw [Nat.min_eq_right (show (cs z).length ≤ a by omega), List.drop_eq_nil_of_le (Nat.le_refl _), List.take_nil, List.drop_eq_nil_of_le (by rw [List.length_take]; omega)]
theorem cs_splice (z s : Str) (a b : Nat) : cs (cutS z none (some (a : Int)) ++ s ++ cutS z (some (b : Int)) none) = spliceL (cs z) a b (cs s) := by
  rw [cs_app, cs_app, cut_pre, cut_suf]
  rfl
theorem mem_ints {l : List Int} {v : V} (h : v ∈ l.map V.int) : ∃ i, i ∈ l ∧ v = .int i := by
  obtain ⟨i, h1, h2⟩ := List.mem_map.mp h
  exact ⟨i, h1, h2.symm⟩
theorem take_more {α : Type} {l : List α} {i : Nat} {x : α} (h : l[i]? = some x) : l.take (i + 1) = l.take i ++ [x] := by
  rw [List.take_add_one, h, Option.toList_some]
theorem nat_of {z : Int} (h : 0 ≤ z) : ∃ n : Nat, z = (n : Int) := ⟨z.toNat, by omega⟩
/-- within a turn: start, end and new are chosen -/
def RowMid (r l : Addr) (H0 : Hp) (i : Nat) (z now : Str) (n near form : Int) (σ : L2.St) (H : Hp) : Prop := ∃ (st en : Int) (new : Str),
  σ = [some (.ref r), some (.str z), some (.int n), some (.ref l), some (.str now), some (.int near), some (.int (0 + (i : Int))), some (.int form), some (.int st), some (.int en), some (.str new)] ∧
  0 ≤ st ∧ st ≤ en ∧ en ≤ (now.length : Int) ∧ (cs new).length ≤ 2000 ∧ TOk new ∧ RowSt r l H0 i z now H
/-- a list of n edits -/
def spRow : Sp := fun vs H Q _ => ∃ (r : Addr) (z : Str) (n : Int), vs = [.ref r, .str z, .int n] ∧ ReelAt H r ∧ (cs z).length ≤ 2000 ∧ TOk z ∧ 0 ≤ n ∧ n ≤ 1000 ∧
  ∀ l H' us es, H l = none → H' l = some (.lst us) → EdsIn H' us es → (es.length : Int) = n → (∀ e ∈ es, EdBd e) → fitsL (cs z).length es → But r H H' → ReelAt H' r → Q (.ref l) H'
def spRow2 : Sp := fun vs H Q _ => ∃ (r : Addr) (z : Str) (n : Int), vs = [.ref r, .str z, .int n] ∧ ReelAt H r ∧ (cs z).length ≤ 2000 ∧ TOk z ∧ 0 ≤ n ∧ n ≤ 1000 ∧
  ∀ l H' us es, H l = none → H' l = some (.lst us) → EdsIn H' us es → (es.length : Int) = n → (∀ e ∈ es, EdBd e) → fitsL (cs z).length es → sizeL (cs z).length es ≤ 2000 → But r H H' → ReelAt H' r → Q (.ref l) H'
/-- the same, and each beginning of the list leads to a short text -/
def spRow3 : Sp := fun vs H Q _ => ∃ (r : Addr) (z : Str) (n : Int), vs = [.ref r, .str z, .int n] ∧ ReelAt H r ∧ (cs z).length ≤ 2000 ∧ TOk z ∧ 0 ≤ n ∧ n ≤ 1000 ∧
  ∀ l H' us es, H l = none → H' l = some (.lst us) → EdsIn H' us es → (es.length : Int) = n → (∀ e ∈ es, EdBd e) → fitsL (cs z).length es → (∀ k, (appl (cs z) (es.take k)).length ≤ 2000) → But r H H' → ReelAt H' r → Q (.ref l) H'
theorem ok_edit_row3 (T : Txt K mg) : FnOk P w K mg base CX0 5 T.a_law_edit_row T.fd_law_edit_row ["reel", "text", "count"] spRow3 := by
  have G_law_draw : FnOk P w K mg base CX0 1 T.a_law_draw T.fd_law_draw ["reel", "size"] spDraw := ok_draw T
  have G_law_pick : FnOk P w K mg base CX0 2 T.a_law_pick T.fd_law_pick ["reel", "row"] (spPick K) := ok_pick T
  have G_law_new : FnOk P w K mg base CX0 4 T.a_law_new T.fd_law_new ["reel"] (spText 300) := ok_new T
  refine T.F_law_edit_row.ok sc_law_edit_row (fun vs H Q E h => ?_) (fun cdv A outer s H vs Q E hr h => ?_)
  · obtain ⟨r, z, n, rfl, _⟩ := h
    rfl
  · have hr_law_draw : Room 1 _ := hr.mono (by decide)
    have hr_law_pick : Room 2 _ := hr.mono (by decide)
    have hr_law_new : Room 4 _ := hr
    obtain ⟨r, z, n, rfl, hr0, hz, hzo, hn0, hn1, q⟩ := h
    refine ⟨_, (pss_cons (ps_set (i := 3) sc_law_edit_row.nd rfl (.inl rfl) (pe_lst pa_nil))
      (pss_cons (ps_set (i := 4) sc_law_edit_row.nd rfl (.inl rfl) (pv 1))
      (pss_cons (ps_set (i := 5) sc_law_edit_row.nd rfl (.inl rfl) pe_int)
      (pss_cons (ps_for PassesOwn.never rfl (pi_range1 (by rfl) T.m_range (pa_cons (pv 2) pa_nil)) (pg_name (i := 6) sc_law_edit_row.nd rfl (.inl rfl)) (pss_cons (ps_set (i := 7) sc_law_edit_row.nd rfl (.inl rfl) (pe_call G_law_draw hr_law_draw (by rfl) T.g_law_draw T.F_law_draw.kp T.b_law_draw .nil pass0 (pa_cons (pv 0) (pa_cons pe_int pa_nil))))
      (pss_cons (ps_set (i := 8) sc_law_edit_row.nd rfl (.inl rfl) (pe_call G_law_draw hr_law_draw (by rfl) T.g_law_draw T.F_law_draw.kp T.b_law_draw .nil pass0 (pa_cons (pv 0) (pa_cons (pe_op op_add (pe_callB call_len_str (by rfl) T.m_len PySem.boot_len (pa_cons (pv 4) pa_nil)) pe_int) pa_nil))))
      (C8.pss_cut (ps_if (pt_cmpR op_lt (pv 7) pe_int (nomark _)) (pss_one (ps_set (i := 8) sc_law_edit_row.nd rfl (.inl rfl) (pe_callB (call_min2 rfl) (by rfl) T.m_min (by decide +kernel) (pa_cons (pe_callB call_len_str (by rfl) T.m_len PySem.boot_len (pa_cons (pv 4) pa_nil)) (pa_cons (pe_callB (call_max2 rfl) (by rfl) T.m_max (by decide +kernel) (pa_cons pe_int (pa_cons (pe_op op_sub (pe_op op_add (pv 5) (pe_call G_law_draw hr_law_draw (by rfl) T.g_law_draw T.F_law_draw.kp T.b_law_draw .nil pass0 (pa_cons (pv 0) (pa_cons pe_int pa_nil)))) pe_int) pa_nil))) pa_nil))))) (pss_one (ps_if (pt_cmpR op_eq (pv 7) pe_int (nomark _)) (pss_one (ps_set (i := 8) sc_law_edit_row.nd rfl (.inl rfl) (pe_callB (call_max2 rfl) (by rfl) T.m_max (by decide +kernel) (pa_cons pe_int (pa_cons (pe_op op_sub (pe_callB call_len_str (by rfl) T.m_len PySem.boot_len (pa_cons (pv 4) pa_nil)) (pe_call G_law_draw hr_law_draw (by rfl) T.g_law_draw T.F_law_draw.kp T.b_law_draw .nil pass0 (pa_cons (pv 0) (pa_cons pe_int pa_nil)))) pa_nil))))) pss_nil)))
      (pss_cons (ps_set (i := 9) sc_law_edit_row.nd rfl (.inl rfl) (pe_callB (call_min2 rfl) (by rfl) T.m_min (by decide +kernel) (pa_cons (pe_callB call_len_str (by rfl) T.m_len PySem.boot_len (pa_cons (pv 4) pa_nil)) (pa_cons (pe_op op_add (pv 8) (pe_call G_law_pick hr_law_pick (by rfl) T.g_law_pick T.F_law_pick.kp T.b_law_pick .nil pass0 (pa_cons (pv 0) (pa_cons (pe_lst (pa_cons pe_int (pa_cons pe_int (pa_cons pe_int (pa_cons pe_int (pa_cons pe_int (pa_cons pe_int (pa_cons pe_int (pa_cons pe_int (pa_cons (pe_op op_fdiv (pe_callB call_len_str (by rfl) T.m_len PySem.boot_len (pa_cons (pv 4) pa_nil)) pe_int) pa_nil)))))))))) pa_nil)))) pa_nil))))
      (pss_cons (ps_set (i := 10) sc_law_edit_row.nd rfl (.inl rfl) (pe_call G_law_new hr_law_new (by rfl) T.g_law_new T.F_law_new.kp T.b_law_new .nil pass0 (pa_cons (pv 0) pa_nil)))
      (C8.pss_cut (ps_if (PW.pt (pw_and (pt_cmpR op_eq (pv 7) pe_int (nomark _)) (pw_and1 (pt_truth (pv 3) (by intro _; rfl))))) (pss_cons (ps_set (i := 8) sc_law_edit_row.nd rfl (.inl rfl) (pe_ix ix_tup (pe_ix ix_list (pv 3) (pe_un un_neg pe_int) (fun _ _ => rfl)) pe_int (fun _ _ => rfl)))
      (pss_cons (ps_set (i := 9) sc_law_edit_row.nd rfl (.inl rfl) (pe_op op_add (pv 8) (pe_callB call_len (by rfl) T.m_len PySem.boot_len (pa_cons (pe_ix ix_tup (pe_ix ix_list (pv 3) (pe_un un_neg pe_int) (fun _ _ => rfl)) pe_int (fun _ _ => rfl)) pa_nil))))
      (pss_one (ps_set (i := 10) sc_law_edit_row.nd rfl (.inl rfl) pe_str)))) (pss_one (ps_if (pt_cmpR op_eq (pv 7) pe_int (nomark _)) (pss_one (ps_set (i := 10) sc_law_edit_row.nd rfl (.inl rfl) (pe_slice sl_str (pv 4) (po_some (pv 8)) (po_some (pv 9))))) (pss_one (ps_if (pt_cmpR op_eq (pv 7) pe_int (nomark _)) (pss_cons (ps_set (i := 8) sc_law_edit_row.nd rfl (.inl rfl) pe_int)
      (pss_one (ps_set (i := 9) sc_law_edit_row.nd rfl (.inl rfl) (pe_call G_law_pick hr_law_pick (by rfl) T.g_law_pick T.F_law_pick.kp T.b_law_pick .nil pass0 (pa_cons (pv 0) (pa_cons (pe_lst (pa_cons pe_int (pa_cons (pe_callB (call_min2 rfl) (by rfl) T.m_min (by decide +kernel) (pa_cons pe_int (pa_cons (pe_callB call_len_str (by rfl) T.m_len PySem.boot_len (pa_cons (pv 4) pa_nil)) pa_nil))) (pa_cons (pe_callB call_len_str (by rfl) T.m_len PySem.boot_len (pa_cons (pv 4) pa_nil)) pa_nil)))) pa_nil)))))) pss_nil)))))
      (C8.pss_cut (ps_if (pt_cmpR op_gt (pe_op op_add (pe_callB call_len_str (by rfl) T.m_len PySem.boot_len (pa_cons (pv 4) pa_nil)) (pe_callB call_len_str (by rfl) T.m_len PySem.boot_len (pa_cons (pv 10) pa_nil))) pe_int (nomark _)) (pss_one (ps_set (i := 10) sc_law_edit_row.nd rfl (.inl rfl) pe_str)) pss_nil)
      (pss_cons (ps_expr (pe_bm PySem.F.plainAttrs_list PySem.F.slot_list_append PySem.F.type_list_append mt_append (pv 3) (pa_cons (pe_tup (pa_cons (pv 8) (pa_cons (pv 9) (pa_cons (pv 10) pa_nil)))) pa_nil)))
      (pss_cons (ps_set (i := 5) sc_law_edit_row.nd rfl (.inl rfl) (pe_op op_add (pv 8) (pe_call G_law_draw hr_law_draw (by rfl) T.g_law_draw T.F_law_draw.kp T.b_law_draw .nil pass0 (pa_cons (pv 0) (pa_cons (pe_op op_add (pe_callB call_len_str (by rfl) T.m_len PySem.boot_len (pa_cons (pv 10) pa_nil)) pe_int) pa_nil)))))
      (pss_one (ps_set (i := 4) sc_law_edit_row.nd rfl (.inl rfl) (pe_op op_add_str (pe_op op_add_str (pe_slice sl_str (pv 4) po_none (po_some (pv 8))) (pv 10)) (pe_slice sl_str (pv 4) (po_some (pv 9)) po_none))))))))))))))
      (pss_one (ps_ret (pv 3))))))), ?_⟩
    refine ⟨Nat.zero_le _, fun l nl => ?_⟩
    refine ⟨_, rfl, ?_⟩
    refine ⟨_, rfl, n, rfl, by omega, by omega, ?_⟩
    refine for_range (lo := 0) (n := n.toNat) (fun i σ H' => ∃ (now : Str) (near : Int) (y6 y7 y8 y9 y10 : Option V), σ = [some (.ref r), some (.str z), some (.int n), some (.ref l), some (.str now), some (.int near), y6, y7, y8, y9, y10] ∧ RowSt r l H i z now H')
      ⟨z, 0, none, none, none, none, none, rfl, ⟨[], [], upd_same, .nil, rfl, (fun e he => absurd he List.not_mem_nil), True.intro, rfl, fun k => by rw [List.take_nil]; exact hz⟩, (hr0.ne nl).symm, But.new nl, hr0.new nl, hz, hzo⟩ ?_ ?_
    · rintro i σ H1 hi ⟨now, near, y6, y7, y8, y9, y10, rfl, S1⟩
      have hlen := S1.len
      have eln := len_cs now
      -- form, start
      refine ⟨_, rfl, r, _, rfl, S1.reel, by decide, fun form H2 f0 f1 hb2 hR2 => ?_⟩
      have S2 := S1.mono hb2 hR2
      refine ⟨_, rfl, _, rfl, _, rfl, sz1 (by omega), _, 1, rfl, rfl, r, _, rfl, hR2, by omega, fun st H3 st0 st1 hb3 hR3 => ?_⟩
      have S3 := S2.mono hb3 hR3
      -- if form < 4 ..
      refine ⟨fun σ H' => ∃ st : Int, σ = [some (.ref r), some (.str z), some (.int n), some (.ref l), some (.str now), some (.int near), some (.int (0 + (i : Int))), some (.int form), some (.int st), y9, y10] ∧ 0 ≤ st ∧ st ≤ (now.length : Int) ∧ RowSt r l H i z now H', ?_, ?_⟩
      · refine ⟨_, rfl, form, 4, rfl, rfl, _, rfl, ite2 (fun e => ?_) (fun e => ?_)⟩
        · refine ⟨_, rfl, _, rfl, sz1 (by omega), _, rfl, _, rfl, r, _, rfl, hR3, by decide, fun d H4 d0 d1 hb4 hR4 => ?_⟩
          refine ⟨near, d, rfl, rfl, _, 2, rfl, rfl, 0, _, rfl, _, _, rfl, ⟨_, rfl, ?_, ?_, S3.mono hb4 hR4⟩⟩
          · split <;> split <;> omega
          · split <;> split <;> omega
        · refine ⟨_, rfl, rfl, _, rfl, ite2 (fun e => ?_) (fun e => ?_)⟩
          · refine ⟨_, rfl, _, rfl, sz1 (by omega), _, rfl, r, _, rfl, hR3, by decide, fun d H4 d0 d1 hb4 hR4 => ?_⟩
            refine ⟨_, d, rfl, rfl, 0, _, rfl, ⟨_, rfl, ?_, ?_, S3.mono hb4 hR4⟩⟩
            · split <;> omega
            · split <;> omega
          · exact ⟨st, rfl, st0, by omega, S3⟩
      · rintro σ H4 ⟨st, rfl, st0, st1, S4⟩
        -- end
        refine ⟨_, rfl, _, rfl, sz1 (by omega), _, rfl, _, rfl, _, rfl, _, rfl, sz1 (by omega), _, 3, rfl, rfl, ⟨by decide, by decide⟩, by show 9 ≤ sizeLine; decide, fun p np => ?_⟩
        refine ⟨r, _, rfl, S4.reel.new np, .inr ⟨p, _, rfl, (S4.reel.ne np).symm, SqL.of upd_same, by show 0 < 9; decide, fun v H5 hv hb5 hR5 => ?_⟩⟩
        have S5 := (S4.new np (o := _)).mono hb5 hR5
        obtain ⟨k, hk, rfl⟩ := mem_ints (l := [0, 0, 0, 1, 1, 2, 5, 30, ((now.length : Int)) / 3]) hv
        have k0 : 0 ≤ k := by
          have : ∀ x ∈ [0, 0, 0, 1, 1, 2, 5, 30, ((now.length : Int)) / 3], (0 : Int) ≤ x := by
            intro x hx
            simp only [List.mem_cons, List.not_mem_nil, or_false] at hx
            omega
          exact this k hk
        refine ⟨st, k, rfl, rfl, _, _, rfl, ?_⟩
        -- new
        refine ⟨_, rfl, r, rfl, hR5, fun new H6 hnew hno hb6 hR6 => ?_⟩
        have S6 := S5.mono hb6 hR6
        -- if form == 5 and edits ..
        refine ⟨RowMid r l H i z now n near form, ?_, ?_⟩
        · obtain ⟨⟨us, es, u1, u2, u3, u4, u5, u6, _⟩, _⟩ := id S6
          have elif6 : RowMid r l H i z now n near form [some (.ref r), some (.str z), some (.int n), some (.ref l), some (.str now), some (.int near), some (.int (0 + (i : Int))), some (.int form), some (.int st), some (.int (if st + k < (now.length : Int) then st + k else (now.length : Int))), some (.str new)] H6 :=
            ⟨_, _, _, rfl, st0, by split <;> omega, by split <;> omega, by omega, hno, S6⟩
          refine ⟨_, rfl, rfl, _, rfl, ite2 (fun e => ?_) (fun e => ?_)⟩
          · refine ⟨_, rfl, !us.isEmpty, .inl ⟨us, SqL.of u1, rfl⟩, ite2 (fun e2 => ?_) (fun e2 => ?_)⟩
            · -- start = edits[-1][0] ..
              have hne : us ≠ [] := fun z => by
                rw [z] at e2
                cases e2
              obtain ⟨us0, ul, rfl⟩ : ∃ a b, us = a ++ [b] := ⟨us.dropLast, us.getLast hne, (List.dropLast_concat_getLast hne).symm⟩
              have hle := paired_len u2
              rw [List.length_append] at hle
              obtain ⟨el, hel⟩ : ∃ e, es[us0.length]? = some e := ⟨_, List.getElem?_eq_getElem (by simp only [List.length_singleton] at hle; omega)⟩
              obtain ⟨u', h1, t, rfl, ht⟩ := paired_get u2 hel
              have h2 : (us0 ++ [ul])[us0.length]? = some ul := by simp
              rw [h2] at h1
              have h3 := Option.some.inj h1
              subst h3
              have hb := u4 el (List.mem_of_getElem? hel)
              refine ⟨_, rfl, 1, rfl, l, _, _, _, rfl, rfl, SqL.of u1, atI_last _ _, t, _, 0, .int el.1, rfl, rfl, SqT.of ht, atI_nat (j := 0) rfl, ?_⟩
              refine ⟨_, rfl, _, rfl, 1, rfl, l, _, _, _, rfl, rfl, SqL.of u1, atI_last _ _, t, _, 2, .str el.2.2, rfl, rfl, SqT.of ht, atI_nat (j := 2) rfl, ?_⟩
              refine ⟨_, _, rfl, ⟨sz1 (by rw [len_cs]; exact Nat.le_trans hb.2.2.1 (by decide)), rfl⟩, el.1, _, rfl, rfl, ?_⟩
              have hes : es = es.take us0.length ++ [el] := by
                have hl2 : es.length = us0.length + 1 := by simp only [List.length_singleton] at hle; omega
                have h1 := take_more hel
                rw [List.take_of_length_le (by omega)] at h1
                exact h1
              rw [hes] at u5 u6
              obtain ⟨v1, v2⟩ := (fitsL_snoc _ _ _).mp u5
              rw [← appl_len v1] at v2
              rw [appl_snoc] at u6
              have v3 := spl1_len v2
              rw [u6] at v3
              obtain ⟨w1, w2, w3⟩ := v2
              have v4 : size1 (appl (cs z) (es.take us0.length)).length el = (appl (cs z) (es.take us0.length)).length - (el.2.1.toNat - el.1.toNat) + (cs el.2.2).length := rfl
              have v5 := len_cs el.2.2
              exact ⟨_, _, _, rfl, hb.1, by omega, by omega, by show 0 ≤ 2000; decide, tok_of (by decide +kernel), S6⟩
            · refine ⟨_, rfl, rfl, _, rfl, ite2 (fun e => ?_) (fun e => ?_)⟩
              · exfalso
                have h1 := of_decide_eq_true e
                have h2 : form = 6 := V.int.inj h1
                rename_i e0
                have h3 := of_decide_eq_true e0
                have h4 : form = 5 := V.int.inj h3
                omega
              · refine ⟨_, rfl, rfl, _, rfl, ite2 (fun e => ?_) (fun e => elif6)⟩
                exfalso
                rename_i e0 _
                have h1 : form = 7 := V.int.inj (of_decide_eq_true e)
                have h4 : form = 5 := V.int.inj (of_decide_eq_true e0)
                omega
          · refine iteF ?_
            refine ⟨_, rfl, rfl, _, rfl, ite2 (fun e => ?_) (fun e => ?_)⟩
            · refine ⟨_, rfl, _, rfl, _, rfl, _, rfl, _, rfl, now, rfl, sz1 (by omega), ?_⟩
              exact ⟨_, _, _, rfl, st0, by split <;> omega, by split <;> omega, Nat.le_trans (cut_len _ _ _) hlen, cut_tok S6.tok _ _, S6⟩
            · refine ⟨_, rfl, rfl, _, rfl, ite2 (fun e => ?_) (fun e => elif6)⟩
              refine ⟨_, rfl, _, rfl, _, rfl, sz1 (by omega), 1, _, rfl, _, rfl, _, rfl, sz1 (by omega), by show 3 ≤ sizeLine; decide, fun p np => ?_⟩
              refine ⟨r, _, rfl, S6.reel.new np, .inr ⟨p, _, rfl, (S6.reel.ne np).symm, SqL.of upd_same, by show 0 < 3; decide, fun v H7 hv hb7 hR7 => ?_⟩⟩
              obtain ⟨k, hk, rfl⟩ := mem_ints (l := [0, (if ((now.length : Int)) < 1 then ((now.length : Int)) else 1), ((now.length : Int))]) hv
              have k0 : 0 ≤ k ∧ k ≤ (now.length : Int) := by
                simp only [List.mem_cons, List.not_mem_nil, or_false] at hk
                rcases hk with rfl | rfl | rfl
                · omega
                · split <;> omega
                · omega
              exact ⟨_, _, _, rfl, by decide, k0.1, k0.2, by omega, hno, (S6.new np (o := _)).mono hb7 hR7⟩
        · rintro σ H7 ⟨st, en, new, rfl, s0, s1, s2, hnew, hno, S7⟩
          have enw := len_cs new
          -- if len(now) + len(new) > 1990
          refine ⟨fun σ H' => ∃ (new : Str), σ = [some (.ref r), some (.str z), some (.int n), some (.ref l), some (.str now), some (.int near), some (.int (0 + (i : Int))), some (.int form), some (.int st), some (.int en), some (.str new)] ∧ (cs now).length + (cs new).length ≤ 2000 ∧ (cs new).length ≤ 2000 ∧ TOk new ∧ RowSt r l H i z now H', ?_, ?_⟩
          · refine ⟨_, rfl, _, rfl, sz1 (by omega), _, rfl, _, rfl, sz1 (by omega), _, _, rfl, rfl, _, _, rfl, rfl, _, rfl, ite2 (fun e => ?_) (fun e => ?_)⟩
            · exact ⟨_, rfl, by show _ + 0 ≤ _; omega, by show 0 ≤ 2000; decide, tok_of (by decide +kernel), S7⟩
            · have h1 : ¬ (1990 : Int) < (now.length : Int) + (new.length : Int) := fun h => e (decide_eq_true h)
              exact ⟨_, rfl, by omega, hnew, hno, S7⟩
          · rintro σ H8 ⟨new, rfl, hn2, hn3, hno, S8⟩
            have enw := len_cs new
            obtain ⟨⟨us, es, u1, u2, u3, u4, u5, u6, u7⟩, hne, hbt, hR8, _, htok⟩ := S8
            have ul := paired_len u2
            -- edits.append((start, end, new))
            refine ⟨.ref l, rfl, .inl ⟨rfl, _, SqL.of u1⟩, _, rfl, _, rfl, _, rfl, by show 3 ≤ sizeLine; decide, fun t nt => ?_⟩
            have lt : l ≠ t := ne_of_none u1 nt
            have u1' : (upd H8 t (.tup [.int st, .int en, .str new])) l = some (.lst us) := by rw [upd_ne lt]; exact u1
            refine ⟨l, us, .ref t, rfl, rfl, u1', sz2 (by omega), ?_⟩
            have tp : Tups H8 (upd (upd H8 t (.tup [.int st, .int en, .str new])) l (.lst (us ++ [.ref t]))) := (Tups.new nt).trans (Tups.mut u1')
            have hfit : fit1 (appl (cs z) es).length (st, en, new) := by
              rw [u6]
              exact ⟨s0, s1, by show en ≤ ((cs now).length : Int); omega⟩
            have S9 : (∃ vs es, (upd (upd H8 t (.tup [.int st, .int en, .str new])) l (.lst (us ++ [.ref t]))) l = some (.lst vs) ∧ EdsIn (upd (upd H8 t (.tup [.int st, .int en, .str new])) l (.lst (us ++ [.ref t]))) vs es ∧ es.length = i + 1 ∧ (∀ e ∈ es, EdBd e) ∧ fitsL (cs z).length es ∧ appl (cs z) es = spl1 (cs now) (st, en, new) ∧ ∀ k, (appl (cs z) (es.take k)).length ≤ 2000) ∧ But r H (upd (upd H8 t (.tup [.int st, .int en, .str new])) l (.lst (us ++ [.ref t]))) ∧ ReelAt (upd (upd H8 t (.tup [.int st, .int en, .str new])) l (.lst (us ++ [.ref t]))) r := by
              refine ⟨⟨us ++ [.ref t], es ++ [(st, en, new)], upd_same, paired_app (u2.mono tp) (.cons ⟨t, rfl, ?_⟩ .nil), ?_, ?_, ?_, ?_, ?_⟩, ?_, ?_⟩
              · rw [upd_ne lt.symm, upd_same]
              · rw [List.length_append, u3]
                rfl
              · intro e he
                rcases List.mem_append.mp he with he | he
                · exact u4 e he
                · rw [List.mem_singleton.mp he]
                  exact ⟨s0, s1, hn3, hno⟩
              · rw [appl_len u5] at hfit
                exact (fitsL_snoc _ _ _).mpr ⟨u5, hfit⟩
              · rw [appl_snoc, u6]
              · intro k
                by_cases hk : k ≤ es.length
                · rw [List.take_append_of_le_length hk]
                  exact u7 k
                · have l1 : [((st, en, new) : Ed)].length = 1 := rfl
                  rw [List.take_of_length_le (by rw [List.length_append]; omega), appl_snoc, u6]
                  show (spliceL (cs now) st.toNat en.toNat (cs new)).length ≤ 2000
                  exact Nat.le_trans (spliceL_len (by omega)) hn2
              · exact fun b o nb e => by
                  have e8 := hbt b o nb e
                  rw [upd_ne (ne_of_none e nl), upd_ne (ne_of_none e8 nt)]
                  exact e8
              · obtain ⟨z1, c1, e1, e2⟩ := hR8
                exact ⟨z1, c1, by rw [upd_ne hne.symm, upd_ne (ne_of_none e1 nt)]; exact e1, e2⟩
            obtain ⟨⟨vs9, es9, q1, q2, q3, q4, q5, q6, q7⟩, b9, r9⟩ := S9
            -- near
            refine ⟨_, rfl, _, rfl, _, rfl, _, rfl, sz1 (by omega), _, 1, rfl, rfl, r, _, rfl, r9, by omega, fun d H10 d0 d1 hb10 hR10 => ?_⟩
            refine ⟨st, d, rfl, rfl, ?_⟩
            -- now
            refine ⟨_, rfl, _, rfl, _, rfl, now, rfl, sz1 (by omega), _, rfl, _, _, rfl, rfl, ?_, _, rfl, _, rfl, _, rfl, now, rfl, sz1 (by omega), _, _, rfl, rfl, ?_, ?_⟩
            · have h1 := cutS_length now none (some st)
              exact sz1 (by omega)
            · have h1 := cutS_length now none (some st)
              have h2 := cutS_length now (some en) none
              have h3 : (cutS now none (some st) ++ new).length = (cutS now none (some st)).length + new.length := by
                rw [len_cs, len_cs, len_cs, cs_app, List.length_append]
              exact sz1 (by omega)
            · obtain ⟨a, rfl⟩ := nat_of s0
              obtain ⟨b, rfl⟩ := nat_of (show 0 ≤ en by omega)
              refine ⟨_, _, _, _, _, _, _, rfl, ⟨vs9, es9, hb10 l _ hne q1, q2.mono (hb10.tups r9), q3, q4, q5, ?_, q7⟩, hne, b9.trans hb10, hR10, ?_, ?_⟩
              · rw [q6, cs_splice]
                rfl
              · rw [cs_splice]
                exact Nat.le_trans (spliceL_len (by omega)) hn2
              · intro c hc
                rw [cs_splice] at hc
                exact spl_tok htok hno c hc
    · rintro σ H1 ⟨now, near, y6, y7, y8, y9, y10, rfl, S1⟩
      obtain ⟨⟨vs, es, e1, e2, e3, e4, e5, e6, e7⟩, n1, b0, r0, ln, tk⟩ := S1
      exact ⟨_, rfl, q l H1 vs es nl e1 e2 (by omega) e4 e5 e7 b0 r0⟩
theorem ok_edit_row2 (T : Txt K mg) : FnOk P w K mg base CX0 5 T.a_law_edit_row T.fd_law_edit_row ["reel", "text", "count"] spRow2 :=
  (ok_edit_row3 T).imp fun _ _ _ _ ⟨r, z, n, e, h1, h2, h3, h4, h5, q⟩ => ⟨r, z, n, e, h1, h2, h3, h4, h5, fun l H' us es k1 k2 k3 k4 k5 k6 k7 k8 k9 => q l H' us es k1 k2 k3 k4 k5 k6 (by
    have h6 := k7 es.length
    rw [List.take_length] at h6
    rw [← appl_len k6]
    exact h6) k8 k9⟩
theorem ok_edit_row (T : Txt K mg) : FnOk P w K mg base CX0 5 T.a_law_edit_row T.fd_law_edit_row ["reel", "text", "count"] spRow :=
  (ok_edit_row2 T).imp fun _ _ _ _ ⟨r, z, n, e, h1, h2, h3, h4, h5, q⟩ => ⟨r, z, n, e, h1, h2, h3, h4, h5, fun l H' us es k1 k2 k3 k4 k5 k6 _ k7 k8 => q l H' us es k1 k2 k3 k4 k5 k6 k7 k8⟩

/-! ### planted edits -/
theorem cutV_pre (xs : List V) (a : Nat) : cutV xs none (some (a : Int)) = xs.take a := by
  unfold cutV
  rw [HT.sIx_nat, HT.sIx_none, List.drop_zero, Nat.sub_zero, ← List.take_eq_take_min]
theorem cutV_suf (xs : List V) (a : Nat) : cutV xs (some (a : Int)) none = xs.drop a := by
  unfold cutV
  rw [HT.sIx_nat, HT.sIx_none, List.take_of_length_le (by rw [List.length_drop]; exact Nat.le_refl _)]
  by_cases h : a ≤ xs.length
  · rw [Nat.min_eq_left h]
  · rw [Nat.min_eq_right (by omega), List.drop_eq_nil_of_le (Nat.le_refl _), List.drop_eq_nil_of_le (by omega)]
theorem fitsL_get : ∀ {n i : Nat} {es : List Ed} {e : Ed}, fitsL n es → es[i]? = some e → fit1 (sizeL n (es.take i)) e
  | _, _, [], _, _, h => by simp at h
  | n, 0, x :: r, e, h, g => by
    have q := Option.some.inj g
    subst q
    exact h.1
  | n, i + 1, x :: r, e, h, g => fitsL_get (n := size1 n x) (i := i) (es := r) h.2 (by simpa using g)
/-- edits with texts of at most 2000 signs -/
def Short (es : List Ed) : Prop := ∀ e ∈ es, e.len ≤ 2000 ∧ TOk e.2.2

/-! ### splicing, the way back, equal edits -/
def Lim (t : List Nat) (es : List Ed) : Prop := ∀ k, (appl t (es.take k)).length ≤ 4000000
def EdsAt (H : Hp) (l : Addr) (es : List Ed) : Prop := ∃ us, H l = some (.lst us) ∧ EdsIn H us es
theorem EdsAt.mono {H H' : Hp} {l : Addr} {es : List Ed} (h : EdsAt H l es) (s : Same H H') : EdsAt H' l es := by
  obtain ⟨us, h1, h2⟩ := h
  exact ⟨us, s _ _ h1, h2.mono fun b xs e => s b _ e⟩
theorem szM {n : Nat} (h : n ≤ 4000000) : n ≤ sizeLine := Nat.le_trans h (by decide)
theorem str_eq (x : Str) : (⟨(cs x).toArray⟩ : Str) = x := cs_inj rfl
theorem mkS_eq {x : Str} {l : List Nat} (h : cs x = l) : x = ⟨l.toArray⟩ := cs_inj h
/-- an edit that fits has places -/
theorem fit_nat {n : Nat} {e : Ed} (h : fit1 n e) : ∃ a b : Nat, e = ((a : Int), (b : Int), e.2.2) ∧ a ≤ b ∧ b ≤ n := by
  obtain ⟨x, y, s⟩ := e
  obtain ⟨h1, h2, h3⟩ := h
  simp only at h1 h2 h3
  obtain ⟨a, rfl⟩ := nat_of h1
  obtain ⟨b, rfl⟩ := nat_of (show 0 ≤ y by omega)
  exact ⟨a, b, rfl, by omega, by omega⟩
def spSplice : Sp := fun vs H Q _ => ∃ (z : Str) (l : Addr) (es : List Ed), vs = [.str z, .ref l] ∧ EdsAt H l es ∧ fitsL (cs z).length es ∧ Lim (cs z) es ∧ Q (.str ⟨(appl (cs z) es).toArray⟩) H
theorem cut_pre_len (z : Str) (a : Nat) : (cutS z none (some (a : Int))).length ≤ a := by
  rw [len_cs, cut_pre, List.length_take]
  exact Nat.min_le_left _ _
theorem spl_pre (t : List Nat) (a b : Nat) (s : List Nat) : (t.take a).length + s.length ≤ (spliceL t a b s).length := by
  unfold spliceL
  rw [List.length_append, List.length_append]
  omega

/-- the answer of the search for the first edit that does not fit -/
def unfitI (n : Nat) (es : List Ed) : Int := match unfit n es with
  | some k => (k : Int)
  | none => -1
theorem unfit_here : ∀ {n i : Nat} {es : List Ed} {e : Ed}, fitsL n (es.take i) → es[i]? = some e → ¬ fit1 (sizeL n (es.take i)) e → unfit n es = some i
  | _, _, [], _, _, h, _ => by simp at h
  | n, 0, x :: r, e, _, g, h => by
    have q := Option.some.inj g
    subst q
    show (if fit1 n x then (unfit (size1 n x) r).map (· + 1) else some 0) = some 0
    rw [if_neg (show ¬ fit1 n x from h)]
  | n, i + 1, x :: r, e, f, g, h => by
    have ih := unfit_here (n := size1 n x) (i := i) (es := r) f.2 (by simpa using g) h
    show (if fit1 n x then (unfit (size1 n x) r).map (· + 1) else some 0) = some (i + 1)
    rw [if_pos f.1, ih]
    rfl

theorem ok_splice (T : Txt K mg) : FnOk P w K mg base CX0 1 T.a_law_splice T.fd_law_splice ["text", "edits"] spSplice := by
  refine T.F_law_splice.ok sc_law_splice (fun vs H Q E h => ?_) (fun cdv A outer s H vs Q E hr h => ?_)
  · obtain ⟨z, l, es, rfl, _⟩ := h
    rfl
  · obtain ⟨z, l, es, rfl, ⟨us, hl, hes⟩, hfit, hlim, q⟩ := h
    have hle := paired_len hes
    refine ⟨_, (pss_cons (ps_set (i := 2) sc_law_splice.nd rfl (.inl rfl) (pv 0))
      (pss_cons (ps_for PassesOwn.never rfl (pi_list (pv 1)) (pg_name (i := 3) sc_law_splice.nd rfl (.inl rfl)) (pss_one (ps_set (i := 2) sc_law_splice.nd rfl (.inl rfl) (pe_op op_add_str (pe_op op_add_str (pe_slice sl_str (pv 2) po_none (po_some (pe_ix ix_tup (pv 3) pe_int (fun _ _ => rfl)))) (pe_ix ix_tup (pv 3) pe_int (fun _ _ => rfl))) (pe_slice sl_str (pv 2) (po_some (pe_ix ix_tup (pv 3) pe_int (fun _ _ => rfl))) po_none)))))
      (pss_one (ps_ret (pv 2))))), ?_⟩
    refine ⟨_, rfl, ?_⟩
    refine ⟨_, rfl, l, rfl, ⟨_, SqL.of hl⟩, ?_⟩
    refine for_list (K := K) (a := l) (xs := us) (fun i σ H' => H' = H ∧ ∃ (now : Str) (y3 : Option V), σ = [some (.str z), some (.ref l), some (.str now), y3] ∧ cs now = appl (cs z) (es.take i))
      ⟨rfl, z, none, rfl, rfl⟩ (fun i σ H' _ ⟨e, _⟩ => by rw [e]; exact SqL.of hl) ?_ ?_
    · rintro i x σ H1 hx ⟨rfl, now, y3, rfl, hnow⟩
      obtain ⟨e, he⟩ : ∃ e, es[i]? = some e := ⟨_, List.getElem?_eq_getElem (by rw [← hle]; exact (List.getElem?_eq_some_iff.mp hx).1)⟩
      obtain ⟨x', hx', t, rfl, ht⟩ := paired_get hes he
      rw [hx] at hx'
      have h1 := Option.some.inj hx'
      subst h1
      have hf := fitsL_get hfit he
      rw [← appl_len (fitsL_take i hfit), ← hnow] at hf
      obtain ⟨a, b, hab, h2, h3⟩ := fit_nat hf
      have lim1 := hlim (i + 1)
      rw [take_more he, appl_snoc, ← hnow] at lim1
      rw [hab] at ht lim1
      have lim2 : (spliceL (cs now) a b (cs e.2.2)).length ≤ 4000000 := lim1
      have lim0 := hlim i
      rw [← hnow] at lim0
      have sp := spl_pre (cs now) a b (cs e.2.2)
      have l1 : (cutS now none (some (a : Int))).length = ((cs now).take a).length := by rw [len_cs, cut_pre]
      refine ⟨_, rfl, _, rfl, t, _, 0, .int (a : Int), rfl, rfl, SqT.of ht, atI_nat (j := 0) rfl, _, rfl, now, rfl, szM (by rw [len_cs]; exact lim0), ?_⟩
      refine ⟨_, rfl, t, _, 2, .str e.2.2, rfl, rfl, SqT.of ht, atI_nat (j := 2) rfl, _, _, rfl, rfl, szM (by rw [l1, len_cs]; omega), ?_⟩
      refine ⟨_, rfl, _, rfl, t, _, 1, .int (b : Int), rfl, rfl, SqT.of ht, atI_nat (j := 1) rfl, _, rfl, now, rfl, szM (by rw [len_cs]; exact lim0), ?_⟩
      refine ⟨_, _, rfl, rfl, ?_, rfl, _, _, rfl, ?_⟩
      · have h9 : (cutS now none (some (a : Int)) ++ e.2.2 ++ cutS now (some (b : Int)) none).length = (cutS now none (some (a : Int)) ++ e.2.2).length + (cutS now (some (b : Int)) none).length := by
          rw [len_cs, len_cs, len_cs, cs_app, List.length_append]
        rw [← h9, len_cs, cs_splice]
        exact szM lim2
      · rw [cs_splice, take_more he, appl_snoc, ← hnow]
        rw [hab]
        rfl
    · rintro σ H1 ⟨rfl, now, y3, rfl, hnow⟩
      rw [hle, List.take_length] at hnow
      refine ⟨_, rfl, ?_⟩
      rw [mkS_eq hnow]
      exact q

def edD (e : Ed) : PyData := .tuple [.int e.1, .int e.2.1, .str e.2.2]
theorem edD_lay {e : Ed} (h : TOk e.2.2) : (edD e).canLay0 = true := by
  have h1 : PyData.strOk e.2.2 = true := by
    unfold PyData.strOk
    rw [← Array.all_toList]
    exact List.all_eq_true.mpr fun c hc => decide_eq_true (h c hc)
  unfold edD
  simp [PyData.canLay0, PyData.canLayAll0, h1]
theorem edD_depth (e : Ed) : (edD e).depth ≤ 3 := by
  unfold edD
  simp [PyData.depth, PyData.depthAll]
theorem edD_shaped {e : Ed} (h : TOk e.2.2) : SeqAt.shaped (edD e) = true := by
  unfold SeqAt.shaped
  rw [edD_lay h]
  have := edD_depth e
  simp only [Bool.true_and, decide_eq_true_eq]
  omega
theorem EdAt.dp {H : Hp} {v : V} {e : Ed} (h : EdAt H v e) : Dp K H v (edD e) := by
  obtain ⟨t, rfl, ht⟩ := h
  exact .tup (SqT.of ht) (.cons (.int _) (.cons (.int _) (.cons (.str _) .nil)))

def spSame : Sp := fun vs H Q _ => ∃ (v1 v2 : V) (e : Ed), vs = [v1, v2] ∧ EdAt H v1 e ∧ EdAt H v2 e ∧ TOk e.2.2 ∧ Q (.bl true) H
theorem ok_same (T : Txt K mg) : FnOk P w K mg base CX0 2 T.a_law_same_edit T.fd_law_same_edit ["told", "due"] spSame := by
  have G_law_number : FnOk P w K mg base CX0 1 T.a_law_number T.fd_law_number ["value"] spNumber := ok_number T
  refine T.F_law_same_edit.ok sc_law_same_edit (fun vs H Q E h => ?_) (fun cdv A outer s H vs Q E hr h => ?_)
  · obtain ⟨v1, v2, e, rfl, _⟩ := h
    rfl
  · have hr_law_number : Room 1 _ := hr
    obtain ⟨v1, v2, e, rfl, h1, h2, ho, q⟩ := h
    obtain ⟨t, rfl, ht⟩ := id h1
    refine ⟨_, (pss_cons (ps_if (PW.pt (pw_or (pt_not (pt_val (pe_callB call_isi (by rfl) T.m_isinstance (by decide +kernel) (pa_cons (pv 0) (pa_cons (pe_bltn (v := .ty "tuple") (by rfl) T.m_tuple (by decide +kernel) rfl) pa_nil))))) (pw_or1 (pt_cmpR op_ne (pe_callB call_len_seq (by rfl) T.m_len PySem.boot_len (pa_cons (pv 0) pa_nil)) pe_int (nomark _))))) (pss_one (ps_ret pe_bl)) pss_nil)
      (pss_cons (ps_if (PW.pt (pw_or (pt_not (pt_val (pe_call G_law_number hr_law_number (by rfl) T.g_law_number T.F_law_number.kp T.b_law_number .nil pass0 (pa_cons (pe_ix ix_tup (pv 0) pe_int (fun _ _ => rfl)) pa_nil)))) (pw_or (pt_not (pt_val (pe_call G_law_number hr_law_number (by rfl) T.g_law_number T.F_law_number.kp T.b_law_number .nil pass0 (pa_cons (pe_ix ix_tup (pv 0) pe_int (fun _ _ => rfl)) pa_nil)))) (pw_or1 (pt_not (pt_val (pe_callB call_isi (by rfl) T.m_isinstance (by decide +kernel) (pa_cons (pe_ix ix_tup (pv 0) pe_int (fun _ _ => rfl)) (pa_cons (pe_bltn (v := .ty "str") (by rfl) T.m_str (by decide +kernel) rfl) pa_nil))))))))) (pss_one (ps_ret pe_bl)) pss_nil)
      (pss_one (ps_ret (pe_cmpR (op_eqD hr.units) (pv 0) (pv 1) (nomark _)))))), ?_⟩
    refine ⟨_, rfl, _, _, _, _, true, rfl, .ty _, .base (.tup ht), kit_ty (by decide +kernel), true, rfl, iteF ?_⟩
    refine ⟨_, rfl, t, _, rfl, .inr (SqT.of ht), rfl, _, rfl, iteF ?_⟩
    refine ⟨_, rfl, t, _, 0, .int e.1, rfl, rfl, SqT.of ht, atI_nat (j := 0) rfl, e.1, rfl, true, rfl, iteF ?_⟩
    refine ⟨_, rfl, t, _, 1, .int e.2.1, rfl, rfl, SqT.of ht, atI_nat (j := 1) rfl, e.2.1, rfl, true, rfl, iteF ?_⟩
    refine ⟨_, rfl, t, _, 2, .str e.2.2, rfl, rfl, SqT.of ht, atI_nat (j := 2) rfl, _, _, _, _, true, rfl, .ty _, .base (.str _), kit_ty (by decide +kernel), true, rfl, iteF ?_⟩
    refine ⟨_, rfl, _, rfl, edD e, edD e, h1.dp, h2.dp, edD_shaped ho, edD_shaped ho, ?_⟩
    rw [SeqAt.eqv_refl _ (edD_lay ho)]
    exact q

/-! ### what the program promises of edits -/
def Lim2 (t : List Nat) (es : List Ed) : Prop := ∀ k, fitsL t.length (es.take k) → (appl t (es.take k)).length ≤ 4000000
theorem Lim2.lim {t : List Nat} {es : List Ed} (h : Lim2 t es) (f : fitsL t.length es) : Lim t es := fun k => h k (fitsL_take k f)
theorem Lim2.take {t : List Nat} {es : List Ed} (h : Lim2 t es) (j : Nat) : Lim2 t (es.take j) := fun k f => by
  rw [List.take_take] at f ⊢
  exact h _ f
def Sized (es : List Ed) : Prop := ∀ e ∈ es, e.len ≤ 4000000 ∧ TOk e.2.2
theorem Short.sized {es : List Ed} (h : Short es) : Sized es := fun e he => ⟨Nat.le_trans (h e he).1 (by decide), (h e he).2⟩
/-- an EditError with its index -/
def ErrAt (C : Addr) (H : Hp) (E : XK) (k : Nat) : Prop := ∀ d H', Same H H' → H d = none → H' d = some (.xd [(("index" : Str), .int (k : Int))]) → E (.ref C) (some d) H'
def spApply (C : Addr) : Sp := fun vs H Q E => ∃ (z : Str) (l : Addr) (es : List Ed), vs = [.str z, .ref l] ∧ EdsAt H l es ∧ Sized es ∧ es.length ≤ 2000 ∧ (cs z).length ≤ 4000000 ∧ TOk z ∧ Lim2 (cs z) es ∧
  (fitsL (cs z).length es → ∀ H', Same H H' → Q (.str ⟨(appl (cs z) es).toArray⟩) H') ∧ (∀ k, unfit (cs z).length es = some k → ErrAt C H E k)
def spInverse (C : Addr) : Sp := fun vs H Q E => ∃ (z : Str) (l : Addr) (es : List Ed), vs = [.str z, .ref l] ∧ EdsAt H l es ∧ Sized es ∧ es.length ≤ 2000 ∧ (cs z).length ≤ 4000000 ∧ TOk z ∧ Lim2 (cs z) es ∧
  (fitsL (cs z).length es → ∀ l' H', Same H H' → H l' = none → EdsAt H' l' (backL (cs z) es) → Q (.ref l') H') ∧ (∀ k, unfit (cs z).length es = some k → ErrAt C H E k)
theorem short_lim : ∀ {es : List Ed} {t : List Nat}, Short es → fitsL t.length es → (appl t es).length ≤ t.length + es.length * 2000
  | [], t, _, _ => Nat.le_add_right _ _
  | e :: r, t, h, f => by
    obtain ⟨f1, f2⟩ := f
    have e1 := spl1_len f1
    rw [← e1] at f2
    have ih := short_lim (es := r) (t := spl1 t e) (fun x hx => h x (List.mem_cons_of_mem _ hx)) f2
    have h1 := (h e List.mem_cons_self).1
    have s1 : size1 t.length e ≤ t.length + e.len := by
      unfold size1
      omega
    show (appl (spl1 t e) r).length ≤ t.length + (r.length + 1) * 2000
    rw [e1] at ih
    omega
theorem short_lim2 {es : List Ed} {t : List Nat} (h : Short es) (ht : t.length ≤ 2000) (hn : es.length ≤ 1500) : Lim2 t es := fun k f => by
  have h1 := short_lim (es := es.take k) (t := t) (fun x hx => h x (List.mem_of_mem_take hx)) f
  have h2 : (es.take k).length ≤ es.length := by rw [List.length_take]; exact Nat.min_le_right _ _
  omega
theorem EdsAt.cut {H : Hp} {l p : Addr} {es : List Ed} (h : EdsAt H l es) (np : H p = none) (k : Nat) : ∃ us, H l = some (.lst us) ∧ EdsAt (upd H p (.lst (cutV us none (some (k : Int))))) p (es.take k) := by
  obtain ⟨us, h1, h2⟩ := h
  refine ⟨us, h1, us.take k, ?_, paired_take k (h2.mono (Tups.new np))⟩
  rw [cutV_pre, upd_same]

theorem edDs_lay : ∀ {es : List Ed}, (∀ e ∈ es, TOk e.2.2) → PyData.canLayAll0 (es.map edD) = true
  | [], _ => rfl
  | e :: r, h => by
    rw [List.map_cons]
    simp only [PyData.canLayAll0]
    rw [edD_lay (h e List.mem_cons_self), edDs_lay fun x hx => h x (List.mem_cons_of_mem _ hx)]
    rfl
theorem edDs_depth : ∀ es : List Ed, PyData.depthAll (es.map edD) ≤ 3
  | [] => by simp [PyData.depthAll]
  | e :: r => by
    have h1 := edD_depth e
    have h2 := edDs_depth r
    rw [List.map_cons]
    simp only [PyData.depthAll]
    omega
theorem edL_lay {es : List Ed} (h : ∀ e ∈ es, TOk e.2.2) : (PyData.list (es.map edD)).canLay0 = true := by
  simp only [PyData.canLay0]
  exact edDs_lay h
theorem edL_shaped {es : List Ed} (h : ∀ e ∈ es, TOk e.2.2) : SeqAt.shaped (.list (es.map edD)) = true := by
  unfold SeqAt.shaped
  rw [edL_lay h]
  have := edDs_depth es
  have d : (PyData.list (es.map edD)).depth = PyData.depthAll (es.map edD) + 1 := by simp only [PyData.depth]
  rw [d, Bool.true_and, decide_eq_true_eq]
  omega
theorem eds_dp {H : Hp} : ∀ {vs : List V} {es : List Ed}, EdsIn H vs es → DpAll K H vs (es.map edD)
  | _, _, .nil => .nil
  | _, _, .cons r t => .cons r.dp (eds_dp t)
theorem EdsAt.dp {H : Hp} {l : Addr} {es : List Ed} (h : EdsAt H l es) : Dp K H (.ref l) (.list (es.map edD)) := by
  obtain ⟨us, h1, h2⟩ := h
  exact .lst (SqL.of h1) (eds_dp h2)
theorem EdsAt.out {H : Hp} {l p : Addr} {es : List Ed} {o : HO} (h : EdsAt H l es) (n : l ≠ p) (t : Tups H (upd H p o)) : EdsAt (upd H p o) l es := by
  obtain ⟨us, h1, h2⟩ := h
  exact ⟨us, by rw [upd_ne n]; exact h1, h2.mono t⟩

/-! ### walks over texts -/
theorem for_strS {x : Str} {g : L2.TG} {tb : L2.TS} {D : L2.Ends} {σ : L2.St} {H : Hp} (Pv : Nat → L2.St → Hp → Prop) (h0 : Pv 0 σ H)
    (hs : ∀ i c σ H, x.cps[i]? = some c → Pv i σ H → g (.str ⟨#[c]⟩) σ H fun σ2 H2 => tb { D with nx := Pv (i + 1), ct := Pv (i + 1), bk := D.nx } σ2 H2) (hd : ∀ σ H, Pv x.cps.size σ H → D.nx σ H) :
    ∃ Wk : Nat → Nat → L2.St → Hp → Prop, (∃ mm, Wk 0 mm σ H) ∧ ∀ i mm σ H, Wk i mm σ H →
      ((Its x).stop i H ∧ D.nx σ H) ∨ ((Its x).go i H ∧ ∃ N : L2.St → Hp → Prop, (∀ σ' H', N σ' H' → ∃ mm', mm' < mm ∧ Wk (i + 1) mm' σ' H') ∧ ∀ y H', (Its x).yld i H y H' → g y σ H' fun σ2 H2 => tb { D with nx := N, ct := N, bk := D.nx } σ2 H2) := by
  refine ⟨fun i mm σ H => mm = x.cps.size - i ∧ i ≤ x.cps.size ∧ Pv i σ H, ⟨x.cps.size, by simp, Nat.zero_le _, h0⟩, ?_⟩
  rintro i mm σ H ⟨rfl, hi, pz⟩
  by_cases hlt : i < x.cps.size
  · refine .inr ⟨hlt, Pv (i + 1), fun σ' H' pz' => ⟨x.cps.size - (i + 1), by omega, rfl, hlt, pz'⟩, fun y H' hy => ?_⟩
    obtain ⟨rfl, c, hc, rfl⟩ := hy
    exact hs i c σ H' hc pz
  · have ee : i = x.cps.size := by omega
    subst ee
    exact .inl ⟨Nat.le_refl _, hd σ H pz⟩
theorem lc_strS {x : Str} {g : L2.TG} {tt : L2.TT} {te : L2.TE} {vs : List Nat} {σ : L2.St} {H1 : Hp} {D : Addr} {Qd : Hp → Prop} (Pv : Nat → Hp → Prop) (h0 : Pv 0 (upd H1 D (.lst [])))
    (hs : ∀ i c H, x.cps[i]? = some c → Pv i H → g (.str ⟨#[c]⟩) (wipe σ vs) H fun σ2 H2 => wipe σ2 vs = wipe σ vs ∧ tt σ2 H2 fun b H3 =>
      if b = true then te σ2 H3 fun y H4 => ∃ acc, H4 D = some (.lst acc) ∧ acc.length < sizeLine ∧ Pv (i + 1) (upd H4 D (.lst (acc ++ [y]))) else Pv (i + 1) H3) (hd : ∀ H, Pv x.cps.size H → Qd H) :
    ∃ Wk : Nat → Nat → Hp → Prop, (∃ mm, Wk 0 mm (upd H1 D (.lst []))) ∧ ∀ i mm H, Wk i mm H →
      ((Its x).stop i H ∧ Qd H) ∨ ((Its x).go i H ∧ ∃ Nx : Hp → Prop, (∀ H', Nx H' → ∃ mm', mm' < mm ∧ Wk (i + 1) mm' H') ∧ ∀ y H', (Its x).yld i H y H' → g y (wipe σ vs) H' fun σ2 H2 => wipe σ2 vs = wipe σ vs ∧ tt σ2 H2 fun b H3 =>
        if b = true then te σ2 H3 fun y H4 => ∃ acc, H4 D = some (.lst acc) ∧ acc.length < sizeLine ∧ Nx (upd H4 D (.lst (acc ++ [y]))) else Nx H3) := by
  refine ⟨fun i mm H => mm = x.cps.size - i ∧ i ≤ x.cps.size ∧ Pv i H, ⟨x.cps.size, by simp, Nat.zero_le _, h0⟩, ?_⟩
  rintro i mm H ⟨rfl, hi, pz⟩
  by_cases hlt : i < x.cps.size
  · refine .inr ⟨hlt, Pv (i + 1), fun H' pz' => ⟨x.cps.size - (i + 1), by omega, rfl, hlt, pz'⟩, fun y H' hy => ?_⟩
    obtain ⟨rfl, c, hc, rfl⟩ := hy
    exact hs i c H' hc pz
  · have ee : i = x.cps.size := by omega
    subst ee
    exact .inl ⟨Nat.le_refl _, hd H pz⟩
/-- a walk over enumerate(xs) -/
theorem for_enumS {K : PySem.W.Frag} {a : Addr} {xs : List V} {g : L2.TG} {tb : L2.TS} {D : L2.Ends} {σ : L2.St} {H : Hp} (Pv : Nat → L2.St → Hp → Prop) (h0 : Pv 0 σ H) (hl : ∀ i σ H, i ≤ xs.length → Pv i σ H → SqL K H a xs)
    (hs : ∀ i x t σ H, xs[i]? = some x → Pv i σ H → H t = none → g (.ref t) σ (upd H t (.tup [.int (i : Nat), x])) fun σ2 H2 => tb { D with nx := Pv (i + 1), ct := Pv (i + 1), bk := D.nx } σ2 H2) (hd : ∀ σ H, Pv xs.length σ H → D.nx σ H) :
    ∃ Wk : Nat → Nat → L2.St → Hp → Prop, (∃ mm, Wk 0 mm σ H) ∧ ∀ i mm σ H, Wk i mm σ H →
      ((Ite K a).stop i H ∧ D.nx σ H) ∨ ((Ite K a).go i H ∧ ∃ N : L2.St → Hp → Prop, (∀ σ' H', N σ' H' → ∃ mm', mm' < mm ∧ Wk (i + 1) mm' σ' H') ∧ ∀ y H', (Ite K a).yld i H y H' → g y σ H' fun σ2 H2 => tb { D with nx := N, ct := N, bk := D.nx } σ2 H2) := by
  refine ⟨fun i mm σ H => mm = xs.length - i ∧ i ≤ xs.length ∧ Pv i σ H, ⟨xs.length, by simp, Nat.zero_le _, h0⟩, ?_⟩
  rintro i mm σ H ⟨rfl, hi, pz⟩
  have q := hl i σ H hi pz
  by_cases hlt : i < xs.length
  · have hx : xs[i]? = some (xs[i]) := List.getElem?_eq_getElem hlt
    refine .inr ⟨⟨xs, xs[i], q, hx⟩, Pv (i + 1), fun σ' H' pz' => ⟨xs.length - (i + 1), by omega, rfl, hlt, pz'⟩, fun y H' hy => ?_⟩
    obtain ⟨t, x, rfl, ht, rfl, hall⟩ := hy
    exact hs i x t σ H (hall xs q) pz ht
  · have ee : i = xs.length := by omega
    subst ee
    exact .inl ⟨⟨xs, q, Nat.le_refl _⟩, hd σ H pz⟩

/-- two lists of the same edits -/
def spSames : Sp := fun vs H Q _ => ∃ (a b : Addr) (es : List Ed), vs = [.ref a, .ref b] ∧ EdsAt H a es ∧ EdsAt H b es ∧ (∀ e ∈ es, TOk e.2.2) ∧ es.length ≤ 100000 ∧ Q (.bl true) H
theorem ok_sames (T : Txt K mg) : FnOk P w K mg base CX0 3 T.a_law_same_edits T.fd_law_same_edits ["told", "due"] spSames := by
  have G_law_same_edit : FnOk P w K mg base CX0 2 T.a_law_same_edit T.fd_law_same_edit ["told", "due"] spSame := ok_same T
  refine T.F_law_same_edits.ok sc_law_same_edits (fun vs H Q E h => ?_) (fun cdv A outer s H vs Q E hr h => ?_)
  · obtain ⟨a, b, es, rfl, _⟩ := h
    rfl
  · have hr_law_same_edit : Room 2 _ := hr
    obtain ⟨a, b, es, rfl, ⟨us, ha, hua⟩, ⟨ws, hb, hwb⟩, ho, hn, q⟩ := h
    have l1 := paired_len hua
    have l2 := paired_len hwb
    refine ⟨_, (pss_cons (ps_if (PW.pt (pw_or (pt_not (pt_val (pe_callB call_isi (by rfl) T.m_isinstance (by decide +kernel) (pa_cons (pv 0) (pa_cons (pe_bltn (v := .ty "list") (by rfl) T.m_list (by decide +kernel) rfl) pa_nil))))) (pw_or1 (pt_cmpR op_ne (pe_callB call_len_seq (by rfl) T.m_len PySem.boot_len (pa_cons (pv 0) pa_nil)) (pe_callB call_len_seq (by rfl) T.m_len PySem.boot_len (pa_cons (pv 1) pa_nil)) (nomark _))))) (pss_one (ps_ret pe_bl)) pss_nil)
      (pss_cons (ps_for PassesOwn.never rfl (pi_range1 (by rfl) T.m_range (pa_cons (pe_callB call_len_seq (by rfl) T.m_len PySem.boot_len (pa_cons (pv 1) pa_nil)) pa_nil)) (pg_name (i := 2) sc_law_same_edits.nd rfl (.inl rfl)) (pss_one (ps_if (pt_not (pt_val (pe_call G_law_same_edit hr_law_same_edit (by rfl) T.g_law_same_edit T.F_law_same_edit.kp T.b_law_same_edit .nil pass0 (pa_cons (pe_ix ix_list (pv 0) (pv 2) (fun _ _ => rfl)) (pa_cons (pe_ix ix_list (pv 1) (pv 2) (fun _ _ => rfl)) pa_nil))))) (pss_one (ps_ret pe_bl)) pss_nil)))
      (pss_one (ps_ret pe_bl)))), ?_⟩
    refine ⟨_, rfl, _, _, _, _, true, rfl, .ty _, .base (.lst ha), kit_ty (by decide +kernel), true, rfl, iteF ?_⟩
    refine ⟨_, rfl, a, _, rfl, .inl (SqL.of ha), _, rfl, b, _, rfl, .inl (SqL.of hb), rfl, _, rfl, ?_⟩
    rw [l1, l2]
    refine iteNS rfl ?_
    refine ⟨_, rfl, b, _, rfl, .inl (SqL.of hb), _, rfl, by omega, by omega, ?_⟩
    refine for_range (lo := 0) (n := ((ws.length : Int)).toNat) (fun i σ H' => H' = H ∧ ∃ y : Option V, σ = [some (.ref a), some (.ref b), y]) ⟨rfl, none, rfl⟩ ?_ ?_
    · rintro i σ H1 hi ⟨rfl, y, rfl⟩
      obtain ⟨e, he⟩ : ∃ e, es[i]? = some e := ⟨_, List.getElem?_eq_getElem (by omega)⟩
      obtain ⟨x1, hx1, e1⟩ := paired_get hua he
      obtain ⟨x2, hx2, e2⟩ := paired_get hwb he
      refine ⟨_, rfl, _, rfl, a, _, _, _, rfl, rfl, SqL.of ha, at_of (j := i) (by omega) hx1, _, rfl, _, rfl, b, _, _, _, rfl, rfl, SqL.of hb, at_of (j := i) (by omega) hx2, ?_⟩
      exact ⟨x1, x2, e, rfl, e1, e2, ho e (List.mem_of_getElem? he), true, rfl, iteF ⟨rfl, _, rfl⟩⟩
    · rintro σ H1 ⟨rfl, y, rfl⟩
      exact q

/-- the way back -/
def spBack : Sp := fun vs H Q _ => ∃ (z : Str) (l : Addr) (es : List Ed), vs = [.str z, .ref l] ∧ EdsAt H l es ∧ fitsL (cs z).length es ∧ Lim (cs z) es ∧ es.length ≤ 100000 ∧
  ∀ l' H', Same H H' → H l' = none → EdsAt H' l' (backL (cs z) es) → Q (.ref l') H'
theorem ok_back (T : Txt K mg) : FnOk P w K mg base CX0 1 T.a_law_back T.fd_law_back ["text", "edits"] spBack := by
  refine T.F_law_back.ok sc_law_back (fun vs H Q E h => ?_) (fun cdv A outer s H vs Q E hr h => ?_)
  · obtain ⟨z, l, es, rfl, _⟩ := h
    rfl
  · obtain ⟨z, l, es, rfl, ⟨us, hl, hes⟩, hfit, hlim, hn, q⟩ := h
    have hle := paired_len hes
    refine ⟨_, (pss_cons (ps_set (i := 2) sc_law_back.nd rfl (.inl rfl) (pv 0))
      (pss_cons (ps_set (i := 3) sc_law_back.nd rfl (.inl rfl) (pe_lst pa_nil))
      (pss_cons (ps_for PassesOwn.never rfl (pi_list (pv 1)) (pg_name (i := 4) sc_law_back.nd rfl (.inl rfl)) (pss_cons (ps_set (i := 3) sc_law_back.nd rfl (.inl rfl) (pe_op op_cat (pe_lst (pa_cons (pe_tup (pa_cons (pe_ix ix_tup (pv 4) pe_int (fun _ _ => rfl)) (pa_cons (pe_op op_add (pe_ix ix_tup (pv 4) pe_int (fun _ _ => rfl)) (pe_callB call_len (by rfl) T.m_len PySem.boot_len (pa_cons (pe_ix ix_tup (pv 4) pe_int (fun _ _ => rfl)) pa_nil))) (pa_cons (pe_slice sl_str (pv 2) (po_some (pe_ix ix_tup (pv 4) pe_int (fun _ _ => rfl))) (po_some (pe_ix ix_tup (pv 4) pe_int (fun _ _ => rfl)))) pa_nil)))) pa_nil)) (pv 3)))
      (pss_one (ps_set (i := 2) sc_law_back.nd rfl (.inl rfl) (pe_op op_add_str (pe_op op_add_str (pe_slice sl_str (pv 2) po_none (po_some (pe_ix ix_tup (pv 4) pe_int (fun _ _ => rfl)))) (pe_ix ix_tup (pv 4) pe_int (fun _ _ => rfl))) (pe_slice sl_str (pv 2) (po_some (pe_ix ix_tup (pv 4) pe_int (fun _ _ => rfl))) po_none))))))
      (pss_one (ps_ret (pv 3)))))), ?_⟩
    refine ⟨_, rfl, ?_⟩
    refine ⟨Nat.zero_le _, fun p np => ?_⟩
    refine ⟨_, rfl, l, rfl, ⟨_, SqL.of (by rw [upd_ne (ne_of_none hl np)]; exact hl)⟩, ?_⟩
    refine for_list (K := K) (a := l) (xs := us) (fun i σ H' => ∃ (now : Str) (b : Addr) (y4 : Option V), σ = [some (.str z), some (.ref l), some (.str now), some (.ref b), y4] ∧ cs now = appl (cs z) (es.take i) ∧ Same H H' ∧ H b = none ∧ EdsAt H' b (backL (cs z) (es.take i)))
      ⟨z, p, none, rfl, rfl, same_upd np, np, [], upd_same, .nil⟩ (fun i σ H' _ ⟨_, _, _, _, _, sm, _⟩ => sm.seq (SqL.of hl)) ?_ ?_
    · rintro i x σ H1 hx ⟨now, b, y4, rfl, hnow, sm, nb, ws, hb, hwb⟩
      obtain ⟨e, he⟩ : ∃ e, es[i]? = some e := ⟨_, List.getElem?_eq_getElem (by rw [← hle]; exact (List.getElem?_eq_some_iff.mp hx).1)⟩
      obtain ⟨x', hx', t, rfl, ht0⟩ := paired_get hes he
      have ht := sm t _ ht0
      rw [hx] at hx'
      have h1 := Option.some.inj hx'
      subst h1
      have hf := fitsL_get hfit he
      rw [← appl_len (fitsL_take i hfit), ← hnow] at hf
      obtain ⟨a, c, hab, h2, h3⟩ := fit_nat hf
      have lim1 := hlim (i + 1)
      rw [take_more he, appl_snoc, ← hnow] at lim1
      rw [hab] at ht lim1
      have lim2 : (spliceL (cs now) a c (cs e.2.2)).length ≤ 4000000 := lim1
      have lim0 := hlim i
      rw [← hnow] at lim0
      have sp := spl_pre (cs now) a c (cs e.2.2)
      have l1 : (cutS now none (some (a : Int))).length = ((cs now).take a).length := by rw [len_cs, cut_pre]
      have szn : now.length ≤ sizeLine := szM (by rw [len_cs]; exact lim0)
      have sze : e.2.2.length ≤ sizeLine := szM (by rw [len_cs]; omega)
      -- back = [(..)] + back
      refine ⟨_, rfl, t, _, 0, .int (a : Int), rfl, rfl, SqT.of ht, atI_nat (j := 0) rfl, ?_⟩
      refine ⟨_, rfl, t, _, 0, .int (a : Int), rfl, rfl, SqT.of ht, atI_nat (j := 0) rfl, _, rfl, t, _, 2, .str e.2.2, rfl, rfl, SqT.of ht, atI_nat (j := 2) rfl, _, _, rfl, ⟨sze, rfl⟩, _, _, rfl, rfl, ?_⟩
      refine ⟨_, rfl, _, rfl, t, _, 0, .int (a : Int), rfl, rfl, SqT.of ht, atI_nat (j := 0) rfl, _, rfl, _, rfl, t, _, 1, .int (c : Int), rfl, rfl, SqT.of ht, atI_nat (j := 1) rfl, _, rfl, now, rfl, szn, ?_⟩
      refine ⟨by show 3 ≤ sizeLine; decide, fun t2 nt2 => ⟨by show 1 ≤ sizeLine; decide, fun c1 nc1 => ?_⟩⟩
      have hb2 : (upd (upd H1 t2 (.tup [.int (a : Int), .int ((a : Int) + (e.2.2.length : Int)), .str (cutS now (some (a : Int)) (some (c : Int)))])) c1 (.lst [.ref t2])) b = some (.lst ws) := by
        rw [upd_ne (ne_of_none (by rw [upd_ne (ne_of_none hb nt2)]; exact hb) nc1), upd_ne (ne_of_none hb nt2)]
        exact hb
      have ebk : (e.1, e.1 + (e.2.2.length : Int), cutS now (some (a : Int)) (some (c : Int))) = back1 (cs now) e := by
        rw [hab]
        show ((a : Int), (a : Int) + (e.2.2.length : Int), cutS now (some (a : Int)) (some (c : Int))) = ((a : Int), (a : Int) + (((cs e.2.2).length : Nat) : Int), (⟨(((cs now).take c).drop a).toArray⟩ : Str))
        rw [len_cs, mkS_eq (cut_mid now a c)]
      have lw := paired_len hwb
      rw [backL_len, List.length_take] at lw
      have hilt := (List.getElem?_eq_some_iff.mp he).1
      refine ⟨_, rfl, c1, b, [.ref t2], ws, rfl, rfl, upd_same, hb2, sz1 (by show 1 + ws.length ≤ _; omega), fun c2 nc2 => ?_⟩
      have s2 : Same H1 (upd (upd (upd H1 t2 (.tup [.int (a : Int), .int ((a : Int) + (e.2.2.length : Int)), .str (cutS now (some (a : Int)) (some (c : Int)))])) c1 (.lst [.ref t2])) c2 (.lst ([.ref t2] ++ ws))) := (same_upd nt2).trans ((same_upd nc1).trans (same_upd nc2))
      have ht3 : (upd (upd (upd H1 t2 (.tup [.int (a : Int), .int ((a : Int) + (e.2.2.length : Int)), .str (cutS now (some (a : Int)) (some (c : Int)))])) c1 (.lst [.ref t2])) c2 (.lst ([.ref t2] ++ ws))) t2 = some (.tup [.int (a : Int), .int ((a : Int) + (e.2.2.length : Int)), .str (cutS now (some (a : Int)) (some (c : Int)))]) :=
        ((same_upd nc1).trans (same_upd nc2)) t2 _ upd_same
      have ht4 := s2 t _ ht
      -- now = ..
      refine ⟨_, rfl, _, rfl, t, _, 0, .int (a : Int), rfl, rfl, SqT.of ht4, atI_nat (j := 0) rfl, _, rfl, now, rfl, szn, ?_⟩
      refine ⟨_, rfl, t, _, 2, .str e.2.2, rfl, rfl, SqT.of ht4, atI_nat (j := 2) rfl, _, _, rfl, rfl, szM (by rw [l1, len_cs]; omega), ?_⟩
      refine ⟨_, rfl, _, rfl, t, _, 1, .int (c : Int), rfl, rfl, SqT.of ht4, atI_nat (j := 1) rfl, _, rfl, now, rfl, szn, ?_⟩
      refine ⟨_, _, rfl, rfl, ?_, _, c2, _, rfl, ?_, sm.trans s2, ?_, [.ref t2] ++ ws, upd_same, ?_⟩
      · have h9 : (cutS now none (some (a : Int)) ++ e.2.2 ++ cutS now (some (c : Int)) none).length = (cutS now none (some (a : Int)) ++ e.2.2).length + (cutS now (some (c : Int)) none).length := by
          rw [len_cs, len_cs, len_cs, cs_app, List.length_append]
        rw [← h9, len_cs, cs_splice]
        exact szM lim2
      · rw [cs_splice, take_more he, appl_snoc, ← hnow]
        rw [hab]
        rfl
      · exact (sm.trans ((same_upd nt2).trans (same_upd nc1))).free nc2
      · rw [take_more he, backL_snoc, ← hnow]
        refine .cons ⟨t2, rfl, ?_⟩ (hwb.mono fun b xs e => s2 b _ e)
        rw [← ebk]
        rw [hab]
        exact ht3
    · rintro σ H1 ⟨now, b, y4, rfl, hnow, sm, nb, hb⟩
      rw [hle, List.take_length] at hb
      exact ⟨_, rfl, q b H1 sm nb hb⟩




/-! ### the numbers of the characters -/
def tagW (s : Str) : List Int := (cs s).map fun _ => -1
theorem tagW_len (s : Str) : (tagW s).length = (cs s).length := List.length_map ..
def upTo (n : Nat) : List Int := (List.range n).map fun (k : Nat) => (k : Int)
theorem upTo_len (n : Nat) : (upTo n).length = n := by
  unfold upTo
  rw [List.length_map, List.length_range]
theorem upTo_succ (n : Nat) : upTo (n + 1) = upTo n ++ [(n : Int)] := by
  unfold upTo
  rw [List.range_succ, List.map_append]
  rfl
theorem applG_snoc {α : Type} (g : Str → List α) (t : List α) (es : List Ed) (e : Ed) : applG g t (es ++ [e]) = spl1G g (applG g t es) e := by
  unfold applG
  rw [List.foldl_append]
  rfl
theorem splG_le {α : Type} {t s : List α} {a b : Nat} (h : a ≤ b) : (splG t a b s).length ≤ t.length + s.length := by
  unfold splG
  rw [List.length_append, List.length_append, List.length_take, List.length_drop]
  omega
theorem fitsL_le : ∀ {n : Nat} {es : List Ed}, fitsL n es → ∀ e ∈ es, 0 ≤ e.1 ∧ e.1 ≤ e.2.1
  | _, [], _, _, h => absurd h List.not_mem_nil
  | _, _ :: _, f, e, h => by
    rcases List.mem_cons.mp h with h | h
    · rw [h]
      exact ⟨f.1.1, f.1.2.1⟩
    · exact fitsL_le f.2 e h
theorem applG_le : ∀ {es : List Ed} {t : List Int}, (∀ e ∈ es, 0 ≤ e.1 ∧ e.1 ≤ e.2.1) → Short es → (applG tagW t es).length ≤ t.length + es.length * 2000
  | [], t, _, _ => Nat.le_add_right _ _
  | e :: r, t, f, h => by
    have f1 := f e List.mem_cons_self
    have ih := applG_le (es := r) (t := spl1G tagW t e) (fun x hx => f x (List.mem_cons_of_mem _ hx)) (fun x hx => h x (List.mem_cons_of_mem _ hx))
    have h1 := (h e List.mem_cons_self).1
    have s1 : (spl1G tagW t e).length ≤ t.length + (tagW e.2.2).length := splG_le (by omega)
    rw [tagW_len] at s1
    show (applG tagW (spl1G tagW t e) r).length ≤ t.length + (r.length + 1) * 2000
    have : e.len = (cs e.2.2).length := rfl
    omega
theorem tagW_snoc (k : Nat) : (List.replicate k (-1 : Int)) ++ [-1] = List.replicate (k + 1) (-1) := by rw [List.replicate_succ']
theorem tagW_rep (s : Str) : tagW s = List.replicate (cs s).length (-1) := by
  unfold tagW
  rw [List.map_const']
def spTagsB : Sp := fun vs H Q _ => ∃ (n : Nat) (l : Addr) (es : List Ed), vs = [.int (n : Int), .ref l] ∧ EdsAt H l es ∧ (∀ e ∈ es, 0 ≤ e.1 ∧ e.1 ≤ e.2.1) ∧ (∀ e ∈ es, e.len ≤ 1000000) ∧ (∀ k, (applG tagW (upTo (n + 1)) (es.take k)).length ≤ 1000000) ∧ n ≤ 1000000 ∧ ∀ l' H', Same H H' → H' l' = some (.lst ((applG tagW (upTo (n + 1)) es).map V.int)) → Q (.ref l') H'
theorem ok_tagsB (T : Txt K mg) : FnOk P w K mg base CX0 1 T.a_law_tags T.fd_law_tags ["size", "edits"] spTagsB := by
  refine T.F_law_tags.ok sc_law_tags (fun vs H Q E h => ?_) (fun cdv A outer s H vs Q E hr h => ?_)
  · obtain ⟨n, l, es, rfl, _⟩ := h
    rfl
  · obtain ⟨n, l, es, rfl, hE, hf, hS, hn, hz, q⟩ := h
    refine ⟨_, (pss_cons (ps_setLc (i := 2) (own := [("k", 3)]) (g := gName 3) (by rfl) sc_law_tags.nd rfl rfl (sw_true rfl rfl rfl (by decide +kernel)) (pi_range1 (by rfl) T.m_range (pa_cons (pe_op op_add (pv 0) pe_int) pa_nil)) (blkOk_by (own := [("k", 3)]) (N := ["size", "edits", "tags", "k", "edit", "char"]) (sc := defScope s_law_tags) (by decide +kernel)) (fun _ _ _ _ _ => pg_name (i := 3) sc_law_tags.nd rfl (Or.inl rfl)) (fun _ _ _ _ _ => pts_nil) (fun _ _ _ _ _ => (pv 3)))
      (pss_cons (ps_for PassesOwn.never rfl (pi_list (pv 1)) (pg_name (i := 4) sc_law_tags.nd rfl (.inl rfl)) (pss_one (ps_set (i := 2) sc_law_tags.nd rfl (.inl rfl) (pe_op op_cat (pe_op op_cat (pe_slice sl_list (pv 2) po_none (po_some (pe_ix ix_tup (pv 4) pe_int (fun _ _ => rfl)))) (pe_lc (own := [("char", 5)]) (g := gName 5) (by rfl) sc_law_tags.nd (pi_str (pe_ix ix_tup (pv 4) pe_int (fun _ _ => rfl))) (blkOk_by (own := [("char", 5)]) (N := ["size", "edits", "tags", "k", "edit", "char"]) (sc := defScope s_law_tags) (by decide +kernel)) (fun _ _ _ _ _ => pg_name (i := 5) sc_law_tags.nd rfl (Or.inl rfl)) (fun _ _ _ _ _ => pts_nil) (fun _ _ _ _ _ => (pe_un un_neg pe_int)))) (pe_slice sl_list (pv 2) (po_some (pe_ix ix_tup (pv 4) pe_int (fun _ _ => rfl))) po_none)))))
      (pss_one (ps_ret (pv 2))))), ?_⟩
    refine ⟨_, rfl, _, 1, rfl, rfl, _, rfl, by omega, by omega, fun D nD => ?_⟩
    refine lc_range (lo := 0) (n := ((n : Int) + 1).toNat) (fun i H' => Same H H' ∧ H' D = some (.lst ((upTo i).map V.int))) ⟨same_upd nD, upd_same⟩ ?_ ?_
    · rintro i H' hi ⟨sm, hD⟩
      refine ⟨rfl, _, rfl, _, hD, Nat.lt_of_lt_of_le (show ((upTo i).map V.int).length < 1000002 by rw [List.length_map, upTo_len]; omega) (by decide), same_mut sm nD, ?_⟩
      rw [upd_same, upTo_succ, List.map_append, Int.zero_add]
      rfl
    · rintro H1 ⟨sm1, hD⟩
      have e1 : ((n : Int) + 1).toNat = n + 1 := by omega
      rw [e1] at hD
      obtain ⟨us, hus, hue⟩ := id hE
      have lu := paired_len hue
      refine ⟨_, rfl, l, rfl, ⟨_, SqL.of (sm1 _ _ hus)⟩, ?_⟩
      refine for_list (K := K) (a := l) (xs := us) (fun i σ H' => Same H H' ∧ ∃ (d : Addr) (y3 y4 y5 : Option V), σ = [some (.int (n : Int)), some (.ref l), some (.ref d), y3, y4, y5] ∧ H' d = some (.lst ((applG tagW (upTo (n + 1)) (es.take i)).map V.int)))
        ⟨sm1, D, none, none, none, rfl, hD⟩ (fun i σ H' _ ⟨e, _⟩ => SqL.of (e _ _ hus)) ?_ ?_
      · rintro i x σ H2 hx ⟨sm, d, y3, y4, y5, rfl, hd⟩
        obtain ⟨e, he⟩ : ∃ e, es[i]? = some e := ⟨_, List.getElem?_eq_getElem (by rw [← lu]; exact (List.getElem?_eq_some_iff.mp hx).1)⟩
        obtain ⟨x', hx', t, rfl, ht0⟩ := paired_get hue he
        rw [hx] at hx'
        have h1 := Option.some.inj hx'
        subst h1
        have hem := List.mem_of_getElem? he
        obtain ⟨f0, f1⟩ := hf e hem
        obtain ⟨a, ha⟩ := nat_of f0
        obtain ⟨b, hb⟩ := nat_of (Int.le_trans f0 f1)
        obtain ⟨ea, eb, es1⟩ := e
        dsimp only at ha hb
        subst ha hb
        have hl1 : es1.length ≤ 1000000 := by rw [len_cs]; exact hS _ hem
        have hlen := hn i
        have ht := sm _ _ ht0
        have ht : H2 t = some (.tup [.int (a : Int), .int (b : Int), .str es1]) := ht
        have esn : applG tagW (upTo (n + 1)) (es.take (i + 1)) = splG (applG tagW (upTo (n + 1)) (es.take i)) a b (tagW es1) := by
          rw [take_more he, applG_snoc]
          rfl
        obtain ⟨ts, ets⟩ : ∃ ts, ts = applG tagW (upTo (n + 1)) (es.take i) := ⟨_, rfl⟩
        rw [← ets] at hd hlen esn
        have hlen2 : ts.length ≤ 1000000 := by omega
        refine ⟨_, rfl, _, rfl, t, _, 0, .int (a : Int), rfl, rfl, SqT.of ht, atI_nat (j := 0) rfl, _, rfl, d, _, rfl, SqL.of hd, fun c nc => ?_⟩
        rw [cutV_pre]
        have s3 := same_upd (o := .lst ((ts.map V.int).take a)) nc
        refine ⟨_, rfl, t, _, 2, .str es1, rfl, rfl, SqT.of (s3 _ _ ht), atI_nat (j := 2) rfl, es1, rfl, fun D2 nD2 => ?_⟩
        refine lc_strS (fun j H' => Same (upd H2 c (.lst ((ts.map V.int).take a))) H' ∧ H' D2 = some (.lst ((List.replicate j (-1 : Int)).map V.int))) ⟨same_upd nD2, upd_same⟩ ?_ ?_
        · rintro j ch H3 hj ⟨s4, hD2⟩
          have hj' : j < es1.length := (Array.getElem?_eq_some_iff.mp hj).1
          refine ⟨rfl, 1, rfl, _, hD2, Nat.lt_of_lt_of_le (show ((List.replicate j (-1 : Int)).map V.int).length < 1000002 by rw [List.length_map, List.length_replicate]; omega) (by decide), same_mut s4 nD2, ?_⟩
          rw [upd_same, List.replicate_succ', List.map_append]
          rfl
        · rintro H4 ⟨s4, hD2⟩
          have e3 : (List.replicate es1.cps.size (-1 : Int)) = tagW es1 := by rw [tagW_rep, ← len_cs]; rfl
          rw [e3] at hD2
          have l3 := tagW_len es1
          rw [← len_cs] at l3
          have s5 := s3.trans s4
          have hc4 := s4 _ _ upd_same
          refine ⟨c, D2, _, _, rfl, rfl, hc4, hD2, ?_, fun p np => ?_⟩
          · rw [List.length_take, List.length_map, List.length_map, l3]
            exact szM (by omega)
          have s6 := s5.trans (same_upd (o := .lst ((ts.map V.int).take a ++ (tagW es1).map V.int)) np)
          refine ⟨_, rfl, _, rfl, t, _, 1, .int (b : Int), rfl, rfl, SqT.of (s6 _ _ ht), atI_nat (j := 1) rfl, _, rfl, d, _, rfl, SqL.of (s6 _ _ hd), fun c2 nc2 => ?_⟩
          rw [cutV_suf]
          have s7 := s6.trans (same_upd (o := .lst ((ts.map V.int).drop b)) nc2)
          refine ⟨p, c2, _, _, rfl, rfl, (by rw [upd_ne (ne_of_none upd_same nc2)]; exact upd_same), upd_same, ?_, fun p2 np2 => ?_⟩
          · rw [List.length_append, List.length_take, List.length_drop, List.length_map, List.length_map, l3]
            exact szM (by omega)
          refine ⟨sm.trans (s7.trans (same_upd np2)), p2, _, _, _, rfl, ?_⟩
          rw [upd_same, esn]
          unfold splG
          rw [List.map_append, List.map_append, List.map_take, List.map_drop]
      · rintro σ H2 ⟨sm, d, y3, y4, y5, rfl, hd⟩
        rw [lu, List.take_length] at hd
        exact ⟨_, rfl, q _ _ sm hd⟩
def spTags : Sp := fun vs H Q _ => ∃ (n : Nat) (l : Addr) (es : List Ed), vs = [.int (n : Int), .ref l] ∧ EdsAt H l es ∧ (∀ e ∈ es, 0 ≤ e.1 ∧ e.1 ≤ e.2.1) ∧ Short es ∧ es.length ≤ 400 ∧ n ≤ 50000 ∧ ∀ l' H', Same H H' → H' l' = some (.lst ((applG tagW (upTo (n + 1)) es).map V.int)) → Q (.ref l') H'
theorem ok_tags (T : Txt K mg) : FnOk P w K mg base CX0 1 T.a_law_tags T.fd_law_tags ["size", "edits"] spTags :=
  (ok_tagsB T).imp fun _ _ _ _ ⟨n, l, es, e, h1, h2, h3, h4, h5, q⟩ => ⟨n, l, es, e, h1, h2, fun x hx => Nat.le_trans (h3 x hx).1 (by decide), fun k => by
    have h6 := applG_le (es := es.take k) (t := upTo (n + 1)) (fun e he => h2 e (List.mem_of_mem_take he)) (fun e he => h3 e (List.mem_of_mem_take he))
    rw [upTo_len] at h6
    have h7 : (es.take k).length ≤ es.length := by rw [List.length_take]; exact Nat.min_le_right _ _
    have h8 : (es.take k).length * 2000 ≤ 400 * 2000 := Nat.mul_le_mul_right _ (by omega)
    omega, by omega, q⟩

/-! ### runs, in plain Lean -/
abbrev Rn := Nat × Nat × Nat
def pairs1 (r : Rn) : List (Nat × Nat) := (List.range r.2.2).map fun i => (r.1 + i, r.2.1 + i)
def pairsOf (rs : List Rn) : List (Nat × Nat) := rs.flatMap pairs1
/-- one more run, at the head of the runs so far (the last one first) -/
def joinR : List Rn → Rn → List Rn
  | [], r => [r]
  | (o, n, c) :: t, (a, b, d) => if o + c = a ∧ n + c = b then (o, n, c + d) :: t else (a, b, d) :: (o, n, c) :: t
def joinedL (ps : List Rn) : List Rn := (ps.foldl joinR []).reverse
def one1 (p : Nat × Nat) : Rn := (p.1, p.2, 1)
def canon (qs : List (Nat × Nat)) : List Rn := joinedL (qs.map one1)
theorem mem_pairs1 {r : Rn} {p : Nat × Nat} : p ∈ pairs1 r ↔ r.1 ≤ p.1 ∧ p.1 < r.1 + r.2.2 ∧ p.2 + r.1 = p.1 + r.2.1 := by
  unfold pairs1
  rw [List.mem_map]
  constructor
  · rintro ⟨i, hi, rfl⟩
    rw [List.mem_range] at hi
    refine ⟨?_, ?_, ?_⟩ <;> simp only <;> omega
  · rintro ⟨h1, h2, h3⟩
    refine ⟨p.1 - r.1, List.mem_range.mpr (by omega), ?_⟩
    refine Prod.ext ?_ ?_ <;> simp only <;> omega
theorem mem_pairsOf {rs : List Rn} {p : Nat × Nat} : p ∈ pairsOf rs ↔ ∃ r ∈ rs, p ∈ pairs1 r := by
  unfold pairsOf
  rw [List.mem_flatMap]
theorem joinR_one (acc : List Rn) (o n c : Nat) (h : 0 < c) : joinR (joinR acc (o, n, c)) (o + c, n + c, 1) = joinR acc (o, n, c + 1) := by
  cases acc with
  | nil =>
    show (if o + c = o + c ∧ n + c = n + c then [(o, n, c + 1)] else _) = _
    rw [if_pos ⟨rfl, rfl⟩]
    rfl
  | cons x t =>
    obtain ⟨a, b, d⟩ := x
    show joinR (if a + d = o ∧ b + d = n then (a, b, d + c) :: t else (o, n, c) :: (a, b, d) :: t) (o + c, n + c, 1) = if a + d = o ∧ b + d = n then (a, b, d + (c + 1)) :: t else (o, n, c + 1) :: (a, b, d) :: t
    by_cases e : a + d = o ∧ b + d = n
    · rw [if_pos e, if_pos e]
      show (if a + (d + c) = o + c ∧ b + (d + c) = n + c then (a, b, d + c + 1) :: t else _) = _
      rw [if_pos (by omega), Nat.add_assoc]
    · rw [if_neg e, if_neg e]
      show (if o + c = o + c ∧ n + c = n + c then (o, n, c + 1) :: (a, b, d) :: t else _) = _
      rw [if_pos ⟨rfl, rfl⟩]
theorem pairs1_succ (o n c : Nat) : pairs1 (o, n, c + 1) = pairs1 (o, n, c) ++ [(o + c, n + c)] := by
  unfold pairs1
  show (List.range (c + 1)).map _ = (List.range c).map _ ++ _
  rw [List.range_succ, List.map_append]
  rfl
theorem joinR_pairs : ∀ (c : Nat) (acc : List Rn) (o n : Nat), ((pairs1 (o, n, c + 1)).map one1).foldl joinR acc = joinR acc (o, n, c + 1)
  | 0, acc, o, n => rfl
  | c + 1, acc, o, n => by
    rw [pairs1_succ, List.map_append, List.foldl_append, joinR_pairs c acc o n]
    show joinR (joinR acc (o, n, c + 1)) (o + (c + 1), n + (c + 1), 1) = _
    exact joinR_one acc o n (c + 1) (Nat.succ_pos c)
theorem fold_pairs : ∀ (ps : List Rn) (acc : List Rn), (∀ r ∈ ps, 0 < r.2.2) → ((pairsOf ps).map one1).foldl joinR acc = ps.foldl joinR acc
  | [], _, _ => rfl
  | (o, n, c) :: t, acc, h => by
    have h1 : 0 < c := h (o, n, c) List.mem_cons_self
    obtain ⟨d, rfl⟩ : ∃ d, c = d + 1 := ⟨c - 1, by omega⟩
    show (((pairs1 (o, n, d + 1)) ++ pairsOf t).map one1).foldl joinR acc = t.foldl joinR (joinR acc (o, n, d + 1))
    rw [List.map_append, List.foldl_append, joinR_pairs, fold_pairs t _ fun r hr => h r (List.mem_cons_of_mem _ hr)]
/-- joining pieces is joining their single pairs -/
theorem joined_canon {ps : List Rn} (h : ∀ r ∈ ps, 0 < r.2.2) : joinedL ps = canon (pairsOf ps) := by
  unfold canon joinedL
  rw [fold_pairs ps [] h]
theorem pairsOf_app (a b : List Rn) : pairsOf (a ++ b) = pairsOf a ++ pairsOf b := List.flatMap_append
theorem pairsOf_joinR (acc : List Rn) (o n : Nat) : pairsOf (joinR acc (o, n, 1)).reverse = pairsOf acc.reverse ++ [(o, n)] := by
  cases acc with
  | nil => rfl
  | cons x t =>
    obtain ⟨a, b, d⟩ := x
    show pairsOf (if a + d = o ∧ b + d = n then (a, b, d + 1) :: t else (o, n, 1) :: (a, b, d) :: t).reverse = _
    by_cases e : a + d = o ∧ b + d = n
    · rw [if_pos e, List.reverse_cons, List.reverse_cons, pairsOf_app, pairsOf_app]
      show pairsOf t.reverse ++ (pairs1 (a, b, d + 1) ++ []) = pairsOf t.reverse ++ (pairs1 (a, b, d) ++ []) ++ [(o, n)]
      rw [pairs1_succ, e.1, e.2, List.append_nil, List.append_nil, List.append_assoc]
    · rw [if_neg e, List.reverse_cons, pairsOf_app]
      rfl
theorem pairsOf_fold : ∀ (qs : List (Nat × Nat)) (acc : List Rn), pairsOf ((qs.map one1).foldl joinR acc).reverse = pairsOf acc.reverse ++ qs
  | [], acc => (List.append_nil _).symm
  | (o, n) :: t, acc => by
    show pairsOf ((t.map one1).foldl joinR (joinR acc (o, n, 1))).reverse = _
    rw [pairsOf_fold t, pairsOf_joinR, List.append_assoc]
    rfl
theorem pairsOf_canon (qs : List (Nat × Nat)) : pairsOf (canon qs) = qs := by
  unfold canon joinedL
  rw [pairsOf_fold]
  rfl
theorem joinR_pos {acc : List Rn} {r : Rn} (h : ∀ x ∈ acc, 0 < x.2.2) (hr : 0 < r.2.2) : ∀ x ∈ joinR acc r, 0 < x.2.2 := by
  cases acc with
  | nil =>
    intro x hx
    rw [List.mem_singleton.mp hx]
    exact hr
  | cons y t =>
    obtain ⟨a, b, d⟩ := y
    obtain ⟨o, n, c⟩ := r
    intro x hx
    have hx' : x ∈ (if a + d = o ∧ b + d = n then (a, b, d + c) :: t else (o, n, c) :: (a, b, d) :: t) := hx
    have hc : 0 < c := hr
    by_cases e : a + d = o ∧ b + d = n
    · rw [if_pos e] at hx'
      rcases List.mem_cons.mp hx' with rfl | h1
      · show 0 < d + c
        omega
      · exact h _ (List.mem_cons_of_mem _ h1)
    · rw [if_neg e] at hx'
      rcases List.mem_cons.mp hx' with rfl | h1
      · exact hr
      · exact h _ h1
theorem fold_pos : ∀ (ps : List Rn) (acc : List Rn), (∀ x ∈ acc, 0 < x.2.2) → (∀ x ∈ ps, 0 < x.2.2) → ∀ x ∈ ps.foldl joinR acc, 0 < x.2.2
  | [], _, h, _ => h
  | r :: t, _, h, g => fold_pos t _ (joinR_pos h (g r List.mem_cons_self)) fun x hx => g x (List.mem_cons_of_mem _ hx)
theorem canon_pos (qs : List (Nat × Nat)) : ∀ r ∈ canon qs, 0 < r.2.2 := fun r hr => by
  unfold canon joinedL at hr
  refine fold_pos (qs.map one1) [] (fun _ h => absurd h List.not_mem_nil) (fun x hx => ?_) r (List.mem_reverse.mp hr)
  obtain ⟨p, _, rfl⟩ := List.mem_map.mp hx
  exact Nat.one_pos
/-! ### ascending rows of pairs -/
def Up (l : List (Nat × Nat)) : Prop := l.Pairwise fun p q => p.1 < q.1 ∧ p.2 < q.2
theorem Up.both {l : List (Nat × Nat)} (h : Up l) : ∀ p ∈ l, ∀ q ∈ l, p = q ∨ (p.1 < q.1 ∧ p.2 < q.2) ∨ (q.1 < p.1 ∧ q.2 < p.2) := by
  induction l with
  | nil => exact fun p hp => absurd hp List.not_mem_nil
  | cons x t ih =>
    obtain ⟨h1, h2⟩ := List.pairwise_cons.mp h
    intro p hp q hq
    rcases List.mem_cons.mp hp with e1 | hp1
    · rcases List.mem_cons.mp hq with e2 | hq1
      · exact .inl (e1.trans e2.symm)
      · exact .inr (.inl (e1 ▸ h1 q hq1))
    · rcases List.mem_cons.mp hq with e2 | hq1
      · exact .inr (.inr (e2 ▸ h1 p hp1))
      · exact ih h2 p hp1 q hq1
/-- ascending rows with the same members are the same -/
theorem up_eq : ∀ {a b : List (Nat × Nat)}, a.Pairwise (fun p q => p.2 < q.2) → b.Pairwise (fun p q => p.2 < q.2) → (∀ p, p ∈ a ↔ p ∈ b) → a = b
  | [], [], _, _, _ => rfl
  | [], y :: s, _, _, h => absurd ((h y).mpr List.mem_cons_self) List.not_mem_nil
  | x :: t, [], _, _, h => absurd ((h x).mp List.mem_cons_self) List.not_mem_nil
  | x :: t, y :: s, ha, hb, h => by
    obtain ⟨a1, a2⟩ := List.pairwise_cons.mp ha
    obtain ⟨b1, b2⟩ := List.pairwise_cons.mp hb
    have e : x = y := by
      rcases List.mem_cons.mp ((h x).mp List.mem_cons_self) with e | hx
      · exact e
      rcases List.mem_cons.mp ((h y).mpr List.mem_cons_self) with e | hy
      · exact e.symm
      have l1 := b1 x hx
      have l2 := a1 y hy
      omega
    subst e
    have e2 : t = s := up_eq a2 b2 fun p => by
      constructor
      · intro hp
        rcases List.mem_cons.mp ((h p).mp (List.mem_cons_of_mem _ hp)) with e | h1
        · have := a1 p hp
          rw [e] at this
          omega
        · exact h1
      · intro hp
        rcases List.mem_cons.mp ((h p).mpr (List.mem_cons_of_mem _ hp)) with e | h1
        · have := b1 p hp
          rw [e] at this
          omega
        · exact h1
    rw [e2]
/-! ### the pairs of a row of tags -/
def tp : Nat → List Int → List (Nat × Nat)
  | _, [] => []
  | k, x :: r => if 0 ≤ x then (x.toNat, k) :: tp (k + 1) r else tp (k + 1) r
theorem mem_tp : ∀ {k : Nat} {t : List Int} {p : Nat × Nat}, p ∈ tp k t ↔ k ≤ p.2 ∧ t[p.2 - k]? = some (p.1 : Int)
  | k, [], p => by
    show p ∈ [] ↔ _
    simp
  | k, x :: r, p => by
    have ih := mem_tp (k := k + 1) (t := r) (p := p)
    have step : (k + 1 ≤ p.2 ∧ r[p.2 - (k + 1)]? = some (p.1 : Int)) ↔ (k ≤ p.2 ∧ k ≠ p.2 ∧ (x :: r)[p.2 - k]? = some (p.1 : Int)) := by
      constructor
      · rintro ⟨h1, h2⟩
        refine ⟨by omega, by omega, ?_⟩
        have : p.2 - k = (p.2 - (k + 1)) + 1 := by omega
        rw [this, List.getElem?_cons_succ]
        exact h2
      · rintro ⟨h1, h2, h3⟩
        refine ⟨by omega, ?_⟩
        have : p.2 - k = (p.2 - (k + 1)) + 1 := by omega
        rw [this, List.getElem?_cons_succ] at h3
        exact h3
    rw [step] at ih
    unfold tp
    by_cases h : 0 ≤ x
    · rw [if_pos h, List.mem_cons, ih]
      constructor
      · rintro (rfl | ⟨h1, _, h3⟩)
        · refine ⟨Nat.le_refl _, ?_⟩
          show (x :: r)[k - k]? = some ((x.toNat : Nat) : Int)
          rw [Nat.sub_self, List.getElem?_cons_zero, Int.toNat_of_nonneg h]
        · exact ⟨h1, h3⟩
      · rintro ⟨h1, h2⟩
        by_cases e : k = p.2
        · left
          rw [← e, Nat.sub_self, List.getElem?_cons_zero] at h2
          have h3 := Option.some.inj h2
          refine Prod.ext ?_ ?_ <;> simp only <;> omega
        · exact .inr ⟨h1, e, h2⟩
    · rw [if_neg h, ih]
      constructor
      · rintro ⟨h1, _, h3⟩
        exact ⟨h1, h3⟩
      · rintro ⟨h1, h2⟩
        refine ⟨h1, fun e => h ?_, h2⟩
        rw [← e, Nat.sub_self, List.getElem?_cons_zero] at h2
        have h3 := Option.some.inj h2
        omega
theorem mem_tp0 {t : List Int} {p : Nat × Nat} : p ∈ tp 0 t ↔ t[p.2]? = some (p.1 : Int) := by
  rw [mem_tp]
  simp
theorem tp_snd : ∀ (k : Nat) (t : List Int), (tp k t).Pairwise fun p q => p.2 < q.2
  | _, [] => List.Pairwise.nil
  | k, x :: r => by
    unfold tp
    by_cases h : 0 ≤ x
    · rw [if_pos h]
      refine List.pairwise_cons.mpr ⟨fun q hq => ?_, tp_snd (k + 1) r⟩
      have := (mem_tp.mp hq).1
      show k < q.2
      omega
    · rw [if_neg h]
      exact tp_snd (k + 1) r
theorem tp_snoc : ∀ (k : Nat) (t : List Int) (x : Int), tp k (t ++ [x]) = tp k t ++ (if 0 ≤ x then [(x.toNat, k + t.length)] else [])
  | k, [], x => by
    show (if 0 ≤ x then [(x.toNat, k)] else []) = [] ++ _
    rw [List.nil_append]
    rfl
  | k, y :: r, x => by
    show (if 0 ≤ y then (y.toNat, k) :: tp (k + 1) (r ++ [x]) else tp (k + 1) (r ++ [x])) = (if 0 ≤ y then (y.toNat, k) :: tp (k + 1) r else tp (k + 1) r) ++ _
    have e : k + 1 + r.length = k + (y :: r).length := by
      rw [List.length_cons]
      omega
    rw [tp_snoc (k + 1) r x, e]
    by_cases h : 0 ≤ y
    · rw [if_pos h, if_pos h]
      rfl
    · rw [if_neg h, if_neg h]
/-! ### a row of tags that ascends, up to the end of the old text -/
structure Tagged (old : Nat) (t : List Int) : Prop where
  up : Up (tp 0 t)
  last : ∃ s, t = s ++ [(old : Int)]
theorem Tagged.len {old : Nat} {t : List Int} (h : Tagged old t) : 0 < t.length := by
  obtain ⟨s, rfl⟩ := h.last
  rw [List.length_append]
  exact Nat.succ_pos _
theorem Tagged.mem_last {old : Nat} {t : List Int} (h : Tagged old t) : (old, t.length - 1) ∈ tp 0 t := by
  obtain ⟨s, rfl⟩ := h.last
  rw [mem_tp0]
  simp
theorem Tagged.le {old : Nat} {t : List Int} (h : Tagged old t) {p : Nat × Nat} (hp : p ∈ tp 0 t) : p.1 ≤ old ∧ p.2 < t.length := by
  have h1 := h.mem_last
  have h2 := mem_tp0.mp hp
  have h3 := (List.getElem?_eq_some_iff.mp h2).1
  refine ⟨?_, h3⟩
  rcases h.up.both p hp _ h1 with e | ⟨e, _⟩ | ⟨_, e⟩
  · rw [e]
    exact Nat.le_refl _
  · exact Nat.le_of_lt e
  · simp only at e
    omega
/-- one row of tags behind another -/
def compT (t u : List Int) : List Int := u.map fun m => if 0 ≤ m then (t[m.toNat]?).getD (-1) else -1
theorem compT_len (t u : List Int) : (compT t u).length = u.length := List.length_map ..
theorem mem_compT {t u : List Int} {p : Nat × Nat} : p ∈ tp 0 (compT t u) ↔ ∃ m, (p.1, m) ∈ tp 0 t ∧ (m, p.2) ∈ tp 0 u := by
  rw [mem_tp0]
  unfold compT
  rw [List.getElem?_map]
  constructor
  · intro h
    cases e : u[p.2]? with
    | none =>
      rw [e] at h
      cases h
    | some m =>
      rw [e] at h
      have h1 : (if 0 ≤ m then (t[m.toNat]?).getD (-1) else -1) = (p.1 : Int) := Option.some.inj h
      by_cases c : 0 ≤ m
      · rw [if_pos c] at h1
        cases e2 : t[m.toNat]? with
        | none =>
          rw [e2] at h1
          have h2 : (-1 : Int) = (p.1 : Int) := h1
          omega
        | some y =>
          rw [e2] at h1
          have h2 : y = (p.1 : Int) := h1
          refine ⟨m.toNat, mem_tp0.mpr ?_, mem_tp0.mpr ?_⟩
          · show t[m.toNat]? = _
            rw [e2, h2]
          · show u[p.2]? = _
            rw [e, Int.toNat_of_nonneg c]
      · rw [if_neg c] at h1
        omega
  · rintro ⟨m, h1, h2⟩
    have h3 := mem_tp0.mp h1
    have h4 := mem_tp0.mp h2
    simp only at h3 h4
    rw [h4]
    show some (if (0 : Int) ≤ (m : Int) then (t[((m : Int)).toNat]?).getD (-1) else -1) = _
    rw [if_pos (Int.natCast_nonneg m), Int.toNat_natCast, h3]
    rfl
theorem Tagged.comp {old : Nat} {t u : List Int} (h : Tagged old t) (g : Tagged (t.length - 1) u) : Tagged old (compT t u) := by
  refine ⟨?_, ?_⟩
  · have h1 := tp_snd 0 (compT t u)
    refine h1.imp_of_mem fun {p q} hp hq l => ⟨?_, l⟩
    obtain ⟨m, a1, a2⟩ := mem_compT.mp hp
    obtain ⟨m', b1, b2⟩ := mem_compT.mp hq
    have e1 := h.up.both _ a1 _ b1
    have e2 := g.up.both _ a2 _ b2
    simp only [Prod.mk.injEq] at e1 e2
    omega
  · obtain ⟨s, hs⟩ := g.last
    refine ⟨compT t s, ?_⟩
    have h1 := h.mem_last
    have h2 := mem_tp0.mp h1
    simp only at h2
    unfold compT
    conv => lhs; rw [hs]
    rw [List.map_append]
    show _ ++ [if (0 : Int) ≤ ((t.length - 1 : Nat) : Int) then (t[(((t.length - 1 : Nat) : Int)).toNat]?).getD (-1) else -1] = _
    rw [if_pos (Int.natCast_nonneg _), Int.toNat_natCast, h2]
    rfl
/-! ### the runs of two carries, one behind the other -/
def over1 (r s : Rn) : Option Rn :=
  let b := max r.2.1 s.1
  let e := min (r.2.1 + r.2.2) (s.1 + s.2.2)
  if b < e then some (r.1 + b - r.2.1, s.2.1 + b - s.1, e - b) else none
def overL (r : Rn) (ss : List Rn) : List Rn := ss.filterMap (over1 r)
def throughL (rs ss : List Rn) : List Rn := rs.flatMap fun r => overL r ss
theorem over1_pos {r s x : Rn} (h : over1 r s = some x) : 0 < x.2.2 := by
  unfold over1 at h
  simp only at h
  split at h
  · have e := Option.some.inj h
    rw [← e]
    simp only
    omega
  · cases h
theorem mem_over1 {r s : Rn} {p : Nat × Nat} : (∃ x, over1 r s = some x ∧ p ∈ pairs1 x) ↔ ∃ m, (p.1, m) ∈ pairs1 r ∧ (m, p.2) ∈ pairs1 s := by
  obtain ⟨o, n, c⟩ := r
  obtain ⟨a, b, d⟩ := s
  obtain ⟨i, j⟩ := p
  unfold over1
  simp only [mem_pairs1]
  constructor
  · rintro ⟨x, h, h1, h2, h3⟩
    split at h
    · have e := Option.some.inj h
      subst e
      simp only at h1 h2 h3
      refine ⟨i + n - o, ?_, ?_⟩ <;> omega
    · cases h
  · rintro ⟨m, ⟨h1, h2, h3⟩, h4, h5, h6⟩
    have lt : max n a < min (n + c) (a + d) := by omega
    rw [if_pos lt]
    refine ⟨_, rfl, ?_, ?_, ?_⟩ <;> simp only <;> omega
theorem mem_throughL {rs ss : List Rn} {p : Nat × Nat} : p ∈ pairsOf (throughL rs ss) ↔ ∃ m, (p.1, m) ∈ pairsOf rs ∧ (m, p.2) ∈ pairsOf ss := by
  rw [mem_pairsOf]
  unfold throughL overL
  constructor
  · rintro ⟨x, hx, hp⟩
    rw [List.mem_flatMap] at hx
    obtain ⟨r, hr, hx⟩ := hx
    rw [List.mem_filterMap] at hx
    obtain ⟨s, hs, hx⟩ := hx
    obtain ⟨m, h1, h2⟩ := mem_over1.mp ⟨x, hx, hp⟩
    exact ⟨m, mem_pairsOf.mpr ⟨r, hr, h1⟩, mem_pairsOf.mpr ⟨s, hs, h2⟩⟩
  · rintro ⟨m, h1, h2⟩
    obtain ⟨r, hr, h1⟩ := mem_pairsOf.mp h1
    obtain ⟨s, hs, h2⟩ := mem_pairsOf.mp h2
    obtain ⟨x, hx, hp⟩ := mem_over1.mpr ⟨m, h1, h2⟩
    exact ⟨x, List.mem_flatMap.mpr ⟨r, hr, List.mem_filterMap.mpr ⟨s, hs, hx⟩⟩, hp⟩
theorem throughL_pos {rs ss : List Rn} : ∀ x ∈ throughL rs ss, 0 < x.2.2 := fun x hx => by
  obtain ⟨r, hr, hx⟩ := List.mem_flatMap.mp hx
  obtain ⟨s, hs, hx⟩ := List.mem_filterMap.mp hx
  exact over1_pos hx
theorem pairs1_up (r : Rn) : Up (pairs1 r) := by
  unfold pairs1 Up
  rw [List.pairwise_map]
  refine List.pairwise_lt_range.imp fun {a b} h => ?_
  constructor <;> simp only <;> omega
theorem throughL_snd {rs ss : List Rn} (hr : Up (pairsOf rs)) (hs : Up (pairsOf ss)) : (pairsOf (throughL rs ss)).Pairwise fun p q => p.2 < q.2 := by
  have hs2 := hs
  unfold Up pairsOf at hr hs2
  rw [List.pairwise_flatMap] at hr hs2
  have mono : ∀ {m m' j j' : Nat}, (m, j) ∈ pairsOf ss → (m', j') ∈ pairsOf ss → m < m' → j < j' := fun {m m' j j'} h1 h2 l => by
    have := hs.both _ h1 _ h2
    simp only [Prod.mk.injEq] at this
    omega
  unfold pairsOf throughL
  rw [List.flatMap_assoc, List.pairwise_flatMap]
  refine ⟨fun r hr' => ?_, hr.2.imp_of_mem fun {a b} ha hb h p hp q hq => ?_⟩
  · -- within one run
    unfold overL
    have key : ∀ (l : List Rn), (∀ s ∈ l, s ∈ ss) → l.Pairwise (fun a b => ∀ x ∈ pairs1 a, ∀ y ∈ pairs1 b, x.1 < y.1 ∧ x.2 < y.2) → ((l.filterMap (over1 r)).flatMap pairs1).Pairwise fun p q => p.2 < q.2 := by
      intro l
      induction l with
      | nil => exact fun _ _ => List.Pairwise.nil
      | cons s t ih =>
        intro h1 h2
        obtain ⟨h3, h4⟩ := List.pairwise_cons.mp h2
        have ih' := ih (fun x hx => h1 x (List.mem_cons_of_mem _ hx)) h4
        rw [List.filterMap_cons]
        cases e : over1 r s with
        | none => exact ih'
        | some x =>
          show ((x :: t.filterMap (over1 r)).flatMap pairs1).Pairwise _
          rw [List.flatMap_cons, List.pairwise_append]
          refine ⟨(pairs1_up x).imp fun h => h.2, ih', fun p hp q hq => ?_⟩
          obtain ⟨y, hy, hq⟩ := List.mem_flatMap.mp hq
          obtain ⟨s', hs', hy⟩ := List.mem_filterMap.mp hy
          obtain ⟨m, _, a2⟩ := mem_over1.mp ⟨x, e, hp⟩
          obtain ⟨m', _, b2⟩ := mem_over1.mp ⟨y, hy, hq⟩
          exact (h3 s' hs' _ a2 _ b2).2
    exact key ss (fun _ h => h) hs2.2
  · obtain ⟨x, hx, hp⟩ := List.mem_flatMap.mp hp
    obtain ⟨y, hy, hq⟩ := List.mem_flatMap.mp hq
    obtain ⟨s, hs1, hx⟩ := List.mem_filterMap.mp hx
    obtain ⟨s', hs1', hy⟩ := List.mem_filterMap.mp hy
    obtain ⟨m, a1, a2⟩ := mem_over1.mp ⟨x, hx, hp⟩
    obtain ⟨m', b1, b2⟩ := mem_over1.mp ⟨y, hy, hq⟩
    have l := h _ a1 _ b1
    exact mono (mem_pairsOf.mpr ⟨s, hs1, a2⟩) (mem_pairsOf.mpr ⟨s', hs1', b2⟩) l.2
/-- THE RUNS OF A SUM -/
theorem through_comp {old mid : Nat} {t u : List Int} (h : Tagged old t) (g : Tagged mid u) : pairsOf (throughL (canon (tp 0 t)) (canon (tp 0 u))) = tp 0 (compT t u) := by
  refine up_eq (throughL_snd (by rw [pairsOf_canon]; exact h.up) (by rw [pairsOf_canon]; exact g.up)) (tp_snd _ _) fun p => ?_
  rw [mem_throughL, pairsOf_canon, pairsOf_canon, mem_compT]
theorem sum_runs {old mid : Nat} {t u : List Int} (h : Tagged old t) (g : Tagged mid u) : joinedL (throughL (canon (tp 0 t)) (canon (tp 0 u))) = canon (tp 0 (compT t u)) := by
  rw [joined_canon throughL_pos, through_comp h g]

/-! ### one edit's carry -/
theorem compT_app (t u v : List Int) : compT t (u ++ v) = compT t u ++ compT t v := List.map_append
theorem tp_app : ∀ (k : Nat) (t u : List Int), tp k (t ++ u) = tp k t ++ tp (k + t.length) u
  | k, [], u => rfl
  | k, x :: r, u => by
    have e : k + 1 + r.length = k + (x :: r).length := by
      rw [List.length_cons]
      omega
    show (if 0 ≤ x then (x.toNat, k) :: tp (k + 1) (r ++ u) else tp (k + 1) (r ++ u)) = (if 0 ≤ x then (x.toNat, k) :: tp (k + 1) r else tp (k + 1) r) ++ _
    rw [tp_app (k + 1) r u, e]
    by_cases h : 0 ≤ x
    · rw [if_pos h, if_pos h]
      rfl
    · rw [if_neg h, if_neg h]
theorem tp_none : ∀ (m k : Nat), tp k (List.replicate m (-1)) = []
  | 0, _ => rfl
  | m + 1, k => by
    rw [List.replicate_succ]
    unfold tp
    rw [if_neg (by decide), tp_none m (k + 1)]
/-- the tags of a stretch that stays -/
def stay (b c : Nat) : List Int := (List.range c).map fun i => ((b + i : Nat) : Int)
theorem stay_len (b c : Nat) : (stay b c).length = c := by
  unfold stay
  rw [List.length_map, List.length_range]
theorem stay_succ (b c : Nat) : stay b (c + 1) = stay b c ++ [((b + c : Nat) : Int)] := by
  unfold stay
  rw [List.range_succ, List.map_append]
  rfl
theorem tp_stay (b : Nat) : ∀ (c k : Nat), tp k (stay b c) = pairs1 (b, k, c)
  | 0, _ => rfl
  | c + 1, k => by
    rw [stay_succ, pairs1_succ, tp_snoc, tp_stay b c k, stay_len, if_pos (Int.natCast_nonneg _), Int.toNat_natCast]
theorem compT_stay {t : List Int} {b c : Nat} (h : b + c ≤ t.length) : compT t (stay b c) = (t.drop b).take c := by
  refine List.ext_getElem? fun i => ?_
  unfold compT stay
  rw [List.map_map, List.getElem?_map, List.getElem?_take, List.getElem?_drop]
  by_cases hi : i < c
  · rw [if_pos hi, List.getElem?_range hi]
    show some (if (0 : Int) ≤ ((b + i : Nat) : Int) then (t[(((b + i : Nat) : Int)).toNat]?).getD (-1) else -1) = _
    rw [if_pos (Int.natCast_nonneg _), Int.toNat_natCast, List.getElem?_eq_getElem (by omega)]
    rfl
  · rw [if_neg hi, List.getElem?_eq_none (by rw [List.length_range]; omega)]
    rfl
theorem compT_none (t : List Int) (m : Nat) : compT t (List.replicate m (-1)) = List.replicate m (-1) := by
  unfold compT
  rw [List.map_replicate, if_neg (by decide)]
def oneT (mid a b m : Nat) : List Int := stay 0 a ++ List.replicate m (-1) ++ stay b (mid + 1 - b)
theorem oneT_len {mid a b m : Nat} : (oneT mid a b m).length = a + m + (mid + 1 - b) := by
  unfold oneT
  rw [List.length_append, List.length_append, stay_len, stay_len, List.length_replicate]
theorem compT_one {t : List Int} {mid a b m : Nat} (hl : t.length = mid + 1) (h1 : a ≤ b) (h2 : b ≤ mid) : compT t (oneT mid a b m) = t.take a ++ List.replicate m (-1) ++ t.drop b := by
  unfold oneT
  rw [compT_app, compT_app, compT_none, compT_stay (by omega), compT_stay (by omega), List.drop_zero]
  have e : (t.drop b).take (mid + 1 - b) = t.drop b := List.take_of_length_le (by rw [List.length_drop]; omega)
  rw [e]
theorem tp_one (mid a b m : Nat) : tp 0 (oneT mid a b m) = pairs1 (0, 0, a) ++ pairs1 (b, a + m, mid + 1 - b) := by
  unfold oneT
  rw [tp_app, tp_app, tp_none, List.append_nil, tp_stay, tp_stay, List.length_append, stay_len, List.length_replicate, Nat.zero_add]
theorem one_tagged {mid a b m : Nat} (h1 : a ≤ b) (h2 : b ≤ mid) : Tagged mid (oneT mid a b m) := by
  refine ⟨?_, ?_⟩
  · rw [tp_one]
    refine List.pairwise_append.mpr ⟨pairs1_up _, pairs1_up _, fun p hp q hq => ?_⟩
    have := mem_pairs1.mp hp
    have := mem_pairs1.mp hq
    simp only at *
    omega
  · refine ⟨stay 0 a ++ List.replicate m (-1) ++ stay b (mid - b), ?_⟩
    unfold oneT
    have e : mid + 1 - b = (mid - b) + 1 := by omega
    have e2 : b + (mid - b) = mid := by omega
    rw [e, stay_succ, e2, List.append_assoc, List.append_assoc, List.append_assoc]
/-- the pieces that an edit leaves -/
def pieces (mid a b m : Nat) : List Rn := [(0, 0, a), (b, a + m, mid + 1 - b)].filter fun r => decide (0 < r.2.2)
theorem pieces_pairs (mid a b m : Nat) : pairsOf (pieces mid a b m) = pairs1 (0, 0, a) ++ pairs1 (b, a + m, mid + 1 - b) := by
  have key : ∀ ps : List Rn, pairsOf (ps.filter fun r => decide (0 < r.2.2)) = pairsOf ps := by
    intro ps
    induction ps with
    | nil => rfl
    | cons r t ih =>
      obtain ⟨o, n, c⟩ := r
      rw [List.filter_cons]
      by_cases h : 0 < c
      · rw [if_pos (show decide (0 < c) = true from decide_eq_true h)]
        show pairs1 _ ++ pairsOf _ = pairs1 _ ++ pairsOf t
        rw [ih]
      · have h0 : c = 0 := by omega
        subst h0
        rw [if_neg (by simp), ih]
        rfl
  unfold pieces
  rw [key]
  show pairs1 _ ++ (pairs1 _ ++ []) = _
  rw [List.append_nil]
theorem pieces_runs (mid a b m : Nat) : joinedL (pieces mid a b m) = canon (tp 0 (oneT mid a b m)) := by
  rw [joined_canon, pieces_pairs, tp_one]
  intro r hr
  exact of_decide_eq_true (List.mem_filter.mp hr).2
theorem whole_runs (n : Nat) : [((0, 0, n + 1) : Rn)] = canon (tp 0 (stay 0 (n + 1))) := by
  rw [tp_stay]
  have h := joined_canon (ps := [((0, 0, n + 1) : Rn)]) (by
    intro r hr
    rw [List.mem_singleton.mp hr]
    exact Nat.succ_pos _)
  show joinedL [(0, 0, n + 1)] = _
  rw [h]
  show canon (pairs1 (0, 0, n + 1) ++ []) = _
  rw [List.append_nil]
theorem whole_tagged (n : Nat) : Tagged n (stay 0 (n + 1)) := by
  refine ⟨?_, stay 0 n, ?_⟩
  · rw [tp_stay]
    exact pairs1_up _
  · rw [stay_succ, Nat.zero_add]
/-- one edit more -/
theorem Tagged.edit {old mid a b : Nat} {t : List Int} (m : Nat) (h : Tagged old t) (hl : t.length = mid + 1) (h1 : a ≤ b) (h2 : b ≤ mid) :
    Tagged old (t.take a ++ List.replicate m (-1) ++ t.drop b) ∧ joinedL (throughL (canon (tp 0 t)) (joinedL (pieces mid a b m))) = canon (tp 0 (t.take a ++ List.replicate m (-1) ++ t.drop b)) ∧ (t.take a ++ List.replicate m (-1) ++ t.drop b).length = mid - b + a + m + 1 := by
  have e : t.length - 1 = mid := by omega
  have g : Tagged (t.length - 1) (oneT mid a b m) := by
    rw [e]
    exact one_tagged h1 h2
  rw [← compT_one hl h1 h2]
  refine ⟨h.comp g, ?_, ?_⟩
  · rw [pieces_runs]
    exact sum_runs h g
  · rw [compT_len, oneT_len]
    omega

/-! ### ascending runs -/
def AscR (rs : List Rn) : Prop := rs.Pairwise fun a b => a.1 + a.2.2 ≤ b.1 ∧ a.2.1 + a.2.2 ≤ b.2.1
def PosR (rs : List Rn) : Prop := ∀ r ∈ rs, 0 < r.2.2
theorem asc_of {rs : List Rn} (h : Up (pairsOf rs)) (p : PosR rs) : AscR rs := by
  unfold Up pairsOf at h
  rw [List.pairwise_flatMap] at h
  refine h.2.imp_of_mem fun {a b} ha hb k => ?_
  have p1 := p a ha
  have p2 := p b hb
  have h1 : (a.1 + (a.2.2 - 1), a.2.1 + (a.2.2 - 1)) ∈ pairs1 a := mem_pairs1.mpr ⟨by simp only; omega, by simp only; omega, by simp only; omega⟩
  have h2 : (b.1, b.2.1) ∈ pairs1 b := mem_pairs1.mpr ⟨by simp only; omega, by simp only; omega, by simp only; omega⟩
  have := k _ h1 _ h2
  simp only at this
  omega
theorem AscR.get {rs : List Rn} (h : AscR rs) {i j : Nat} {a b : Rn} (hi : rs[i]? = some a) (hj : rs[j]? = some b) (l : i < j) : a.1 + a.2.2 ≤ b.1 ∧ a.2.1 + a.2.2 ≤ b.2.1 := by
  obtain ⟨h1, e1⟩ := List.getElem?_eq_some_iff.mp hi
  obtain ⟨h2, e2⟩ := List.getElem?_eq_some_iff.mp hj
  have := List.pairwise_iff_getElem.mp h i j h1 h2 l
  rw [e1, e2] at this
  exact this
theorem overL_snoc (r : Rn) (ss : List Rn) (s : Rn) : overL r (ss ++ [s]) = overL r ss ++ (match over1 r s with | some x => [x] | none => []) := by
  unfold overL
  rw [List.filterMap_append]
  congr 1
  rw [List.filterMap_cons]
  cases over1 r s <;> rfl
theorem over1_none {r s : Rn} (h : s.1 + s.2.2 ≤ r.2.1 ∨ r.2.1 + r.2.2 ≤ s.1) : over1 r s = none := by
  unfold over1
  simp only
  rw [if_neg (by omega)]
theorem overL_none {r : Rn} {ss : List Rn} (h : ∀ s ∈ ss, s.1 + s.2.2 ≤ r.2.1 ∨ r.2.1 + r.2.2 ≤ s.1) : overL r ss = [] := by
  unfold overL
  rw [List.filterMap_eq_nil_iff]
  exact fun s hs => over1_none (h s hs)
theorem over1_some {r s : Rn} (h1 : s.1 < r.2.1 + r.2.2) (h2 : r.2.1 < s.1 + s.2.2) (p1 : 0 < r.2.2) (p2 : 0 < s.2.2) :
    over1 r s = some (r.1 + max r.2.1 s.1 - r.2.1, s.2.1 + max r.2.1 s.1 - s.1, min (r.2.1 + r.2.2) (s.1 + s.2.2) - max r.2.1 s.1) := by
  unfold over1
  simp only
  rw [if_pos (by omega)]
theorem overL_all {r : Rn} {ss : List Rn} {i : Nat} (h : ∀ j s, i ≤ j → ss[j]? = some s → r.2.1 + r.2.2 ≤ s.1) : overL r ss = overL r (ss.take i) := by
  have e : overL r ss = overL r (ss.take i) ++ overL r (ss.drop i) := by
    unfold overL
    rw [← List.filterMap_append, List.take_append_drop]
  have e2 : overL r (ss.drop i) = [] := overL_none fun s hs => .inr (by
    obtain ⟨j, hj⟩ := List.getElem?_of_mem hs
    rw [List.getElem?_drop] at hj
    exact h (i + j) s (Nat.le_add_right _ _) hj)
  rw [e, e2, List.append_nil]
theorem throughL_snoc (rs ss : List Rn) (r : Rn) : throughL (rs ++ [r]) ss = throughL rs ss ++ overL r ss := by
  unfold throughL
  rw [List.flatMap_append]
  congr 1
  show overL r ss ++ [] = _
  rw [List.append_nil]
theorem throughL_take (rs ss : List Rn) (i : Nat) : (throughL (rs.take i) ss).length ≤ (throughL rs ss).length := by
  have e : throughL rs ss = throughL (rs.take i) ss ++ throughL (rs.drop i) ss := by
    unfold throughL
    rw [← List.flatMap_append, List.take_append_drop]
  rw [e, List.length_append]
  omega
theorem overL_take (r : Rn) (ss : List Rn) (i : Nat) : (overL r (ss.take i)).length ≤ (overL r ss).length := by
  have e : overL r ss = overL r (ss.take i) ++ overL r (ss.drop i) := by
    unfold overL
    rw [← List.filterMap_append, List.take_append_drop]
  rw [e, List.length_append]
  omega
/-- pieces have a pair each -/
theorem len_pairs : ∀ {ps : List Rn}, PosR ps → ps.length ≤ (pairsOf ps).length
  | [], _ => Nat.le_refl _
  | r :: t, h => by
    have ih := len_pairs (ps := t) fun x hx => h x (List.mem_cons_of_mem _ hx)
    have h1 := h r List.mem_cons_self
    show t.length + 1 ≤ (pairs1 r ++ pairsOf t).length
    have h2 : (pairs1 r).length = r.2.2 := by
      unfold pairs1
      rw [List.length_map, List.length_range]
    rw [List.length_append, h2]
    omega
theorem tp_len : ∀ (k : Nat) (t : List Int), (tp k t).length ≤ t.length
  | _, [] => Nat.le_refl _
  | k, x :: r => by
    have ih := tp_len (k + 1) r
    unfold tp
    split
    · rw [List.length_cons, List.length_cons]
      omega
    · rw [List.length_cons]
      omega

/-! ### places along runs -/
def rsel (b : Nat) (r : Rn) : Nat := if b = 0 then r.1 else r.2.1
def psel (b : Nat) (q : Nat × Nat) : Nat := if b = 0 then q.1 else q.2
theorem mem_sel {b : Nat} (hb : b = 0 ∨ b = 1) {r : Rn} {q : Nat × Nat} : q ∈ pairs1 r ↔ rsel b r ≤ psel b q ∧ psel b q < rsel b r + r.2.2 ∧ psel (1 - b) q + rsel b r = psel b q + rsel (1 - b) r := by
  rw [mem_pairs1]
  rcases hb with rfl | rfl
  · show _ ↔ r.1 ≤ q.1 ∧ q.1 < r.1 + r.2.2 ∧ q.2 + r.1 = q.1 + r.2.1
    exact Iff.rfl
  · show _ ↔ r.2.1 ≤ q.2 ∧ q.2 < r.2.1 + r.2.2 ∧ q.1 + r.2.1 = q.2 + r.1
    constructor <;> intro h <;> refine ⟨?_, ?_, ?_⟩ <;> omega
theorem AscR.sel {rs : List Rn} (h : AscR rs) {b : Nat} (hb : b = 0 ∨ b = 1) {i j : Nat} {x y : Rn} (hi : rs[i]? = some x) (hj : rs[j]? = some y) (l : i < j) : rsel b x + x.2.2 ≤ rsel b y := by
  have := h.get hi hj l
  rcases hb with rfl | rfl
  · exact this.1
  · exact this.2
/-- the runs that begin at or before a place: k of them -/
def Cnt (b : Nat) (rs : List Rn) (p : Int) (k : Nat) : Prop := k ≤ rs.length ∧ (∀ i r, i < k → rs[i]? = some r → (rsel b r : Int) ≤ p) ∧ (∀ i r, k ≤ i → rs[i]? = some r → p < (rsel b r : Int))
/-- the item at a place of one text, in the other one -/
def IsAt (b : Nat) (ps : List (Nat × Nat)) (p : Nat) (x : Int) : Prop := (∃ q ∈ ps, psel b q = p ∧ x = (psel (1 - b) q : Int)) ∨ ((∀ q ∈ ps, psel b q ≠ p) ∧ x = -1)
theorem cnt_none {b : Nat} (hb : b = 0 ∨ b = 1) {rs : List Rn} {p : Nat} (h : Cnt b rs (p : Int) 0) : ∀ q ∈ pairsOf rs, psel b q ≠ p := fun q hq e => by
  obtain ⟨r, hr, h1⟩ := mem_pairsOf.mp hq
  obtain ⟨i, hi⟩ := List.getElem?_of_mem hr
  have h2 := h.2.2 i r (Nat.zero_le _) hi
  have h3 := (mem_sel hb).mp h1
  omega
theorem cnt_out {b : Nat} (hb : b = 0 ∨ b = 1) {rs : List Rn} (ha : AscR rs) {p j : Nat} {r : Rn} (h : Cnt b rs (p : Int) (j + 1)) (hr : rs[j]? = some r) (ho : rsel b r + r.2.2 ≤ p) : ∀ q ∈ pairsOf rs, psel b q ≠ p := fun q hq e => by
  obtain ⟨r', hr', h1⟩ := mem_pairsOf.mp hq
  obtain ⟨i, hi⟩ := List.getElem?_of_mem hr'
  have h3 := (mem_sel hb).mp h1
  rcases Nat.lt_trichotomy i j with l | l | l
  · have h4 := ha.sel hb hi hr l
    have h5 := h.2.1 j r (Nat.lt_succ_self _) hr
    omega
  · subst l
    rw [hr] at hi
    have := Option.some.inj hi
    subst this
    omega
  · have h2 := h.2.2 i r' l hi
    omega
theorem cnt_in {b : Nat} (hb : b = 0 ∨ b = 1) {rs : List Rn} {p j : Nat} {r : Rn} (h : Cnt b rs (p : Int) (j + 1)) (hr : rs[j]? = some r) (ho : p < rsel b r + r.2.2) : ∃ q ∈ pairsOf rs, psel b q = p ∧ (rsel (1 - b) r : Int) + (p : Int) - (rsel b r : Int) = (psel (1 - b) q : Int) := by
  have h5 := h.2.1 j r (Nat.lt_succ_self _) hr
  have mk : ∀ q : Nat × Nat, psel b q = p → psel (1 - b) q = rsel (1 - b) r + p - rsel b r → ∃ q ∈ pairsOf rs, psel b q = p ∧ (rsel (1 - b) r : Int) + (p : Int) - (rsel b r : Int) = (psel (1 - b) q : Int) := fun q e1 e2 =>
    ⟨q, mem_pairsOf.mpr ⟨r, List.mem_of_getElem? hr, (mem_sel hb).mpr ⟨by omega, by omega, by omega⟩⟩, e1, by omega⟩
  rcases hb with rfl | rfl
  · exact mk (p, rsel 1 r + p - rsel 0 r) rfl rfl
  · exact mk (rsel 0 r + p - rsel 1 r, p) rfl rfl
/-! ### runs as long as possible -/
def Sep : List Rn → Prop
  | [] => True
  | [_] => True
  | x :: y :: t => ¬ (y.1 + y.2.2 = x.1 ∧ y.2.1 + y.2.2 = x.2.1) ∧ Sep (y :: t)
theorem sep_join {acc : List Rn} {r : Rn} (h : Sep acc) : Sep (joinR acc r) := by
  cases acc with
  | nil => exact True.intro
  | cons x t =>
    obtain ⟨a, b, d⟩ := x
    obtain ⟨o, n, c⟩ := r
    show Sep (if a + d = o ∧ b + d = n then (a, b, d + c) :: t else (o, n, c) :: (a, b, d) :: t)
    by_cases e : a + d = o ∧ b + d = n
    · rw [if_pos e]
      cases t with
      | nil => exact True.intro
      | cons y t => exact ⟨h.1, h.2⟩
    · rw [if_neg e]
      exact ⟨e, h⟩
theorem sep_fold : ∀ (ps acc : List Rn), Sep acc → Sep (ps.foldl joinR acc)
  | [], _, h => h
  | r :: t, _, h => sep_fold t _ (sep_join h)
theorem sep_get : ∀ {acc : List Rn} {i : Nat} {x y : Rn}, Sep acc → acc[i]? = some x → acc[i + 1]? = some y → ¬ (y.1 + y.2.2 = x.1 ∧ y.2.1 + y.2.2 = x.2.1)
  | [], _, _, _, _, h, _ => by simp at h
  | [_], i, _, _, _, _, h2 => by simp at h2
  | a :: b :: t, 0, x, y, h, h1, h2 => by
    have e1 := Option.some.inj h1
    have e2 := Option.some.inj h2
    rw [← e1, ← e2]
    exact h.1
  | a :: b :: t, i + 1, x, y, h, h1, h2 => sep_get (acc := b :: t) (i := i) h.2 (by simpa using h1) (by simpa using h2)
theorem canon_sep {qs : List (Nat × Nat)} {i : Nat} {x y : Rn} (h1 : (canon qs)[i]? = some x) (h2 : (canon qs)[i + 1]? = some y) : ¬ (x.1 + x.2.2 = y.1 ∧ x.2.1 + x.2.2 = y.2.1) := by
  unfold canon joinedL at h1 h2
  have hs := sep_fold (qs.map one1) [] True.intro
  have l2 := (List.getElem?_eq_some_iff.mp h2).1
  rw [List.length_reverse] at l2
  rw [List.getElem?_reverse (by omega)] at h1 h2
  have e : ((qs.map one1).foldl joinR []).length - 1 - i = (((qs.map one1).foldl joinR []).length - 1 - (i + 1)) + 1 := by omega
  rw [e] at h1
  exact sep_get hs h2 h1
/-- behind a run nothing follows it -/
theorem canon_max {qs : List (Nat × Nat)} (hu : Up qs) {r : Rn} (hr : r ∈ canon qs) : (r.1 + r.2.2, r.2.1 + r.2.2) ∉ qs := fun hm => by
  have ha : AscR (canon qs) := asc_of (by rw [pairsOf_canon]; exact hu) (canon_pos _)
  rw [← pairsOf_canon qs] at hm
  obtain ⟨r', hr', h1⟩ := mem_pairsOf.mp hm
  obtain ⟨i, hi⟩ := List.getElem?_of_mem hr
  obtain ⟨j, hj⟩ := List.getElem?_of_mem hr'
  have h2 := mem_pairs1.mp h1
  simp only at h2
  have p1 := canon_pos _ r hr
  have p2 := canon_pos _ r' hr'
  rcases Nat.lt_trichotomy i j with l | l | l
  · have h3 := ha.get hi hj l
    by_cases e : j = i + 1
    · subst e
      exact canon_sep hi hj (by omega)
    · obtain ⟨m, hm⟩ : ∃ m, (canon qs)[i + 1]? = some m := ⟨_, List.getElem?_eq_getElem (by have := (List.getElem?_eq_some_iff.mp hj).1; omega)⟩
      have h4 := ha.get hi hm (Nat.lt_succ_self _)
      have h5 := ha.get hm hj (by omega)
      have p3 := canon_pos _ m (List.mem_of_getElem? hm)
      omega
  · subst l
    rw [hi] at hj
    have := Option.some.inj hj
    subst this
    omega
  · have h3 := ha.get hj hi l
    omega
/-! ### moves and stretches -/
def IsLeft (ps : List (Nat × Nat)) (p : Nat) (x : Int) : Prop := (∃ q ∈ ps, q.1 < p ∧ (∀ q' ∈ ps, q'.1 < p → q'.1 ≤ q.1) ∧ x = (q.2 : Int) + 1) ∨ ((∀ q ∈ ps, p ≤ q.1) ∧ x = 0)
def IsRight (ps : List (Nat × Nat)) (p : Nat) (x : Int) : Prop := ∃ q ∈ ps, p ≤ q.1 ∧ (∀ q' ∈ ps, p ≤ q'.1 → q.1 ≤ q'.1) ∧ x = (q.2 : Int)
/-- how far the items from a place on stay together -/
def IsEnd (ps : List (Nat × Nat)) (p e : Nat) : Prop := ((∀ q ∈ ps, q.1 ≠ p) ∧ e = p) ∨ ∃ n, (p, n) ∈ ps ∧ p < e ∧ (∀ j, p ≤ j → j < e → (j, n + (j - p)) ∈ ps) ∧ (e, n + (e - p)) ∉ ps
theorem left_none {rs : List Rn} {p : Nat} (h : Cnt 0 rs ((p : Int) - 1) 0) : IsLeft (pairsOf rs) p 0 := by
  refine .inr ⟨fun q hq => ?_, rfl⟩
  obtain ⟨r, hr, h1⟩ := mem_pairsOf.mp hq
  obtain ⟨i, hi⟩ := List.getElem?_of_mem hr
  have h2 := h.2.2 i r (Nat.zero_le _) hi
  have h3 := mem_pairs1.mp h1
  have h4 : (p : Int) - 1 < (r.1 : Int) := h2
  omega
theorem left_some {rs : List Rn} (ha : AscR rs) (hp : PosR rs) {p j : Nat} {r : Rn} (h : Cnt 0 rs ((p : Int) - 1) (j + 1)) (hr : rs[j]? = some r) : IsLeft (pairsOf rs) p ((r.2.1 : Int) + (if (r.2.2 : Int) < (p : Int) - (r.1 : Int) then (r.2.2 : Int) else (p : Int) - (r.1 : Int))) := by
  have h5 : (r.1 : Int) ≤ (p : Int) - 1 := h.2.1 j r (Nat.lt_succ_self _) hr
  have pr := hp r (List.mem_of_getElem? hr)
  have other : ∀ q' ∈ pairsOf rs, q'.1 < p → q'.1 < r.1 + r.2.2 := fun q' hq' l => by
    obtain ⟨r', hr', h1⟩ := mem_pairsOf.mp hq'
    obtain ⟨i, hi⟩ := List.getElem?_of_mem hr'
    have h3 := mem_pairs1.mp h1
    rcases Nat.lt_trichotomy i j with k | k | k
    · have h4 := (ha.get hi hr k).1
      omega
    · subst k
      rw [hr] at hi
      have := Option.some.inj hi
      subst this
      omega
    · have h2 : (p : Int) - 1 < (r'.1 : Int) := h.2.2 i r' k hi
      omega
  by_cases c : (r.2.2 : Int) < (p : Int) - (r.1 : Int)
  · rw [if_pos c]
    refine .inl ⟨(r.1 + r.2.2 - 1, r.2.1 + r.2.2 - 1), mem_pairsOf.mpr ⟨r, List.mem_of_getElem? hr, mem_pairs1.mpr ⟨?_, ?_, ?_⟩⟩, ?_, fun q' hq' l => ?_, ?_⟩
    · simp only; omega
    · simp only; omega
    · simp only; omega
    · simp only; omega
    · have := other q' hq' l
      simp only
      omega
    · simp only; omega
  · rw [if_neg c]
    refine .inl ⟨(p - 1, r.2.1 + (p - 1 - r.1)), mem_pairsOf.mpr ⟨r, List.mem_of_getElem? hr, mem_pairs1.mpr ⟨?_, ?_, ?_⟩⟩, ?_, fun q' hq' l => ?_, ?_⟩
    · simp only; omega
    · simp only; omega
    · simp only; omega
    · simp only; omega
    · simp only; omega
    · simp only; omega
theorem right_in {rs : List Rn} {p j : Nat} {r : Rn} (h : Cnt 0 rs (p : Int) (j + 1)) (hr : rs[j]? = some r) (ho : p < r.1 + r.2.2) : IsRight (pairsOf rs) p ((r.2.1 : Int) + (p : Int) - (r.1 : Int)) := by
  obtain ⟨q, hq, h1, h2⟩ := cnt_in (b := 0) (.inl rfl) h hr ho
  have h1 : q.1 = p := h1
  have h2 : (r.2.1 : Int) + (p : Int) - (r.1 : Int) = (q.2 : Int) := h2
  exact ⟨q, hq, by omega, fun q' _ l => by omega, h2⟩
theorem right_next {rs : List Rn} (ha : AscR rs) (hp : PosR rs) {p k : Nat} {r : Rn} (h : Cnt 0 rs (p : Int) k) (ho : ∀ j x, j + 1 = k → rs[j]? = some x → x.1 + x.2.2 ≤ p) (hr : rs[k]? = some r) : IsRight (pairsOf rs) p (r.2.1 : Int) := by
  have h5 : (p : Int) < (r.1 : Int) := h.2.2 k r (Nat.le_refl _) hr
  have pr := hp r (List.mem_of_getElem? hr)
  refine ⟨(r.1, r.2.1), mem_pairsOf.mpr ⟨r, List.mem_of_getElem? hr, mem_pairs1.mpr ⟨?_, ?_, ?_⟩⟩, ?_, fun q' hq' l => ?_, rfl⟩
  · simp only; omega
  · simp only; omega
  · simp only; omega
  · simp only; omega
  · obtain ⟨r', hr', h1⟩ := mem_pairsOf.mp hq'
    obtain ⟨i, hi⟩ := List.getElem?_of_mem hr'
    have h3 := mem_pairs1.mp h1
    simp only
    rcases Nat.lt_trichotomy i k with c | c | c
    · exfalso
      obtain ⟨j, rfl⟩ : ∃ j, k = j + 1 := ⟨k - 1, by omega⟩
      obtain ⟨x, hx⟩ : ∃ x, rs[j]? = some x := ⟨_, List.getElem?_eq_getElem (by have := h.1; omega)⟩
      have h6 := ho j x rfl hx
      rcases Nat.lt_or_ge i j with d | d
      · have h4 := (ha.get hi hx d).1
        have px := hp x (List.mem_of_getElem? hx)
        omega
      · have e : i = j := by omega
        subst e
        rw [hx] at hi
        have := Option.some.inj hi
        subst this
        omega
    · subst c
      rw [hr] at hi
      have := Option.some.inj hi
      subst this
      omega
    · have h4 := (ha.get hr hi c).1
      omega
theorem end_in {qs : List (Nat × Nat)} (hu : Up qs) {p j : Nat} {r : Rn} (h : Cnt 0 (canon qs) (p : Int) (j + 1)) (hr : (canon qs)[j]? = some r) (ho : p < r.1 + r.2.2) : IsEnd qs p (r.1 + r.2.2) := by
  have h5 : (r.1 : Int) ≤ (p : Int) := h.2.1 j r (Nat.lt_succ_self _) hr
  have hm := List.mem_of_getElem? hr
  have inn : ∀ i, p ≤ i → i < r.1 + r.2.2 → (i, r.2.1 + (p - r.1) + (i - p)) ∈ qs := fun i a b => by
    rw [← pairsOf_canon qs]
    refine mem_pairsOf.mpr ⟨r, hm, mem_pairs1.mpr ⟨?_, ?_, ?_⟩⟩ <;> simp only <;> omega
  refine .inr ⟨r.2.1 + (p - r.1), ?_, ho, inn, ?_⟩
  · have := inn p (Nat.le_refl _) ho
    rw [Nat.sub_self, Nat.add_zero] at this
    exact this
  · have := canon_max hu hm
    have e : r.2.1 + (p - r.1) + (r.1 + r.2.2 - p) = r.2.1 + r.2.2 := by omega
    rw [e]
    exact this
theorem end_uni {qs : List (Nat × Nat)} (hu : Up qs) {p e e' : Nat} (h : IsEnd qs p e) (h' : IsEnd qs p e') : e = e' := by
  have uniq : ∀ {i n n' : Nat}, (i, n) ∈ qs → (i, n') ∈ qs → n = n' := fun {i n n'} a b => by
    have := hu.both _ a _ b
    simp only [Prod.mk.injEq] at this
    omega
  rcases h with ⟨h1, h2⟩ | ⟨n, h1, h2, h3, h4⟩
  · rcases h' with ⟨g1, g2⟩ | ⟨n', g1, _⟩
    · omega
    · exact absurd rfl (h1 _ g1)
  · rcases h' with ⟨g1, _⟩ | ⟨n', g1, g2, g3, g4⟩
    · exact absurd rfl (g1 _ h1)
    · have en := uniq h1 g1
      subst en
      rcases Nat.lt_trichotomy e e' with c | c | c
      · exact absurd (g3 e (by omega) c) h4
      · exact c
      · exact absurd (h3 e' (by omega) c) g4

/-! ### the law's rows -/
theorem isAt_uni {b : Nat} (hb : b = 0 ∨ b = 1) {ps : List (Nat × Nat)} (hu : Up ps) {p : Nat} {x y : Int} (h : IsAt b ps p x) (h' : IsAt b ps p y) : x = y := by
  rcases h with ⟨q, h1, h2, h3⟩ | ⟨h1, h2⟩
  · rcases h' with ⟨q', g1, g2, g3⟩ | ⟨g1, _⟩
    · have := hu.both _ h1 _ g1
      rcases hb with rfl | rfl
      · have h2 : q.1 = p := h2
        have g2 : q'.1 = p := g2
        have h3 : x = (q.2 : Int) := h3
        have g3 : y = (q'.2 : Int) := g3
        rcases this with e | e | e
        · rw [h3, g3, e]
        · omega
        · omega
      · have h2 : q.2 = p := h2
        have g2 : q'.2 = p := g2
        have h3 : x = (q.1 : Int) := h3
        have g3 : y = (q'.1 : Int) := g3
        rcases this with e | e | e
        · rw [h3, g3, e]
        · omega
        · omega
    · exact absurd h2 (g1 q h1)
  · rcases h' with ⟨q', g1, g2, _⟩ | ⟨_, g2⟩
    · exact absurd g2 (h1 q' g1)
    · omega
theorem isLeft_uni {ps : List (Nat × Nat)} (hu : Up ps) {p : Nat} {x y : Int} (h : IsLeft ps p x) (h' : IsLeft ps p y) : x = y := by
  rcases h with ⟨q, h1, h2, h3, h4⟩ | ⟨h1, h2⟩
  · rcases h' with ⟨q', g1, g2, g3, g4⟩ | ⟨g1, _⟩
    · have a := h3 q' g1 g2
      have b := g3 q h1 h2
      rcases hu.both _ h1 _ g1 with e | e | e
      · rw [h4, g4, e]
      · omega
      · omega
    · have := g1 q h1
      omega
  · rcases h' with ⟨q', g1, g2, _⟩ | ⟨_, g2⟩
    · have := h1 q' g1
      omega
    · omega
theorem isRight_uni {ps : List (Nat × Nat)} (hu : Up ps) {p : Nat} {x y : Int} (h : IsRight ps p x) (h' : IsRight ps p y) : x = y := by
  obtain ⟨q, h1, h2, h3, h4⟩ := h
  obtain ⟨q', g1, g2, g3, g4⟩ := h'
  have a := h3 q' g1 g2
  have b := g3 q h1 h2
  rcases hu.both _ h1 _ g1 with e | e | e
  · rw [h4, g4, e]
  · omega
  · omega
/-- one row entry for each place -/
def RowOf (size : Nat) (l : List Int) (R : Nat → Int → Prop) : Prop := l.length = size + 1 ∧ ∀ k x, l[k]? = some x → R k x
def AheadL (ps : List (Nat × Nat)) (size : Nat) (l : List Int) : Prop := RowOf size l (IsAt 0 ps)
def LeftL (ps : List (Nat × Nat)) (size : Nat) (l : List Int) : Prop := RowOf size l (IsLeft ps)
def RightL (ps : List (Nat × Nat)) (size : Nat) (l : List Int) : Prop := RowOf size l (IsRight ps)
def EndsL (ps : List (Nat × Nat)) (size : Nat) (l : List Int) : Prop := RowOf size l fun k x => ∃ m : Nat, x = (m : Int) ∧ IsEnd ps k m
theorem ahead_start (size : Nat) : AheadL [] size (List.replicate (size + 1) (-1)) := by
  refine ⟨List.length_replicate, fun k x h => .inr ⟨fun q hq => absurd hq List.not_mem_nil, ?_⟩⟩
  rw [List.getElem?_replicate] at h
  split at h
  · exact (Option.some.inj h).symm
  · cases h
theorem ahead_step {ps : List (Nat × Nat)} {size n i : Nat} {l : List Int} (h : AheadL ps size l) : AheadL (ps ++ [(n, i)]) size (l.set n (i : Int)) := by
  refine ⟨by rw [List.length_set]; exact h.1, fun k x hx => ?_⟩
  rw [List.getElem?_set] at hx
  by_cases e : n = k
  · rw [if_pos e] at hx
    split at hx
    · refine .inl ⟨(n, i), List.mem_append_right _ List.mem_cons_self, e, ?_⟩
      have := Option.some.inj hx
      exact this.symm
    · cases hx
  · rw [if_neg e] at hx
    rcases h.2 k x hx with ⟨q, h1, h2, h3⟩ | ⟨h1, h2⟩
    · exact .inl ⟨q, List.mem_append_left _ h1, h2, h3⟩
    · refine .inr ⟨fun q hq => ?_, h2⟩
      rcases List.mem_append.mp hq with h4 | h4
      · exact h1 q h4
      · rw [List.mem_singleton.mp h4]
        exact e
theorem left_stay {ps : List (Nat × Nat)} {k : Nat} {x : Int} (h : IsLeft ps k x) (hn : ∀ q ∈ ps, psel 0 q ≠ k) : IsLeft ps (k + 1) x := by
  rcases h with ⟨q, h1, h2, h3, h4⟩ | ⟨h1, h2⟩
  · refine .inl ⟨q, h1, by omega, fun q' hq' l => h3 q' hq' ?_, h4⟩
    have : q'.1 ≠ k := hn q' hq'
    omega
  · refine .inr ⟨fun q hq => ?_, h2⟩
    have := h1 q hq
    have : q.1 ≠ k := hn q hq
    omega
theorem left_move {ps : List (Nat × Nat)} {q : Nat × Nat} (hq : q ∈ ps) : IsLeft ps (q.1 + 1) ((q.2 : Int) + 1) := .inl ⟨q, hq, by omega, fun q' _ l => by omega, rfl⟩
theorem right_here {ps : List (Nat × Nat)} {q : Nat × Nat} (hq : q ∈ ps) : IsRight ps q.1 (q.2 : Int) := ⟨q, hq, Nat.le_refl _, fun q' _ l => l, rfl⟩
theorem right_stay {ps : List (Nat × Nat)} {k : Nat} {x : Int} (h : IsRight ps (k + 1) x) (hn : ∀ q ∈ ps, psel 0 q ≠ k) : IsRight ps k x := by
  obtain ⟨q, h1, h2, h3, h4⟩ := h
  refine ⟨q, h1, by omega, fun q' hq' l => h3 q' hq' ?_, h4⟩
  have : q'.1 ≠ k := hn q' hq'
  omega
theorem end_none {ps : List (Nat × Nat)} {k : Nat} (h : ∀ q ∈ ps, psel 0 q ≠ k) : IsEnd ps k k := .inl ⟨h, rfl⟩
theorem end_one {ps : List (Nat × Nat)} {k n : Nat} (h : (k, n) ∈ ps) (h2 : (k + 1, n + 1) ∉ ps) : IsEnd ps k (k + 1) := by
  refine .inr ⟨n, h, Nat.lt_succ_self _, fun j a b => ?_, ?_⟩
  · have : j = k := by omega
    subst this
    rw [Nat.sub_self]
    exact h
  · have : k + 1 - k = 1 := by omega
    rw [this]
    exact h2
theorem end_more {ps : List (Nat × Nat)} (hu : Up ps) {k n e : Nat} (h : (k, n) ∈ ps) (h2 : (k + 1, n + 1) ∈ ps) (h3 : IsEnd ps (k + 1) e) : IsEnd ps k e := by
  rcases h3 with ⟨g1, _⟩ | ⟨n', g1, g2, g3, g4⟩
  · exact absurd rfl (g1 _ h2)
  · have en : n' = n + 1 := by
      have := hu.both _ g1 _ h2
      simp only [Prod.mk.injEq] at this
      omega
    subst en
    refine .inr ⟨n, h, by omega, fun j a b => ?_, ?_⟩
    · by_cases c : j = k
      · subst c
        rw [Nat.sub_self]
        exact h
      · have := g3 j (by omega) b
        have e1 : n + 1 + (j - (k + 1)) = n + (j - k) := by omega
        rw [e1] at this
        exact this
    · have e1 : n + 1 + (e - (k + 1)) = n + (e - k) := by omega
      rw [e1] at g4
      exact g4
/-- a row of tags has no numbers below -1 -/
def MinOne (t : List Int) : Prop := ∀ x ∈ t, x < 0 → x = -1
theorem tag_old {t : List Int} (h : MinOne t) {k : Nat} {x : Int} (hx : t[k]? = some x) : IsAt 1 (tp 0 t) k x := by
  by_cases c : 0 ≤ x
  · refine .inl ⟨(x.toNat, k), mem_tp0.mpr ?_, rfl, ?_⟩
    · show t[k]? = some ((x.toNat : Nat) : Int)
      rw [hx, Int.toNat_of_nonneg c]
    · show x = ((x.toNat : Nat) : Int)
      omega
  · refine .inr ⟨fun q hq e => ?_, h x (List.mem_of_getElem? hx) (by omega)⟩
    have e : q.2 = k := e
    have := mem_tp0.mp hq
    rw [e, hx] at this
    have := Option.some.inj this
    omega
theorem minOne_app {t u : List Int} (h : MinOne t) (g : MinOne u) : MinOne (t ++ u) := fun x hx l => (List.mem_append.mp hx).elim (fun z => h x z l) fun z => g x z l
theorem minOne_none (m : Nat) : MinOne (List.replicate m (-1)) := fun x hx _ => (List.mem_replicate.mp hx).2
theorem minOne_stay (b c : Nat) : MinOne (stay b c) := fun x hx l => by
  unfold stay at hx
  obtain ⟨i, _, rfl⟩ := List.mem_map.mp hx
  omega

def okNum (v : V) : Prop := ∃ n : Int, v = .int n ∧ 0 ≤ n ∧ n ≤ 100000

/-! ### the error's making -/
theorem log_small {i : Int} (h0 : 0 ≤ i) (h : i ≤ 1000000) : i.natAbs.log2 < 1920 := by
  have h1 : i.natAbs ≤ 1000000 := by omega
  have h2 : i.natAbs < 2 ^ 1920 := Nat.lt_of_le_of_lt h1 (by decide +kernel)
  by_cases hz : i.natAbs = 0
  · rw [hz]
    decide +kernel
  · exact (Nat.log2_lt hz).mpr h2
theorem ok_EditError_init (T : Txt K mg) : FnOk P w K mg base CX0 2 T.a_EditError_init T.fd_EditError_init ["self", "index"] (spInit1 "index" T.C_EditError okNum) := by
  refine T.F_EditError_init.ok sc_EditError_init (fun vs H Q E h => ?_) (fun cdv A outer s H vs Q E hr h => ?_)
  · obtain ⟨a, v, rfl, _⟩ := h
    rfl
  · obtain ⟨a, v, rfl, ⟨n, rfl, n0, n1⟩, ha, q⟩ := h
    refine ⟨_, (pss_cons (ps_expr (pe_baseInit (by rfl) T.G_MendedError T.B_MendedError (pa_cons (pv 0) (pa_cons (pe_joined (.cons pe_str (.cons (pe_fmt (pv 1)) (.cons pe_str .nil)))) pa_nil))))
      (pss_one (ps_ost (pv 0) (pv 1)))), ?_⟩
    have big : sizeLine = 2 ^ 24 := rfl
    have ln := PyProof.Rows.int_text_len_1921 (log_small n0 (by omega))
    refine ⟨_, rfl, _, rfl, ?_, _, rfl, .inr ⟨n, rfl, log_small n0 (by omega), _, rfl, ?_, _, rfl, ?_, ?_⟩⟩
    · rw [strLen_append, big]
      show 0 + 9 ≤ _
      omega
    · rw [strLen_append, strLen_append, big]
      show 0 + 9 + (Str.ofString (toString n)).length ≤ _
      omega
    · rw [strLen_append, strLen_append, strLen_append, big]
      show 0 + 9 + (Str.ofString (toString n)).length + 13 ≤ _
      omega
    refine ⟨a, _, _, rfl, by show 1 ≤ 1000; decide, T.E_EditError.oex, ha, ?_⟩
    refine ⟨_, rfl, _, rfl, a, _, rfl, T.E_EditError.oex, T.n_EditError_index, .inl ⟨ha, fun dx nd hne => ?_⟩⟩
    exact q dx nd hne

/-! ### the first edit that does not fit -/
def unfitV (n : Nat) (es : List Ed) : V := match unfit n es with
  | some k => .int (k : Int)
  | none => .non
def spFU : Sp := fun vs H Q _ => ∃ (n : Nat) (l : Addr) (es : List Ed), vs = [.int (n : Int), .ref l] ∧ EdsAt H l es ∧ Sized es ∧ es.length ≤ 2000 ∧ ∀ H', Same H H' → Q (unfitV n es) H'
theorem ok_first_misfit (T : Txt K mg) : FnOk P w K mg base CX0 2 T.a_first_misfit T.fd_first_misfit ["length", "edits"] spFU := by
  refine T.F_first_misfit.ok sc_first_misfit (fun vs H Q E h => ?_) (fun cdv A outer s H vs Q E hr h => ?_)
  · obtain ⟨n, l, es, rfl, _⟩ := h
    rfl
  · obtain ⟨n, l, es, rfl, hE, hS, hn, q⟩ := h
    obtain ⟨us, hus, hue⟩ := id hE
    have lu := paired_len hue
    refine ⟨_, (pss_cons (ps_for PassesOwn.never rfl (pi_enum (by rfl) T.m_enumerate (pa_cons (pv 1) pa_nil)) (pg_tup (by rfl) (pgs_cons (pg_name (i := 2) sc_first_misfit.nd rfl (.inl rfl)) (pgs_cons (pg_tup (by rfl) (pgs_cons (pg_name (i := 3) sc_first_misfit.nd rfl (.inl rfl)) (pgs_cons (pg_name (i := 4) sc_first_misfit.nd rfl (.inl rfl)) (pgs_cons (pg_name (i := 5) sc_first_misfit.nd rfl (.inl rfl)) pgs_nil)))) pgs_nil))) (pss_cons (ps_if (PW.pt (pw_or (pt_cmpR op_lt (pv 3) pe_int (nomark _)) (pw_or (pt_cmpR op_lt (pv 4) (pv 3) (nomark _)) (pw_or1 (pt_cmpR op_gt (pv 4) (pv 0) (nomark _)))))) (pss_one (ps_ret (pv 2))) pss_nil)
      (pss_one (ps_set (i := 0) sc_first_misfit.nd rfl (.inl rfl) (pe_op op_sub (pe_op op_add (pv 0) (pe_callB call_len_str (by rfl) T.m_len PySem.boot_len (pa_cons (pv 5) pa_nil))) (pe_op op_sub (pv 4) (pv 3)))))))
      (pss_one (ps_ret pe_non))), ?_⟩
    refine ⟨_, rfl, l, us, rfl, SqL.of hus, ?_⟩
    refine for_enumS (K := K) (a := l) (xs := us) (fun i σ H' => Same H H' ∧ fitsL n (es.take i) ∧ ∃ y3 y4 y5 y6 : Option V, σ = [some (.int ((sizeL n (es.take i) : Nat) : Int)), some (.ref l), y3, y4, y5, y6])
      ⟨Same.refl _, True.intro, none, none, none, none, rfl⟩ (fun i σ H' _ ⟨s, _⟩ => SqL.of (s _ _ hus)) ?_ ?_
    · rintro i x t σ H1 hx ⟨sm, hf, y3, y4, y5, y6, rfl⟩ nt
      obtain ⟨e, he⟩ : ∃ e, es[i]? = some e := ⟨_, List.getElem?_eq_getElem (by rw [← lu]; exact (List.getElem?_eq_some_iff.mp hx).1)⟩
      obtain ⟨x', hx', te, rfl, hte⟩ := paired_get hue he
      rw [hx] at hx'
      have h1 := Option.some.inj hx'
      subst h1
      have len2 := (hS e (List.mem_of_getElem? he)).1
      have l2 : e.2.2.length ≤ 4000000 := by rw [len_cs]; exact len2
      have s1 := sm.trans (same_upd (o := .tup [.int ((i : Nat) : Int), .ref te]) nt)
      refine ⟨t, _, rfl, SqT.of upd_same, rfl, _, _, rfl, _, _, rfl, te, _, rfl, SqT.of (s1 _ _ hte), rfl, _, _, rfl, _, _, rfl, _, _, rfl, rfl, rfl, ?_⟩
      have bad : ¬ fit1 (sizeL n (es.take i)) e → Q (.int (i : Int)) (upd H1 t (.tup [.int ((i : Nat) : Int), .ref te])) := fun h => by
        have h1 := unfit_here hf he h
        have h2 : unfitV n es = .int (i : Int) := by
          unfold unfitV
          rw [h1]
        have h3 := q _ s1
        rw [h2] at h3
        exact h3
      refine ⟨_, rfl, e.1, 0, rfl, rfl, _, rfl, ite2 (fun c => ?_) (fun c => ?_)⟩
      · refine iteT ⟨_, rfl, bad fun f => ?_⟩
        have := of_decide_eq_true c
        have := f.1
        omega
      · refine ⟨_, rfl, _, rfl, e.2.1, e.1, rfl, rfl, _, rfl, ite2 (fun c2 => ?_) (fun c2 => ?_)⟩
        · refine iteT ⟨_, rfl, bad fun f => ?_⟩
          have := of_decide_eq_true c2
          have := f.2.1
          omega
        · refine ⟨_, rfl, _, rfl, e.2.1, _, rfl, rfl, _, rfl, ite2 (fun c3 => ?_) (fun c3 => ?_)⟩
          · refine ⟨_, rfl, bad fun f => ?_⟩
            have := of_decide_eq_true c3
            have := f.2.2
            omega
          · have f1 : fit1 (sizeL n (es.take i)) e := by
              have g1 : ¬ e.1 < 0 := fun h => c (decide_eq_true h)
              have g2 : ¬ e.2.1 < e.1 := fun h => c2 (decide_eq_true h)
              have g3 : ¬ ((sizeL n (es.take i) : Nat) : Int) < e.2.1 := fun h => c3 (decide_eq_true h)
              refine And.intro ?_ (And.intro ?_ ?_) <;> omega
            refine ⟨_, rfl, _, rfl, _, rfl, szM (by omega), _, _, rfl, rfl, _, rfl, _, rfl, _, _, rfl, rfl, _, _, rfl, rfl, ?_⟩
            have e3 : ((sizeL n (es.take i) : Nat) : Int) + (e.2.2.length : Int) - (e.2.1 - e.1) = ((sizeL n (es.take (i + 1)) : Nat) : Int) := by
              obtain ⟨a1, a2, a3⟩ := f1
              rw [take_more he, sizeL_snoc]
              have v4 : size1 (sizeL n (es.take i)) e = sizeL n (es.take i) - (e.2.1.toNat - e.1.toNat) + (cs e.2.2).length := rfl
              have v5 := len_cs e.2.2
              omega
            refine ⟨s1, ?_, some (.int ((i : Nat) : Int)), some (.int e.1), some (.int e.2.1), some (.str e.2.2), ?_⟩
            · rw [take_more he]
              exact (fitsL_snoc _ _ _).mpr ⟨hf, f1⟩
            · rw [← e3]
              rfl
    · rintro σ H1 ⟨sm, hf, y3, y4, y5, y6, rfl⟩
      rw [lu, List.take_length] at hf
      have h1 : unfitV n es = .non := by
        unfold unfitV
        rw [unfit_none.mpr hf]
      rw [h1] at q
      exact q _ sm
/-! ### check -/
def spCheck (C : Addr) : Sp := fun vs H Q E => ∃ (n : Nat) (l : Addr) (es : List Ed), vs = [.int (n : Int), .ref l] ∧ EdsAt H l es ∧ Sized es ∧ es.length ≤ 2000 ∧ (fitsL n es → ∀ H', Same H H' → Q .non H') ∧ (∀ k, unfit n es = some k → ErrAt C H E k)
theorem ok_check_fits (T : Txt K mg) : FnOk P w K mg base (L2.CX P w) 4 T.a_check_fits T.fd_check_fits ["length", "edits"] (spCheck T.C_EditError) := by
  have G_first_misfit : FnOk P w K mg base CX0 2 T.a_first_misfit T.fd_first_misfit ["length", "edits"] spFU := ok_first_misfit T
  have G_EditError_init : FnOk P w K mg base CX0 2 T.a_EditError_init T.fd_EditError_init ["self", "index"] (spInit1 "index" T.C_EditError okNum) := ok_EditError_init T
  refine T.F_check_fits.okX sc_check_fits (fun vs H Q E h => ?_) (fun cdv A outer s H vs Q E hr h => ?_)
  · obtain ⟨n, l, es, rfl, _⟩ := h
    rfl
  · have hr_first_misfit : Room 2 _ := hr.mono (by decide)
    have hr_EditError_init : Room 3 _ := hr
    obtain ⟨n, l, es, rfl, hE, hS, hn, q1, q2⟩ := h
    refine ⟨_, (pss_cons (ps_set (i := 2) sc_check_fits.nd rfl (.inl rfl) (pe_call G_first_misfit hr_first_misfit (by rfl) T.g_first_misfit T.F_first_misfit.kp T.b_first_misfit .nil pass0 (pa_cons (pv 0) (pa_cons (pv 1) pa_nil))))
      (pss_one (ps_if (pt_cmpR op_notN (pv 2) pe_non (nomark _)) (pss_one (ps_raise rfl (takes_of rfl rfl rfl rfl) (pmk_oex T.E_EditError.oex T.E_EditError.iC T.E_EditError.tI G_EditError_init hr_EditError_init T.b_EditError_init .nil pass0 (by rfl) T.E_EditError.g (pa_cons (pv 2) pa_nil)))) pss_nil))), ?_⟩
    refine ⟨_, rfl, _, rfl, n, l, es, rfl, hE, hS, hn, fun H1 s1 => ?_⟩
    cases hun : unfit n es with
    | none =>
      have e1 : unfitV n es = .non := by unfold unfitV; rw [hun]
      rw [e1]
      refine ⟨_, rfl, rfl, _, rfl, iteF ?_⟩
      exact q1 (unfit_none.mp hun) _ s1
    | some k =>
      obtain ⟨_, hkl⟩ := unfit_take hun
      have e1 : unfitV n es = .int (k : Int) := by unfold unfitV; rw [hun]
      rw [e1]
      refine ⟨_, rfl, rfl, _, rfl, iteT ?_⟩
      refine mk1 (ta := tCons (tVar 2) tNil) (f := "index") (ok := okNum) ?_ ?_
      · refine ⟨_, rfl, .int (k : Int), rfl, ⟨_, rfl, by omega, by omega⟩, fun d H' sm nd hd => ?_⟩
        have nd0 : H d = none := by
          cases e : H d with
          | none => rfl
          | some o =>
            rw [s1 _ _ e] at nd
            cases nd
        exact q2 k hun d H' (s1.trans sm) nd0 hd
      · rintro Q1 Q2 h ⟨x, e1, q⟩
        exact ⟨x, e1, h _ _ q⟩

/-! ### apply -/
theorem ok_apply (T : Txt K mg) : FnOk P w K mg base (L2.CX P w) 5 T.a_apply T.fd_apply ["text", "edits"] (spApply T.C_EditError) := by
  have G_check_fits : FnOk P w K mg base (L2.CX P w) 4 T.a_check_fits T.fd_check_fits ["length", "edits"] (spCheck T.C_EditError) := ok_check_fits T
  refine T.F_apply.okX sc_apply (fun vs H Q E h => ?_) (fun cdv A outer s H vs Q E hr h => ?_)
  · obtain ⟨z, l, es, rfl, _⟩ := h
    rfl
  · have hr_check_fits : Room 4 _ := hr.mono (by decide)
    obtain ⟨z, l, es, rfl, hE, hS, hn, hz, ho, hl, q1, q2⟩ := h
    have lz := len_cs z
    refine ⟨_, (pss_cons (ps_expr (pe_call G_check_fits hr_check_fits (by rfl) T.g_check_fits T.F_check_fits.kp T.b_check_fits .nil (passes_call (takes_of rfl rfl rfl rfl) (fun _ _ _ _ z => z)) (pa_cons (pe_callB call_len_str (by rfl) T.m_len PySem.boot_len (pa_cons (pv 0) pa_nil)) (pa_cons (pv 1) pa_nil))))
      (pss_cons (ps_for (passes_of rfl) rfl (pi_list (pv 1)) (pg_tup (by rfl) (pgs_cons (pg_name (i := 2) sc_apply.nd rfl (.inl rfl)) (pgs_cons (pg_name (i := 3) sc_apply.nd rfl (.inl rfl)) (pgs_cons (pg_name (i := 4) sc_apply.nd rfl (.inl rfl)) pgs_nil)))) (pss_one (ps_set (i := 0) sc_apply.nd rfl (.inl rfl) (pe_op op_add_str (pe_op op_add_str (pe_slice sl_str (pv 0) po_none (po_some (pv 2))) (pv 4)) (pe_slice sl_str (pv 0) (po_some (pv 3)) po_none)))))
      (pss_one (ps_ret (pv 0))))), ?_⟩
    refine ⟨_, rfl, _, rfl, szM (by omega), _, rfl, z.length, l, es, rfl, hE, hS, hn, fun hf H1 s1 => ?_, fun k hk => ?_⟩
    · rw [lz] at hf
      obtain ⟨us, hus, hue⟩ := id hE
      have lu := paired_len hue
      refine ⟨_, rfl, l, rfl, ⟨_, SqL.of (s1 _ _ hus)⟩, ?_⟩
      refine for_list (K := K) (a := l) (xs := us) (fun i σ H' => H' = H1 ∧ ∃ (now : Str) (y2 y3 y4 : Option V), σ = [some (.str now), some (.ref l), y2, y3, y4] ∧ cs now = appl (cs z) (es.take i))
        ⟨rfl, z, none, none, none, rfl, rfl⟩ (fun i σ H' _ ⟨e, _⟩ => by rw [e]; exact SqL.of (s1 _ _ hus)) ?_ ?_
      · rintro i x σ H2 hx ⟨rfl, now, y2, y3, y4, rfl, hnow⟩
        obtain ⟨e, he⟩ : ∃ e, es[i]? = some e := ⟨_, List.getElem?_eq_getElem (by rw [← lu]; exact (List.getElem?_eq_some_iff.mp hx).1)⟩
        obtain ⟨x', hx', t, rfl, ht0⟩ := paired_get hue he
        rw [hx] at hx'
        have h1 := Option.some.inj hx'
        subst h1
        have ht := s1 _ _ ht0
        have hf1 := fitsL_get hf he
        rw [← appl_len (fitsL_take i hf), ← hnow] at hf1
        obtain ⟨a, b, hab, h2, h3⟩ := fit_nat hf1
        have lim1 := hl (i + 1) (fitsL_take _ hf)
        rw [take_more he, appl_snoc, ← hnow] at lim1
        rw [hab] at ht lim1
        have ht : H2 t = some (.tup [.int (a : Int), .int (b : Int), .str e.2.2]) := ht
        have lim2 : (spliceL (cs now) a b (cs e.2.2)).length ≤ 4000000 := lim1
        have lim0 := hl i (fitsL_take _ hf)
        rw [← hnow] at lim0
        have sp := spl_pre (cs now) a b (cs e.2.2)
        have l1 : (cutS now none (some (a : Int))).length = ((cs now).take a).length := by rw [len_cs, cut_pre]
        refine ⟨t, _, rfl, SqT.of ht, rfl, _, _, rfl, _, _, rfl, _, _, rfl, rfl, ?_⟩
        refine ⟨_, rfl, _, rfl, _, rfl, now, rfl, szM (by rw [len_cs]; exact lim0), _, rfl, _, _, rfl, rfl, szM (by rw [l1, len_cs]; omega), ?_⟩
        refine ⟨_, rfl, _, rfl, _, rfl, now, rfl, szM (by rw [len_cs]; exact lim0), _, _, rfl, rfl, ?_, rfl, _, _, _, _, rfl, ?_⟩
        · have h9 : (cutS now none (some (a : Int)) ++ e.2.2 ++ cutS now (some (b : Int)) none).length = (cutS now none (some (a : Int)) ++ e.2.2).length + (cutS now (some (b : Int)) none).length := by
            rw [len_cs, len_cs, len_cs, cs_app, List.length_append]
          rw [← h9, len_cs, cs_splice]
          exact szM lim2
        · rw [cs_splice, take_more he, appl_snoc, ← hnow]
          rw [hab]
          rfl
      · rintro σ H2 ⟨rfl, now, y2, y3, y4, rfl, hnow⟩
        rw [lu, List.take_length] at hnow
        refine ⟨_, rfl, ?_⟩
        rw [mkS_eq hnow]
        exact q1 hf _ s1
    · rw [lz] at hk
      exact q2 k hk

def fitsB (n : Nat) (es : List Ed) : Bool := (unfit n es).isNone
def spFits : Sp := fun vs H Q _ => ∃ (n : Nat) (l : Addr) (es : List Ed), vs = [.int (n : Int), .ref l] ∧ EdsAt H l es ∧ Sized es ∧ es.length ≤ 2000 ∧ n ≤ 4000000 ∧ ∀ H', Same H H' → Q (.bl (fitsB n es)) H'

/-! ### fits -/
theorem ok_fits (T : Txt K mg) : FnOk P w K mg base CX0 8 T.a_fits T.fd_fits ["length", "edits"] spFits := by
  have G_first_misfit : FnOk P w K mg base CX0 2 T.a_first_misfit T.fd_first_misfit ["length", "edits"] spFU := ok_first_misfit T
  refine T.F_fits.ok sc_fits (fun vs H Q E h => ?_) (fun cdv A outer s H vs Q E hr h => ?_)
  · obtain ⟨n, l, es, rfl, _⟩ := h
    rfl
  · have hr_first_misfit : Room 2 _ := hr.mono (by decide)
    obtain ⟨n, l, es, rfl, hE, hS, hn, hz, q⟩ := h
    refine ⟨_, (pss_one (ps_ret (pe_cmpR op_isN (pe_call G_first_misfit hr_first_misfit (by rfl) T.g_first_misfit T.F_first_misfit.kp T.b_first_misfit .nil pass0 (pa_cons (pv 0) (pa_cons (pv 1) pa_nil))) pe_non (nomark _)))), ?_⟩
    refine ⟨_, rfl, _, rfl, n, l, es, rfl, hE, hS, hn, fun H1 s1 => ?_⟩
    refine ⟨rfl, ?_⟩
    have h1 := q _ s1
    have h2 : decide (unfitV n es = .non) = fitsB n es := by
      unfold unfitV fitsB
      cases unfit n es with
      | none => rfl
      | some k => rfl
    rw [h2]
    exact h1

/-! ### inverse -/
theorem paired_rev {α β : Type} {F : α → β → Prop} : ∀ {xs : List α} {ys : List β}, Paired F xs ys → Paired F xs.reverse ys.reverse
  | _, _, .nil => .nil
  | _, _, .cons h r => by
    rw [List.reverse_cons, List.reverse_cons]
    exact paired_app (paired_rev r) (.cons h .nil)
theorem ok_inverse (T : Txt K mg) : FnOk P w K mg base (L2.CX P w) 8 T.a_inverse T.fd_inverse ["text", "edits"] (spInverse T.C_EditError) := by
  have G_check_fits : FnOk P w K mg base (L2.CX P w) 4 T.a_check_fits T.fd_check_fits ["length", "edits"] (spCheck T.C_EditError) := ok_check_fits T
  refine T.F_inverse.okX sc_inverse (fun vs H Q E h => ?_) (fun cdv A outer s H vs Q E hr h => ?_)
  · obtain ⟨z, l, es, rfl, _⟩ := h
    rfl
  · have hr_check_fits : Room 4 _ := hr.mono (by decide)
    obtain ⟨z, l, es, rfl, hE, hS, hn, hz, ho, hl, q1, q2⟩ := h
    have lz := len_cs z
    refine ⟨_, (pss_cons (ps_expr (pe_call G_check_fits hr_check_fits (by rfl) T.g_check_fits T.F_check_fits.kp T.b_check_fits .nil (passes_call (takes_of rfl rfl rfl rfl) (fun _ _ _ _ z => z)) (pa_cons (pe_callB call_len_str (by rfl) T.m_len PySem.boot_len (pa_cons (pv 0) pa_nil)) (pa_cons (pv 1) pa_nil))))
      (pss_cons (ps_set (i := 2) sc_inverse.nd rfl (.inl rfl) (pe_lst pa_nil))
      (pss_cons (ps_for (passes_of rfl) rfl (pi_list (pv 1)) (pg_tup (by rfl) (pgs_cons (pg_name (i := 3) sc_inverse.nd rfl (.inl rfl)) (pgs_cons (pg_name (i := 4) sc_inverse.nd rfl (.inl rfl)) (pgs_cons (pg_name (i := 5) sc_inverse.nd rfl (.inl rfl)) pgs_nil)))) (pss_cons (ps_expr (pe_bm PySem.F.plainAttrs_list PySem.F.slot_list_append PySem.F.type_list_append mt_append (pv 2) (pa_cons (pe_tup (pa_cons (pv 3) (pa_cons (pe_op op_add (pv 3) (pe_callB call_len_str (by rfl) T.m_len PySem.boot_len (pa_cons (pv 5) pa_nil))) (pa_cons (pe_slice sl_str (pv 0) (po_some (pv 3)) (po_some (pv 4))) pa_nil)))) pa_nil)))
      (pss_one (ps_set (i := 0) sc_inverse.nd rfl (.inl rfl) (pe_op op_add_str (pe_op op_add_str (pe_slice sl_str (pv 0) po_none (po_some (pv 3))) (pv 5)) (pe_slice sl_str (pv 0) (po_some (pv 4)) po_none))))))
      (pss_cons (ps_expr (pe_bm0 PySem.F.plainAttrs_list PySem.F.slot_list_reverse PySem.F.type_list_reverse mt_reverse (pv 2)))
      (pss_one (ps_ret (pv 2))))))), ?_⟩
    refine ⟨_, rfl, _, rfl, szM (by omega), _, rfl, z.length, l, es, rfl, hE, hS, hn, fun hf H1 s1 => ?_, fun k hk => ?_⟩
    · rw [lz] at hf
      obtain ⟨us, hus, hue⟩ := id hE
      have lu := paired_len hue
      refine ⟨Nat.zero_le _, fun p np => ?_⟩
      have hp0 : H p = none := by
        cases e : H p with
        | none => rfl
        | some o =>
          rw [s1 _ _ e] at np
          cases np
      refine ⟨_, rfl, l, rfl, ⟨_, SqL.of ((s1.trans (same_upd np)) _ _ hus)⟩, ?_⟩
      refine for_list (K := K) (a := l) (xs := us) (fun i σ H' => Same H H' ∧ ∃ (now : Str) (ws : List V) (y3 y4 y5 : Option V), σ = [some (.str now), some (.ref l), some (.ref p), y3, y4, y5] ∧ cs now = appl (cs z) (es.take i) ∧ H' p = some (.lst ws) ∧ EdsIn H' ws (backL (cs z) (es.take i)).reverse)
        ⟨s1.trans (same_upd np), z, [], none, none, none, rfl, rfl, upd_same, .nil⟩ (fun i σ H' _ ⟨s, _⟩ => SqL.of (s _ _ hus)) ?_ ?_
      · rintro i x σ H2 hx ⟨sm, now, ws, y3, y4, y5, rfl, hnow, hp, hw⟩
        obtain ⟨e, he⟩ : ∃ e, es[i]? = some e := ⟨_, List.getElem?_eq_getElem (by rw [← lu]; exact (List.getElem?_eq_some_iff.mp hx).1)⟩
        obtain ⟨x', hx', t, rfl, ht0⟩ := paired_get hue he
        rw [hx] at hx'
        have h1 := Option.some.inj hx'
        subst h1
        have ht := sm _ _ ht0
        have hf1 := fitsL_get hf he
        rw [← appl_len (fitsL_take i hf), ← hnow] at hf1
        obtain ⟨a, b, hab, h2, h3⟩ := fit_nat hf1
        have lim1 := hl (i + 1) (fitsL_take _ hf)
        rw [take_more he, appl_snoc, ← hnow] at lim1
        rw [hab] at ht lim1
        have ht : H2 t = some (.tup [.int (a : Int), .int (b : Int), .str e.2.2]) := ht
        have lim2 : (spliceL (cs now) a b (cs e.2.2)).length ≤ 4000000 := lim1
        have lim0 := hl i (fitsL_take _ hf)
        rw [← hnow] at lim0
        have sp := spl_pre (cs now) a b (cs e.2.2)
        have l1 : (cutS now none (some (a : Int))).length = ((cs now).take a).length := by rw [len_cs, cut_pre]
        have szn : now.length ≤ sizeLine := szM (by rw [len_cs]; exact lim0)
        have lw := paired_len hw
        rw [List.length_reverse, backL_len, List.length_take] at lw
        refine ⟨t, _, rfl, SqT.of ht, rfl, _, _, rfl, _, _, rfl, _, _, rfl, rfl, ?_⟩
        -- back.append((start, start + len(new), text[start:end]))
        refine ⟨_, rfl, .inl ⟨rfl, _, SqL.of hp⟩, _, rfl, _, rfl, _, rfl, _, rfl, szM (by rw [len_cs]; omega), _, _, rfl, rfl, _, rfl, _, rfl, _, rfl, _, rfl, _, rfl, now, rfl, szn, by show 3 ≤ sizeLine; decide, fun t2 nt2 => ?_⟩
        have hp2 : (upd H2 t2 (.tup [.int (a : Int), .int ((a : Int) + (e.2.2.length : Int)), .str (cutS now (some (a : Int)) (some (b : Int)))])) p = some (.lst ws) := by rw [upd_ne (ne_of_none hp nt2)]; exact hp
        refine ⟨p, ws, _, rfl, rfl, hp2, sz2 (by omega), ?_⟩
        -- text = ..
        refine ⟨_, rfl, _, rfl, _, rfl, now, rfl, szn, _, rfl, _, _, rfl, rfl, szM (by rw [l1, len_cs]; omega), ?_⟩
        refine ⟨_, rfl, _, rfl, _, rfl, now, rfl, szn, _, _, rfl, rfl, ?_, ?_, _, ws ++ [.ref t2], _, _, _, rfl, ?_, upd_same, ?_⟩
        · have h9 : (cutS now none (some (a : Int)) ++ e.2.2 ++ cutS now (some (b : Int)) none).length = (cutS now none (some (a : Int)) ++ e.2.2).length + (cutS now (some (b : Int)) none).length := by
            rw [len_cs, len_cs, len_cs, cs_app, List.length_append]
          rw [← h9, len_cs, cs_splice]
          exact szM lim2
        · exact same_mut (sm.trans (same_upd nt2)) hp0
        · rw [cs_splice, take_more he, appl_snoc, ← hnow]
          rw [hab]
          rfl
        · have ebk : (e.1, e.1 + (e.2.2.length : Int), cutS now (some (a : Int)) (some (b : Int))) = back1 (cs now) e := by
            rw [hab]
            show ((a : Int), (a : Int) + (e.2.2.length : Int), cutS now (some (a : Int)) (some (b : Int))) = ((a : Int), (a : Int) + (((cs e.2.2).length : Nat) : Int), (⟨(((cs now).take b).drop a).toArray⟩ : Str))
            rw [len_cs, mkS_eq (cut_mid now a b)]
          have tt : Tups H2 (upd (upd H2 t2 (.tup [.int (a : Int), .int ((a : Int) + (e.2.2.length : Int)), .str (cutS now (some (a : Int)) (some (b : Int)))])) p (.lst (ws ++ [.ref t2]))) := (Tups.new nt2).trans (Tups.mut hp2)
          rw [take_more he, backL_snoc, ← hnow, List.reverse_cons]
          refine paired_app (hw.mono tt) (.cons ⟨t2, rfl, ?_⟩ .nil)
          have ea : e.1 = (a : Int) := by rw [hab]
          rw [← ebk, ea]
          exact (Tups.mut hp2) _ _ upd_same
      · rintro σ H2 ⟨sm, now, ws, y3, y4, y5, rfl, hnow, hp, hw⟩
        rw [lu, List.take_length] at hw
        refine ⟨_, rfl, .inl ⟨rfl, _, SqL.of hp⟩, p, ws, rfl, rfl, hp, _, rfl, ?_⟩
        have hw2 : EdsIn H2 ws.reverse (backL (cs z) es).reverse.reverse := paired_rev hw
        rw [List.reverse_reverse] at hw2
        exact q1 hf p _ (same_mut sm hp0) hp0 ⟨ws.reverse, upd_same, hw2.mono (Tups.mut hp)⟩
    · rw [lz] at hk
      exact q2 k hk

theorem ix_tupK {X : Cx} {K : PySem.W.Frag} (h : X.K = K) : IxR X (rIxT K) := by
  subst h
  exact ix_tup
theorem ix_listK {X : Cx} {K : PySem.W.Frag} (h : X.K = K) : IxR X (rIxL K) := by
  subst h
  exact ix_list
theorem call_len_seqK {X : Cx} {K : PySem.W.Frag} (h : X.K = K) : CallR X (.builtin "len") (fun xs H Q => ∃ p ys, xs = [V.ref p] ∧ (SqL K H p ys ∨ SqT K H p ys) ∧ Q (.int (ys.length : Int)) H) := by
  subst h
  exact call_len_seq
/-! ### runs and carries, where they stand -/
def RnAt (H : Hp) (v : V) (r : Rn) : Prop := ∃ t, v = .ref t ∧ H t = some (.tup [.int (r.1 : Int), .int (r.2.1 : Int), .int (r.2.2 : Int)])
theorem RnAt.mono {H H' : Hp} {v : V} {r : Rn} (t : Tups H H') (h : RnAt H v r) : RnAt H' v r := by
  obtain ⟨p, e, k⟩ := h
  exact ⟨p, e, t _ _ k⟩
abbrev RnsIn (H : Hp) : List V → List Rn → Prop := Paired (RnAt H)
theorem RnsIn.mono {H H' : Hp} {vs : List V} {rs : List Rn} (t : Tups H H') (h : RnsIn H vs rs) : RnsIn H' vs rs := Paired.mapP h fun _ _ => RnAt.mono t
/-- a tuple of runs -/
def RnsT (H : Hp) (t : Addr) (rs : List Rn) : Prop := ∃ us, H t = some (.tup us) ∧ RnsIn H us rs
theorem RnsT.mono {H H' : Hp} {t : Addr} {rs : List Rn} (s : Tups H H') (h : RnsT H t rs) : RnsT H' t rs := by
  obtain ⟨us, h1, h2⟩ := h
  exact ⟨us, s _ _ h1, h2.mono s⟩
theorem same_tups {H H' : Hp} (s : Same H H') : Tups H H' := fun b xs h => s b _ h
theorem kOR : ¬ (("old" : Str) = "runs") := by decide +kernel
theorem kON : ¬ (("old" : Str) = "new") := by decide +kernel
theorem kNR : ¬ (("new" : Str) = "runs") := by decide +kernel
/-- the attributes of a carry -/
def cfl (a b : Int) (t : Addr) : List (Str × V) := putF "runs" (.ref t) (putF "new" (.int b) (putF "old" (.int a) []))
theorem cfl_runs (a b : Int) (t : Addr) : (cfl a b t).lookup ("runs" : Str) = some (.ref t) := by
  unfold cfl
  rw [lookup_putF, if_pos rfl]
theorem cfl_new (a b : Int) (t : Addr) : (cfl a b t).lookup ("new" : Str) = some (.int b) := by
  unfold cfl
  rw [lookup_putF, if_neg kNR, lookup_putF, if_pos rfl]
theorem cfl_old (a b : Int) (t : Addr) : (cfl a b t).lookup ("old" : Str) = some (.int a) := by
  unfold cfl
  rw [lookup_putF, if_neg kOR, lookup_putF, if_neg kON, lookup_putF, if_pos rfl]
theorem cfl_no (a b : Int) (t : Addr) {m : Str} (h1 : ¬ m = "runs") (h2 : ¬ m = "new") (h3 : ¬ m = "old") : (cfl a b t).lookup m = none := by
  unfold cfl
  rw [lookup_putF, if_neg h1, lookup_putF, if_neg h2, lookup_putF, if_neg h3]
  rfl
theorem putF_len (f : Str) (v : V) : ∀ fs : List (Str × V), (putF f v fs).length ≤ fs.length + 1
  | [] => Nat.le_refl _
  | (g, u) :: r => by
    have ih := putF_len f v r
    show (if g = f then _ else _ : List (Str × V)).length ≤ _
    split
    · rw [List.length_cons, List.length_cons]
      omega
    · rw [List.length_cons, List.length_cons]
      omega
/-- a carry with its two lengths and the place of its runs -/
def CarryAt (C : Addr) (H : Hp) (p : Addr) (a b : Int) (t : Addr) : Prop := ∃ dx, H p = some (.ins C dx (cfl a b t))
def CarryR (C : Addr) (H : Hp) (p : Addr) (a b : Nat) (rs : List Rn) : Prop := ∃ t, CarryAt C H p (a : Int) (b : Int) t ∧ RnsT H t rs
theorem CarryAt.same {C : Addr} {H H' : Hp} {p t : Addr} {a b : Int} (s : Same H H') (h : CarryAt C H p a b t) : CarryAt C H' p a b t := by
  obtain ⟨dx, h⟩ := h
  exact ⟨dx, s _ _ h⟩
theorem CarryR.same {C : Addr} {H H' : Hp} {p : Addr} {a b : Nat} {rs : List Rn} (s : Same H H') (h : CarryR C H p a b rs) : CarryR C H' p a b rs := by
  obtain ⟨t, h1, h2⟩ := h
  exact ⟨t, h1.same s, h2.mono (same_tups s)⟩
/-! ### Carry(..) -/
def spCInit (C : Addr) : Sp := fun vs H Q _ => ∃ (p dx t : Addr) (a b : Int), vs = [.ref p, .int a, .int b, .ref t] ∧ H p = some (.ins C dx []) ∧ Q .non (upd H p (.ins C dx (cfl a b t)))
theorem ok_Carry_init (T : Txt K mg) : FnOk P w K mg base CX0 1 T.a_Carry_init T.fd_Carry_init ["self", "old", "new", "runs"] (spCInit T.C_Carry) := by
  refine T.F_Carry_init.ok sc_Carry_init (fun vs H Q E h => ?_) (fun cdv A outer s H vs Q E hr h => ?_)
  · obtain ⟨p, dx, t, a, b, rfl, _⟩ := h
    rfl
  · obtain ⟨p, dx, t, a, b, rfl, hp, q⟩ := h
    refine ⟨_, (pss_cons (ps_fld (pv 0) (pv 1) rfl)
      (pss_cons (ps_fld (pv 0) (pv 2) rfl)
      (pss_one (ps_fld (pv 0) (pv 3) rfl)))), ?_⟩
    refine ⟨_, rfl, _, rfl, p, T.C_Carry, dx, _, rfl, hp, T.CL_Carry, T.NA_Carry_old, by show 0 < 1000; decide, ?_⟩
    refine ⟨_, rfl, _, rfl, p, T.C_Carry, dx, _, rfl, upd_same, T.CL_Carry, T.NA_Carry_new, by show 1 < 1000; decide, ?_⟩
    refine ⟨_, rfl, _, rfl, p, T.C_Carry, dx, _, rfl, upd_same, T.CL_Carry, T.NA_Carry_runs, ?_, ?_⟩
    · have h1 := putF_len "new" (.int b) (putF "old" (.int a) [])
      have h2 := putF_len "old" (.int a) []
      have h3 : ([] : List (Str × V)).length = 0 := rfl
      omega
    rw [upd_upd, upd_upd]
    exact q
/-- what a new carry leaves -/
theorem made_same {H : Hp} {x dx C : Addr} {fs : List (Str × V)} (nx : H x = none) (nd : H dx = none) : Same H (upd (upd H dx (.own x)) x (.ins C dx fs)) := fun b o e => by
  rw [upd_ne (ne_of_none e nx), upd_ne (ne_of_none e nd)]
  exact e
theorem make_carry {C : Addr} {H : Hp} {Q : VK} {E : XK} {a b : Int} {t : Addr} (k : ∀ x dx, H x = none → Q (.ref x) (upd (upd H dx (.own x)) x (.ins C dx (cfl a b t))) ∨ H dx ≠ none) (x dx : Addr) (nx : H x = none) (nd : H dx = none) (_ : dx ≠ x) :
    spCInit C [.ref x, .int a, .int b, .ref t] (upd (upd H dx (.own x)) x (.ins C dx [])) (fun v H2 => v = .non ∧ Q (.ref x) H2) E := by
  refine ⟨x, dx, t, a, b, rfl, upd_same, rfl, ?_⟩
  rw [upd_upd]
  rcases k x dx nx with h | h
  · exact h
  · exact absurd nd h

/-! ### iter(carry) -/
def TAc (C : Addr) (p : Addr) (H : Hp) (t : Addr) (_ : List V) : Prop := ∃ dx a b, H p = some (.ins C dx (cfl a b t))
theorem it_Carry___iter__ (T : Txt K mg) : OwnOp.ItBody P w K mg base ["self"] "Carry.__iter__" s_Carry___iter__ T.a_Carry___iter__ 0 (TAc T.C_Carry) := by
  intro cdv A outer s H p t xs Q E hr ht hq k
  obtain ⟨dx, a, b, hp⟩ := ht
  refine ⟨_, (pss_one (ps_ret (pe_callB OwnOp.call_iterTN (by rfl) T.m_iter (by decide +kernel) (pa_cons (pe_fld (pv 0) rfl) pa_nil)))), ?_⟩
  exact ⟨_, rfl, p, T.C_Carry, dx, _, _, rfl, hp, T.CL_Carry, T.NA_Carry_runs, cfl_runs _ _ _, t, xs, rfl, hq, k⟩

/-! ### _joined -/
def RnsL (H : Hp) (l : Addr) (rs : List Rn) : Prop := ∃ us, H l = some (.lst us) ∧ RnsIn H us rs
theorem RnsL.same {H H' : Hp} {l : Addr} {rs : List Rn} (s : Same H H') (h : RnsL H l rs) : RnsL H' l rs := by
  obtain ⟨us, h1, h2⟩ := h
  exact ⟨us, s _ _ h1, h2.mono (same_tups s)⟩
theorem joinR_len (acc : List Rn) (r : Rn) : (joinR acc r).length ≤ acc.length + 1 := by
  cases acc with
  | nil => exact Nat.le_refl _
  | cons x t =>
    obtain ⟨a, b, d⟩ := x
    obtain ⟨o, n, c⟩ := r
    show (if a + d = o ∧ b + d = n then (a, b, d + c) :: t else (o, n, c) :: (a, b, d) :: t).length ≤ t.length + 1 + 1
    split
    · exact Nat.le_succ _
    · exact Nat.le_refl _
theorem joinF_len : ∀ (ps acc : List Rn), (ps.foldl joinR acc).length ≤ acc.length + ps.length
  | [], acc => Nat.le_refl _
  | r :: t, acc => by
    have h1 := joinF_len t (joinR acc r)
    have h2 := joinR_len acc r
    show (t.foldl joinR (joinR acc r)).length ≤ acc.length + (t.length + 1)
    omega
theorem fold_snoc (ps : List Rn) (r : Rn) (acc : List Rn) : (ps ++ [r]).foldl joinR acc = joinR (ps.foldl joinR acc) r := by
  rw [List.foldl_append]
  rfl
theorem rns_split {H : Hp} {ws : List V} {x : Rn} {t : List Rn} (h : RnsIn H ws (x :: t).reverse) : ∃ ws' p, ws = ws' ++ [.ref p] ∧ RnsIn H ws' t.reverse ∧ H p = some (.tup [.int (x.1 : Int), .int (x.2.1 : Int), .int (x.2.2 : Int)]) := by
  rw [List.reverse_cons] at h
  have hl := paired_len h
  rw [List.length_append] at hl
  have hl' : ws.length = t.reverse.length + 1 := hl
  have h1 := paired_take t.reverse.length h
  have h2 := paired_drop t.reverse.length h
  rw [List.take_left] at h1
  rw [List.drop_left] at h2
  generalize e : ws.drop t.reverse.length = d at h2
  cases h2 with
  | cons r nl =>
    cases nl
    obtain ⟨p, rfl, hp⟩ := r
    exact ⟨_, p, by rw [← e, List.take_append_drop], h1, hp⟩
theorem set_last {α : Type} (xs : List α) (v w : α) : (xs ++ [v]).set xs.length w = xs ++ [w] := by
  rw [List.set_append_right _ _ (Nat.le_refl _), Nat.sub_self]
  rfl
theorem ix_last {α : Type} (xs : List α) (v : α) : ixN (xs ++ [v]).length (-1) = some xs.length := by
  have hl : (xs ++ [v]).length = xs.length + 1 := by simp
  unfold ixN
  rw [hl, if_neg (by decide), if_pos (by omega)]
  have : -1 + ((xs.length + 1 : Nat) : Int) = (xs.length : Int) := by omega
  rw [this]
  rfl
def spJoined : Sp := fun vs H Q _ => ∃ (l : Addr) (ps : List Rn), vs = [.ref l] ∧ RnsL H l ps ∧ ps.length ≤ 4000000 ∧ ∀ t H', Same H H' → H t = none → RnsT H' t (joinedL ps) → Q (.ref t) H'
theorem ok_joined (T : Txt K mg) : FnOk P w K mg base CX0 1 T.a_joined_runs T.fd_joined_runs ["pieces"] spJoined := by
  refine T.F_joined_runs.ok sc_joined_runs (fun vs H Q E h => ?_) (fun cdv A outer s H vs Q E hr h => ?_)
  · obtain ⟨l, ps, rfl, _⟩ := h
    rfl
  · obtain ⟨l, ps, rfl, ⟨us, hl, hu⟩, hn, q⟩ := h
    have lu := paired_len hu
    refine ⟨_, (pss_cons (ps_set (i := 1) sc_joined_runs.nd rfl (.inl rfl) (pe_lst pa_nil))
      (pss_cons (ps_for PassesOwn.never rfl (pi_list (pv 0)) (pg_tup (by rfl) (pgs_cons (pg_name (i := 2) sc_joined_runs.nd rfl (.inl rfl)) (pgs_cons (pg_name (i := 3) sc_joined_runs.nd rfl (.inl rfl)) (pgs_cons (pg_name (i := 4) sc_joined_runs.nd rfl (.inl rfl)) pgs_nil)))) (pss_one (ps_if (PW.pt (pw_and (pt_truth (pv 1) (by intro _; rfl)) (pw_and (pt_cmpR op_eq (pe_op op_add (pe_ix ix_tup (pe_ix ix_list (pv 1) (pe_un un_neg pe_int) (fun _ _ => rfl)) pe_int (fun _ _ => rfl)) (pe_ix ix_tup (pe_ix ix_list (pv 1) (pe_un un_neg pe_int) (fun _ _ => rfl)) pe_int (fun _ _ => rfl))) (pv 2) (nomark _)) (pw_and1 (pt_cmpR op_eq (pe_op op_add (pe_ix ix_tup (pe_ix ix_list (pv 1) (pe_un un_neg pe_int) (fun _ _ => rfl)) pe_int (fun _ _ => rfl)) (pe_ix ix_tup (pe_ix ix_list (pv 1) (pe_un un_neg pe_int) (fun _ _ => rfl)) pe_int (fun _ _ => rfl))) (pv 3) (nomark _)))))) (pss_one (ps_asg (pe_tup (pa_cons (pe_ix ix_tup (pe_ix ix_list (pv 1) (pe_un un_neg pe_int) (fun _ _ => rfl)) pe_int (fun _ _ => rfl)) (pa_cons (pe_ix ix_tup (pe_ix ix_list (pv 1) (pe_un un_neg pe_int) (fun _ _ => rfl)) pe_int (fun _ _ => rfl)) (pa_cons (pe_op op_add (pe_ix ix_tup (pe_ix ix_list (pv 1) (pe_un un_neg pe_int) (fun _ _ => rfl)) pe_int (fun _ _ => rfl)) (pv 4)) pa_nil)))) (pg_sub (pv 1) (pe_un un_neg pe_int) set_list))) (pss_one (ps_expr (pe_bm PySem.F.plainAttrs_list PySem.F.slot_list_append PySem.F.type_list_append mt_append (pv 1) (pa_cons (pe_tup (pa_cons (pv 2) (pa_cons (pv 3) (pa_cons (pv 4) pa_nil)))) pa_nil)))))))
      (pss_one (ps_ret (pe_callTy call_tuple_of (by rfl) T.m_tuple (by decide +kernel) (pa_cons (pv 1) pa_nil)))))), ?_⟩
    refine ⟨Nat.zero_le _, fun p np => ?_⟩
    have s0 : Same H (upd H p (.lst [])) := same_upd np
    refine ⟨_, rfl, l, rfl, ⟨_, SqL.of (s0 _ _ hl)⟩, ?_⟩
    refine for_list (K := K) (a := l) (xs := us) (fun i σ H' => Same H H' ∧ ∃ (ws : List V) (y2 y3 y4 : Option V), σ = [some (.ref l), some (.ref p), y2, y3, y4] ∧ H' p = some (.lst ws) ∧ RnsIn H' ws ((ps.take i).foldl joinR []).reverse)
      ⟨s0, [], none, none, none, rfl, upd_same, .nil⟩ (fun i σ H' _ ⟨s, _⟩ => SqL.of (s _ _ hl)) ?_ ?_
    · rintro i x σ H1 hx ⟨sm, ws, y2, y3, y4, rfl, hp, hw⟩
      obtain ⟨⟨o, n, c⟩, he⟩ : ∃ e, ps[i]? = some e := ⟨_, List.getElem?_eq_getElem (by rw [← lu]; exact (List.getElem?_eq_some_iff.mp hx).1)⟩
      obtain ⟨x', hx', t, rfl, ht0⟩ := paired_get hu he
      rw [hx] at hx'
      have h1 := Option.some.inj hx'
      subst h1
      have ht := sm _ _ ht0
      have lw := paired_len hw
      rw [List.length_reverse] at lw
      have lj := joinF_len (ps.take i) []
      rw [List.length_take] at lj
      have lz : ([] : List Rn).length = 0 := rfl
      refine ⟨t, _, rfl, SqT.of ht, rfl, _, _, rfl, _, _, rfl, _, _, rfl, rfl, ?_⟩
      -- the run is put behind the others
      have app : joinR ((ps.take i).foldl joinR []) (o, n, c) = (o, n, c) :: (ps.take i).foldl joinR [] → ∀ a, H1 a = none →
          Same H (upd (upd H1 a (.tup [.int (o : Int), .int (n : Int), .int (c : Int)])) p (.lst (ws ++ [.ref a]))) ∧ (upd (upd H1 a (.tup [.int (o : Int), .int (n : Int), .int (c : Int)])) p (.lst (ws ++ [.ref a]))) p = some (.lst (ws ++ [.ref a])) ∧
          RnsIn (upd (upd H1 a (.tup [.int (o : Int), .int (n : Int), .int (c : Int)])) p (.lst (ws ++ [.ref a]))) (ws ++ [.ref a]) ((ps.take (i + 1)).foldl joinR []).reverse := fun hj a na => by
        have hp2 : (upd H1 a (.tup [.int (o : Int), .int (n : Int), .int (c : Int)])) p = some (.lst ws) := by rw [upd_ne (ne_of_none hp na)]; exact hp
        refine ⟨same_mut (sm.trans (same_upd na)) np, upd_same, ?_⟩
        rw [take_more he, fold_snoc, hj, List.reverse_cons]
        have tt := (Tups.new (H := H1) (o := .tup [.int (o : Int), .int (n : Int), .int (c : Int)]) na).trans (Tups.mut (o := .lst (ws ++ [.ref a])) hp2)
        exact paired_app (hw.mono tt) (.cons ⟨a, rfl, (Tups.mut hp2) _ _ upd_same⟩ .nil)
      cases hacc : (ps.take i).foldl joinR [] with
      | nil =>
        rw [hacc] at hw
        cases hw
        refine ⟨_, rfl, false, .inl ⟨[], SqL.of hp, rfl⟩, iteF ?_⟩
        refine iteF ⟨_, rfl, .inl ⟨rfl, _, SqL.of hp⟩, _, rfl, _, rfl, _, rfl, by show 3 ≤ sizeLine; decide, fun a na => ?_⟩
        have hj : joinR ((ps.take i).foldl joinR []) (o, n, c) = (o, n, c) :: (ps.take i).foldl joinR [] := by rw [hacc]; rfl
        obtain ⟨b1, b2, b3⟩ := app hj a na
        exact ⟨p, _, _, rfl, rfl, by rw [upd_ne (ne_of_none hp na)]; exact hp, by show 0 < sizeLine; decide, b1, _, _, _, _, rfl, b2, b3⟩
      | cons y acc =>
        obtain ⟨o1, n1, c1⟩ := y
        rw [hacc] at hw
        obtain ⟨ws', tl, rfl, hw', htl⟩ := rns_split hw
        have e1 : joinR ((ps.take i).foldl joinR []) (o, n, c) = if o1 + c1 = o ∧ n1 + c1 = n then (o1, n1, c1 + c) :: acc else (o, n, c) :: (o1, n1, c1) :: acc := by rw [hacc]; rfl
        have e2 : ¬ (o1 + c1 = o ∧ n1 + c1 = n) → joinR ((ps.take i).foldl joinR []) (o, n, c) = (o, n, c) :: (ps.take i).foldl joinR [] := fun h => by rw [e1, if_neg h, hacc]
        have htl : H1 tl = some (.tup [.int (o1 : Int), .int (n1 : Int), .int (c1 : Int)]) := htl
        have ix0 : ∀ (j : Nat) v, ([V.int (o1 : Int), V.int (n1 : Int), V.int (c1 : Int)] : List V)[j]? = some v → atI [V.int (o1 : Int), V.int (n1 : Int), V.int (c1 : Int)] (j : Int) = some v := fun j v h => atI_nat h
        have lw2 : ws'.length + 1 ≤ 4000000 := by
          rw [List.length_append] at lw
          have := lw
          rw [hacc] at lw lj
          have l1 : ([V.ref tl] : List V).length = 1 := rfl
          omega
        refine ⟨_, rfl, true, .inl ⟨_, SqL.of hp, by simp⟩, iteT ?_⟩
        refine ⟨_, rfl, 1, rfl, p, _, _, _, rfl, rfl, SqL.of hp, atI_last _ _, tl, _, 0, .int (o1 : Int), rfl, rfl, SqT.of htl, ix0 0 _ rfl, ?_⟩
        refine ⟨_, rfl, 1, rfl, p, _, _, _, rfl, rfl, SqL.of hp, atI_last _ _, tl, _, 2, .int (c1 : Int), rfl, rfl, SqT.of htl, ix0 2 _ rfl, _, _, rfl, rfl, ?_⟩
        have push : ¬ (o1 + c1 = o ∧ n1 + c1 = n) → ∀ a, H1 a = none → ∃ (l' : Addr) (xs : List V) (v : V), V.ref p = .ref l' ∧ [V.ref a] = [v] ∧ (upd H1 a (.tup [.int (o : Int), .int (n : Int), .int (c : Int)])) l' = some (.lst xs) ∧ xs.length < sizeLine ∧
            (Same H (upd (upd H1 a (.tup [.int (o : Int), .int (n : Int), .int (c : Int)])) l' (.lst (xs ++ [v]))) ∧ ∃ (ws : List V) (y2 y3 y4 : Option V), [some (.ref l), some (.ref p), some (.int (o : Int)), some (.int (n : Int)), some (.int (c : Int))] = [some (.ref l), some (.ref p), y2, y3, y4] ∧
              (upd (upd H1 a (.tup [.int (o : Int), .int (n : Int), .int (c : Int)])) l' (.lst (xs ++ [v]))) p = some (.lst ws) ∧ RnsIn (upd (upd H1 a (.tup [.int (o : Int), .int (n : Int), .int (c : Int)])) l' (.lst (xs ++ [v]))) ws ((ps.take (i + 1)).foldl joinR []).reverse) := fun h a na => by
          obtain ⟨b1, b2, b3⟩ := app (e2 h) a na
          exact ⟨p, _, _, rfl, rfl, by rw [upd_ne (ne_of_none hp na)]; exact hp, by rw [List.length_append]; exact Nat.lt_of_le_of_lt lw2 (by decide), b1, _, _, _, _, rfl, b2, b3⟩
        refine ⟨_, rfl, rfl, _, rfl, ite2 (fun c0 => ?_) (fun c0 => ?_)⟩
        · have d0 : o1 + c1 = o := by
            have : (o1 : Int) + (c1 : Int) = (o : Int) := V.int.inj (of_decide_eq_true c0)
            omega
          refine ⟨_, rfl, 1, rfl, p, _, _, _, rfl, rfl, SqL.of hp, atI_last _ _, tl, _, 1, .int (n1 : Int), rfl, rfl, SqT.of htl, ix0 1 _ rfl, ?_⟩
          refine ⟨_, rfl, 1, rfl, p, _, _, _, rfl, rfl, SqL.of hp, atI_last _ _, tl, _, 2, .int (c1 : Int), rfl, rfl, SqT.of htl, ix0 2 _ rfl, _, _, rfl, rfl, ?_⟩
          refine ⟨_, rfl, rfl, _, rfl, ite2 (fun c2 => ?_) (fun c2 => ?_)⟩
          · have d1 : n1 + c1 = n := by
              have : (n1 : Int) + (c1 : Int) = (n : Int) := V.int.inj (of_decide_eq_true c2)
              omega
            refine ⟨_, rfl, 1, rfl, p, _, _, _, rfl, rfl, SqL.of hp, atI_last _ _, tl, _, 0, .int (o1 : Int), rfl, rfl, SqT.of htl, ix0 0 _ rfl, ?_⟩
            refine ⟨_, rfl, 1, rfl, p, _, _, _, rfl, rfl, SqL.of hp, atI_last _ _, tl, _, 1, .int (n1 : Int), rfl, rfl, SqT.of htl, ix0 1 _ rfl, ?_⟩
            refine ⟨_, rfl, 1, rfl, p, _, _, _, rfl, rfl, SqL.of hp, atI_last _ _, tl, _, 2, .int (c1 : Int), rfl, rfl, SqT.of htl, ix0 2 _ rfl, _, rfl, _, _, rfl, rfl, by show 3 ≤ sizeLine; decide, fun a na => ?_⟩
            have hp2 : ∀ x, (upd H1 a x) p = some (.lst (ws' ++ [.ref tl])) := fun x => by rw [upd_ne (ne_of_none hp na)]; exact hp
            refine ⟨_, rfl, 1, rfl, p, _, _, _, rfl, rfl, hp2 _, ix_last _ _, ?_⟩
            rw [set_last]
            refine ⟨same_mut (sm.trans (same_upd na)) np, _, _, _, _, rfl, upd_same, ?_⟩
            rw [take_more he, fold_snoc, e1, if_pos ⟨d0, d1⟩, List.reverse_cons]
            have tt := (Tups.new (H := H1) (o := .tup [.int (o1 : Int), .int (n1 : Int), .int ((c1 : Int) + (c : Int))]) na).trans (Tups.mut (o := .lst (ws' ++ [.ref a])) (hp2 _))
            refine paired_app (hw'.mono tt) (.cons ⟨a, rfl, ?_⟩ .nil)
            have e3 : ((c1 + c : Nat) : Int) = (c1 : Int) + (c : Int) := by omega
            show _ = some (HO.tup [.int (o1 : Int), .int (n1 : Int), .int ((c1 + c : Nat) : Int)])
            rw [e3]
            exact (Tups.mut (hp2 _)) _ _ upd_same
          · have nd : ¬ (o1 + c1 = o ∧ n1 + c1 = n) := fun d => c2 (decide_eq_true (by have := d.2; show V.int ((n1 : Int) + (c1 : Int)) = V.int (n : Int); congr 1; omega))
            exact ⟨_, rfl, .inl ⟨rfl, _, SqL.of hp⟩, _, rfl, _, rfl, _, rfl, by show 3 ≤ sizeLine; decide, fun a na => push nd a na⟩
        · have nd : ¬ (o1 + c1 = o ∧ n1 + c1 = n) := fun d => c0 (decide_eq_true (by have := d.1; show V.int ((o1 : Int) + (c1 : Int)) = V.int (o : Int); congr 1; omega))
          refine iteF ?_
          exact ⟨_, rfl, .inl ⟨rfl, _, SqL.of hp⟩, _, rfl, _, rfl, _, rfl, by show 3 ≤ sizeLine; decide, fun a na => push nd a na⟩
    · rintro σ H1 ⟨sm, ws, y2, y3, y4, rfl, hp, hw⟩
      rw [lu, List.take_length] at hw
      refine ⟨_, rfl, p, _, rfl, .inl ⟨SqL.of hp, fun t nt => ?_⟩⟩
      have nt0 : H t = none := by
        cases e : H t with
        | none => rfl
        | some o =>
          rw [sm _ _ e] at nt
          cases nt
      exact q t _ (sm.trans (same_upd nt)) nt0 ⟨ws, upd_same, hw.mono (Tups.new nt)⟩

/-! ### while, by a test whose answer is told -/
theorem while_ans {c : L2.TT} {tb : L2.TS} {D : L2.Ends} {σ : L2.St} {H : Hp} (Pv : L2.St → Hp → Prop) (μ : L2.St → Nat) (h0 : Pv σ H)
    (hs : ∀ σ H, Pv σ H → ∃ b : Bool, (∀ Q : Bool → Hp → Prop, Q b H → c σ H Q) ∧ (b = true → tb { D with nx := fun σ' H' => Pv σ' H' ∧ μ σ' < μ σ, ct := fun σ' H' => Pv σ' H' ∧ μ σ' < μ σ, bk := D.nx } σ H) ∧ (b = false → D.nx σ H)) : tWhile c tb D σ H := by
  refine ⟨fun m σ H => m = μ σ ∧ Pv σ H, ⟨_, rfl, h0⟩, ?_⟩
  rintro m σ H ⟨rfl, p⟩
  obtain ⟨b, h1, h2, h3⟩ := hs σ H p
  refine h1 _ ?_
  cases b with
  | true => exact ⟨_, fun σ' H' ⟨p', l⟩ => ⟨_, l, rfl, p'⟩, h2 rfl⟩
  | false => exact h3 rfl
/-- how far a slot is from n -/
def gap (n j : Nat) (σ : L2.St) : Nat := match σ[j]? with
  | some (some (.int z)) => n - z.toNat
  | _ => 0
theorem tup3 {a b c : Int} (j : Nat) {v : V} (h : ([V.int a, V.int b, V.int c] : List V)[j]? = some v) : atI [V.int a, V.int b, V.int c] (j : Int) = some v := atI_nat h
/-! ### _through -/
def spThrough : Sp := fun vs H Q _ => ∃ (a b : Addr) (rs ss : List Rn), vs = [.ref a, .ref b] ∧ RnsT H a rs ∧ RnsT H b ss ∧ AscR rs ∧ PosR rs ∧ AscR ss ∧ PosR ss ∧ (∀ r ∈ rs, ∃ s ∈ ss, r.2.1 < s.1 + s.2.2) ∧ ss.length ≤ 4000000 ∧ (throughL rs ss).length ≤ 4000000 ∧
  ∀ l H', Same H H' → H l = none → RnsL H' l (throughL rs ss) → Q (.ref l) H'
theorem ok_through (T : Txt K mg) : FnOk P w K mg base CX0 1 T.a_through T.fd_through ["first", "second"] spThrough := by
  refine T.F_through.ok sc_through (fun vs H Q E h => ?_) (fun cdv A outer s H vs Q E hr h => ?_)
  · obtain ⟨a, b, rs, ss, rfl, _⟩ := h
    rfl
  · obtain ⟨a, b, rs, ss, rfl, ⟨us, ha, hu⟩, ⟨vs, hb, hv⟩, ar, pr, as, ps, hex, hls, hlt, q⟩ := h
    have lu := paired_len hu
    have lv := paired_len hv
    refine ⟨_, (pss_cons (ps_set (i := 2) sc_through.nd rfl (.inl rfl) (pe_lst pa_nil))
      (pss_cons (ps_set (i := 3) sc_through.nd rfl (.inl rfl) pe_int)
      (pss_cons (ps_for PassesOwn.never rfl (pi_tup (pv 0)) (pg_tup (by rfl) (pgs_cons (pg_name (i := 4) sc_through.nd rfl (.inl rfl)) (pgs_cons (pg_name (i := 5) sc_through.nd rfl (.inl rfl)) (pgs_cons (pg_name (i := 6) sc_through.nd rfl (.inl rfl)) pgs_nil)))) (pss_cons (ps_while PassesOwn.never (pt_cmpR op_le (pe_op op_add (pe_ix ix_tup (pe_ix ix_tup (pv 1) (pv 3) (fun _ _ => rfl)) pe_int (fun _ _ => rfl)) (pe_ix ix_tup (pe_ix ix_tup (pv 1) (pv 3) (fun _ _ => rfl)) pe_int (fun _ _ => rfl))) (pv 5) (nomark _)) (pss_one (ps_aug (i := 3) sc_through.nd rfl (.inl rfl) pe_int ip_add)))
      (pss_cons (ps_set (i := 7) sc_through.nd rfl (.inl rfl) (pv 3))
      (pss_one (ps_while PassesOwn.never (PW.pt (pw_and (pt_cmpR op_lt (pv 7) (pe_callB call_len_seq (by rfl) T.m_len PySem.boot_len (pa_cons (pv 1) pa_nil)) (nomark _)) (pw_and1 (pt_cmpR op_lt (pe_ix ix_tup (pe_ix ix_tup (pv 1) (pv 7) (fun _ _ => rfl)) pe_int (fun _ _ => rfl)) (pe_op op_add (pv 5) (pv 6)) (nomark _))))) (pss_cons (ps_set (i := 8) sc_through.nd rfl (.inl rfl) (pe_callB (call_max2 rfl) (by rfl) T.m_max (by decide +kernel) (pa_cons (pv 5) (pa_cons (pe_ix ix_tup (pe_ix ix_tup (pv 1) (pv 7) (fun _ _ => rfl)) pe_int (fun _ _ => rfl)) pa_nil))))
      (pss_cons (ps_set (i := 9) sc_through.nd rfl (.inl rfl) (pe_callB (call_min2 rfl) (by rfl) T.m_min (by decide +kernel) (pa_cons (pe_op op_add (pv 5) (pv 6)) (pa_cons (pe_op op_add (pe_ix ix_tup (pe_ix ix_tup (pv 1) (pv 7) (fun _ _ => rfl)) pe_int (fun _ _ => rfl)) (pe_ix ix_tup (pe_ix ix_tup (pv 1) (pv 7) (fun _ _ => rfl)) pe_int (fun _ _ => rfl))) pa_nil))))
      (pss_cons (ps_expr (pe_bm PySem.F.plainAttrs_list PySem.F.slot_list_append PySem.F.type_list_append mt_append (pv 2) (pa_cons (pe_tup (pa_cons (pe_op op_sub (pe_op op_add (pv 4) (pv 8)) (pv 5)) (pa_cons (pe_op op_sub (pe_op op_add (pe_ix ix_tup (pe_ix ix_tup (pv 1) (pv 7) (fun _ _ => rfl)) pe_int (fun _ _ => rfl)) (pv 8)) (pe_ix ix_tup (pe_ix ix_tup (pv 1) (pv 7) (fun _ _ => rfl)) pe_int (fun _ _ => rfl))) (pa_cons (pe_op op_sub (pv 9) (pv 8)) pa_nil)))) pa_nil)))
      (pss_one (ps_aug (i := 7) sc_through.nd rfl (.inl rfl) pe_int ip_add))))))))))
      (pss_one (ps_ret (pv 2)))))), ?_⟩
    refine ⟨Nat.zero_le _, fun p np => ?_⟩
    have s0 : Same H (upd H p (.lst [])) := same_upd np
    refine ⟨_, rfl, a, rfl, ⟨_, SqT.of (s0 _ _ ha)⟩, ?_⟩
    refine for_tup (K := K) (a := a) (xs := us) (fun i σ H' => Same H H' ∧ ∃ (k : Nat) (ws : List V) (y4 y5 y6 y7 y8 y9 : Option V), σ = [some (.ref a), some (.ref b), some (.ref p), some (.int (k : Int)), y4, y5, y6, y7, y8, y9] ∧ H' p = some (.lst ws) ∧ RnsIn H' ws (throughL (rs.take i) ss) ∧
        (∀ m r, i ≤ m → rs[m]? = some r → ∀ j x, j < k → ss[j]? = some x → x.1 + x.2.2 ≤ r.2.1))
      ⟨s0, 0, [], none, none, none, none, none, none, rfl, upd_same, .nil, fun _ _ _ _ _ _ h => absurd h (Nat.not_lt_zero _)⟩ (fun i σ H' _ ⟨s, _⟩ => SqT.of (s _ _ ha)) ?_ ?_
    · rintro i x σ H1 hx ⟨sm, k, ws, y4, y5, y6, y7, y8, y9, rfl, hp, hw, hk⟩
      obtain ⟨⟨o, n, c⟩, he⟩ : ∃ e, rs[i]? = some e := ⟨_, List.getElem?_eq_getElem (by rw [← lu]; exact (List.getElem?_eq_some_iff.mp hx).1)⟩
      obtain ⟨x', hx', t, rfl, ht0⟩ := paired_get hu he
      rw [hx] at hx'
      have h1 := Option.some.inj hx'
      subst h1
      have ht := sm _ _ ht0
      have pc : 0 < c := pr _ (List.mem_of_getElem? he)
      obtain ⟨se, hse, hlast⟩ := hex _ (List.mem_of_getElem? he)
      obtain ⟨je, hje⟩ := List.getElem?_of_mem hse
      have hlast : n < se.1 + se.2.2 := hlast
      refine ⟨t, _, rfl, SqT.of ht, rfl, _, _, rfl, _, _, rfl, _, _, rfl, rfl, ?_⟩
      -- an item of the second carry
      have item : ∀ {H' : Hp}, Same H H' → ∀ {j : Nat} {y : Rn}, ss[j]? = some y → ∃ ty, vs[j]? = some (.ref ty) ∧ SqT K H' b vs ∧ SqT K H' ty [.int (y.1 : Int), .int (y.2.1 : Int), .int (y.2.2 : Int)] := fun {H'} s' {j y} hy => by
        obtain ⟨x', hx', ty, rfl, hty⟩ := paired_get hv hy
        exact ⟨ty, hx', SqT.of (s' _ _ hb), SqT.of (s' _ _ hty)⟩
      -- while second[at][0] + second[at][2] <= new
      refine while_ans (fun σ H' => H' = H1 ∧ ∃ k : Nat, σ = [some (.ref a), some (.ref b), some (.ref p), some (.int (k : Int)), some (.int (o : Int)), some (.int (n : Int)), some (.int (c : Int)), y7, y8, y9] ∧ ∀ j x, j < k → ss[j]? = some x → x.1 + x.2.2 ≤ n) (gap ss.length 3)
        ⟨rfl, k, rfl, fun j x hj hx => hk i _ (Nat.le_refl _) he j x hj hx⟩ ?_
      rintro σ H' ⟨rfl, k, rfl, hk1⟩
      have kje : k ≤ je := by
        refine Nat.le_of_not_lt fun h => ?_
        have := hk1 je se h hje
        omega
      have klt : k < ss.length := Nat.lt_of_le_of_lt kje (List.getElem?_eq_some_iff.mp hje).1
      obtain ⟨y, hy⟩ : ∃ y, ss[k]? = some y := ⟨_, List.getElem?_eq_getElem klt⟩
      obtain ⟨ty, e1, e2, e3⟩ := item sm hy
      refine ⟨decide ((y.1 : Int) + (y.2.2 : Int) ≤ (n : Int)), fun Q q => ?_, fun hb1 => ?_, fun hb1 => ?_⟩
      · refine ⟨_, rfl, _, rfl, b, _, _, _, rfl, rfl, e2, atI_nat e1, ty, _, 0, .int (y.1 : Int), rfl, rfl, e3, tup3 0 rfl, ?_⟩
        refine ⟨_, rfl, _, rfl, b, _, _, _, rfl, rfl, e2, atI_nat e1, ty, _, 2, .int (y.2.2 : Int), rfl, rfl, e3, tup3 2 rfl, _, _, rfl, rfl, ?_⟩
        exact ⟨_, rfl, _, _, rfl, rfl, _, rfl, q⟩
      · have le := of_decide_eq_true hb1
        refine ⟨_, rfl, _, _, rfl, rfl, ⟨rfl, k + 1, rfl, fun j x hj hx => ?_⟩, ?_⟩
        · by_cases e : j = k
          · rw [e, hy] at hx
            have e := Option.some.inj hx
            rw [← e]
            omega
          · exact hk1 j x (by omega) hx
        · show ss.length - ((k : Int) + 1).toNat < ss.length - ((k : Int)).toNat
          omega
      · have gt : ¬ ((y.1 : Int) + (y.2.2 : Int) ≤ (n : Int)) := of_decide_eq_false hb1
        -- index = at
        refine ⟨_, rfl, ?_⟩
        refine while_ans (fun σ H' => Same H H' ∧ ∃ (ix : Nat) (ws : List V) (y8 y9 : Option V), σ = [some (.ref a), some (.ref b), some (.ref p), some (.int (k : Int)), some (.int (o : Int)), some (.int (n : Int)), some (.int (c : Int)), some (.int (ix : Int)), y8, y9] ∧ k ≤ ix ∧ ix ≤ ss.length ∧
            H' p = some (.lst ws) ∧ RnsIn H' ws (throughL (rs.take i) ss ++ overL (o, n, c) (ss.take ix))) (gap ss.length 7)
          ⟨sm, k, ws, y8, y9, rfl, Nat.le_refl _, Nat.le_of_lt klt, hp, ?_⟩ ?_
        · have e0 : overL (o, n, c) (ss.take k) = [] := overL_none fun x hx => .inl (by
            obtain ⟨j, hj⟩ := List.getElem?_of_mem hx
            rw [List.getElem?_take] at hj
            split at hj
            · rename_i hjk
              exact hk1 j x hjk hj
            · cases hj)
          rw [e0, List.append_nil]
          exact hw
        rintro σ H2 ⟨sm2, ix, ws2, y8, y9, rfl, hki, hil, hp2, hw2⟩
        -- the way out of the loop
        have out : (∀ j x, ix ≤ j → ss[j]? = some x → n + c ≤ x.1) → RnsIn H2 ws2 (throughL (rs.take (i + 1)) ss) ∧ (∀ m r, i + 1 ≤ m → rs[m]? = some r → ∀ j x, j < k → ss[j]? = some x → x.1 + x.2.2 ≤ r.2.1) := fun hout => by
          refine ⟨?_, fun m r hm hr j x hj hx => ?_⟩
          · rw [take_more he, throughL_snoc, overL_all (r := (o, n, c)) (i := ix) hout]
            exact hw2
          · have h1 := (ar.get he hr (Nat.lt_of_lt_of_le (Nat.lt_succ_self i) hm)).2
            have h2 := hk1 j x hj hx
            simp only at h1
            omega
        by_cases hix : ix < ss.length
        · obtain ⟨y2, hy2⟩ : ∃ y, ss[ix]? = some y := ⟨_, List.getElem?_eq_getElem hix⟩
          obtain ⟨tz, f1, f2, f3⟩ := item sm2 hy2
          have py2 : 0 < y2.2.2 := ps _ (List.mem_of_getElem? hy2)
          have nlt : n < y2.1 + y2.2.2 := by
            by_cases e : k = ix
            · rw [← e, hy] at hy2
              have e := Option.some.inj hy2
              rw [← e]
              omega
            · have := (as.get hy hy2 (by omega)).1
              omega
          refine ⟨decide ((y2.1 : Int) < (n : Int) + (c : Int)), fun Q q => ?_, fun hb2 => ?_, fun hb2 => ?_⟩
          · refine ⟨_, rfl, _, rfl, b, vs, rfl, .inr f2, _, _, rfl, rfl, _, rfl, ite2 (fun _ => ?_) (fun z => absurd (decide_eq_true (by omega)) z)⟩
            refine ⟨_, rfl, _, rfl, b, _, _, _, rfl, rfl, f2, atI_nat f1, tz, _, 0, .int (y2.1 : Int), rfl, rfl, f3, tup3 0 rfl, ?_⟩
            exact ⟨_, rfl, _, rfl, _, _, rfl, rfl, _, _, rfl, rfl, _, rfl, q⟩
          · have lt2 := of_decide_eq_true hb2
            have ov := over1_some (r := (o, n, c)) (s := y2) (by simp only; omega) nlt pc py2
            -- begin, end
            refine ⟨_, rfl, _, rfl, _, rfl, b, _, _, _, rfl, rfl, f2, atI_nat f1, tz, _, 0, .int (y2.1 : Int), rfl, rfl, f3, tup3 0 rfl, _, _, rfl, ?_⟩
            refine ⟨_, rfl, _, rfl, _, _, rfl, rfl, ?_⟩
            refine ⟨_, rfl, _, rfl, b, _, _, _, rfl, rfl, f2, atI_nat f1, tz, _, 0, .int (y2.1 : Int), rfl, rfl, f3, tup3 0 rfl, ?_⟩
            refine ⟨_, rfl, _, rfl, b, _, _, _, rfl, rfl, f2, atI_nat f1, tz, _, 2, .int (y2.2.2 : Int), rfl, rfl, f3, tup3 2 rfl, _, _, rfl, rfl, _, _, rfl, ?_⟩
            -- append
            refine ⟨_, rfl, .inl ⟨rfl, _, SqL.of hp2⟩, _, rfl, _, rfl, _, _, rfl, rfl, _, rfl, _, _, rfl, rfl, ?_⟩
            refine ⟨_, rfl, _, rfl, b, _, _, _, rfl, rfl, f2, atI_nat f1, tz, _, 1, .int (y2.2.1 : Int), rfl, rfl, f3, tup3 1 rfl, _, rfl, _, _, rfl, rfl, ?_⟩
            refine ⟨_, rfl, _, rfl, b, _, _, _, rfl, rfl, f2, atI_nat f1, tz, _, 0, .int (y2.1 : Int), rfl, rfl, f3, tup3 0 rfl, _, _, rfl, rfl, ?_⟩
            refine ⟨_, rfl, _, rfl, _, _, rfl, rfl, by show 3 ≤ sizeLine; decide, fun a2 na2 => ?_⟩
            have hp3 : ∀ x, (upd H2 a2 x) p = some (.lst ws2) := fun x => by rw [upd_ne (ne_of_none hp2 na2)]; exact hp2
            have lw2 := paired_len hw2
            rw [List.length_append] at lw2
            have l1 := throughL_take rs ss (i + 1)
            rw [take_more he, throughL_snoc, List.length_append] at l1
            have l2 := overL_take (o, n, c) ss ix
            have l3 : (overL (o, n, c) (ss.take (ix + 1))).length ≤ (overL (o, n, c) ss).length := overL_take _ _ _
            rw [take_more hy2, overL_snoc, ov, List.length_append] at l3
            have l4 : ([(o + max n y2.1 - n, y2.2.1 + max n y2.1 - y2.1, min (n + c) (y2.1 + y2.2.2) - max n y2.1)] : List Rn).length = 1 := rfl
            simp only at l3
            refine ⟨p, _, _, rfl, rfl, hp3 _, Nat.lt_of_lt_of_le (show ws2.length < 4000001 by omega) (by decide), ?_⟩
            -- index += 1
            refine ⟨_, rfl, _, _, rfl, rfl, ⟨same_mut (sm2.trans (same_upd na2)) np, ix + 1, _, _, _, rfl, by omega, by omega, upd_same, ?_⟩, ?_⟩
            · rw [take_more hy2, overL_snoc, ov, ← List.append_assoc]
              refine paired_app (hw2.mono ((Tups.new na2).trans (Tups.mut (hp3 _)))) (.cons ⟨a2, rfl, ?_⟩ .nil)
              have q1 : (o : Int) + (if (y2.1 : Int) > (n : Int) then (y2.1 : Int) else (n : Int)) - (n : Int) = ((o + max n y2.1 - n : Nat) : Int) := by split <;> omega
              have q2 : (y2.2.1 : Int) + (if (y2.1 : Int) > (n : Int) then (y2.1 : Int) else (n : Int)) - (y2.1 : Int) = ((y2.2.1 + max n y2.1 - y2.1 : Nat) : Int) := by split <;> omega
              have q3 : (if (y2.1 : Int) + (y2.2.2 : Int) < (n : Int) + (c : Int) then (y2.1 : Int) + (y2.2.2 : Int) else (n : Int) + (c : Int)) - (if (y2.1 : Int) > (n : Int) then (y2.1 : Int) else (n : Int)) = ((min (n + c) (y2.1 + y2.2.2) - max n y2.1 : Nat) : Int) := by split <;> split <;> omega
              have q4 : ([V.int ((o : Int) + (if (y2.1 : Int) > (n : Int) then (y2.1 : Int) else (n : Int)) - (n : Int)), V.int ((y2.2.1 : Int) + (if (y2.1 : Int) > (n : Int) then (y2.1 : Int) else (n : Int)) - (y2.1 : Int)),
                  V.int ((if (y2.1 : Int) + (y2.2.2 : Int) < (n : Int) + (c : Int) then (y2.1 : Int) + (y2.2.2 : Int) else (n : Int) + (c : Int)) - (if (y2.1 : Int) > (n : Int) then (y2.1 : Int) else (n : Int)))] : List V) =
                [V.int ((o + max n y2.1 - n : Nat) : Int), V.int ((y2.2.1 + max n y2.1 - y2.1 : Nat) : Int), V.int ((min (n + c) (y2.1 + y2.2.2) - max n y2.1 : Nat) : Int)] := by rw [q1, q2, q3]
              exact ((Tups.mut (hp3 _)) _ _ upd_same).trans (congrArg (fun l => some (HO.tup l)) q4)
            · show ss.length - ((ix : Int) + 1).toNat < ss.length - ((ix : Int)).toNat
              omega
          · have ge2 := of_decide_eq_false hb2
            have ho : ∀ j x, ix ≤ j → ss[j]? = some x → n + c ≤ x.1 := ?_
            · exact ⟨sm2, k, ws2, _, _, _, _, _, _, rfl, hp2, (out ho).1, (out ho).2⟩
            intro j x hj hx
            by_cases e : j = ix
            · rw [e, hy2] at hx
              have e := Option.some.inj hx
              rw [← e]
              omega
            · have := (as.get hy2 hx (by omega)).1
              omega
        · have ho : ∀ j x, ix ≤ j → ss[j]? = some x → n + c ≤ x.1 := fun j x hj hx => by
            have := (List.getElem?_eq_some_iff.mp hx).1
            omega
          refine ⟨false, fun Q q => ?_, fun z => (nomatch z), fun _ => ⟨sm2, k, ws2, _, _, _, _, _, _, rfl, hp2, (out ho).1, (out ho).2⟩⟩
          · refine ⟨_, rfl, _, rfl, b, vs, rfl, .inr (SqT.of (sm2 _ _ hb)), _, _, rfl, rfl, _, rfl, ite2 (fun z => ?_) (fun _ => q)⟩
            have := of_decide_eq_true z
            omega
    · rintro σ H1 ⟨sm, k, ws, y4, y5, y6, y7, y8, y9, rfl, hp, hw, hk⟩
      rw [lu, List.take_length] at hw
      exact ⟨_, rfl, q p _ sm np ⟨ws, hp, hw⟩⟩

/-! ### the carry of one edit -/
def spOne (C : Addr) : Sp := fun vs H Q _ => ∃ (mid a b m : Nat), vs = [.int (mid : Int), .int (a : Int), .int (b : Int), .int (m : Int)] ∧ a ≤ b ∧ b ≤ mid ∧
  ∀ p H', Same H H' → H p = none → CarryR C H' p mid (mid - b + a + m) (joinedL (pieces mid a b m)) → Q (.ref p) H'
theorem ok_carry_of_one (T : Txt K mg) : FnOk P w K mg base CX0 3 T.a_carry_of_one T.fd_carry_of_one ["length", "start", "end", "count"] (spOne T.C_Carry) := by
  have G_joined_runs : FnOk P w K mg base CX0 1 T.a_joined_runs T.fd_joined_runs ["pieces"] spJoined := ok_joined T
  have G_Carry_init : FnOk P w K mg base CX0 1 T.a_Carry_init T.fd_Carry_init ["self", "old", "new", "runs"] (spCInit T.C_Carry) := ok_Carry_init T
  refine T.F_carry_of_one.ok sc_carry_of_one (fun vs H Q E h => ?_) (fun cdv A outer s H vs Q E hr h => ?_)
  · obtain ⟨mid, a, b, m, rfl, _⟩ := h
    rfl
  · have hr_joined_runs : Room 1 _ := hr.mono (by decide)
    have hr_Carry_init : Room 2 _ := hr
    obtain ⟨mid, a, b, m, rfl, hab, hbm, q⟩ := h
    refine ⟨_, (pss_cons (ps_set (i := 4) sc_carry_of_one.nd rfl (.inl rfl) (pe_op op_add (pv 1) (pv 3)))
      (pss_cons (ps_set (i := 5) sc_carry_of_one.nd rfl (.inl rfl) (pe_lst (pa_cons (pe_tup (pa_cons pe_int (pa_cons pe_int (pa_cons (pv 1) pa_nil)))) (pa_cons (pe_tup (pa_cons (pv 2) (pa_cons (pv 4) (pa_cons (pe_op op_sub (pe_op op_add (pv 0) pe_int) (pv 2)) pa_nil)))) pa_nil))))
      (pss_one (ps_ret (pe_make T.MK_Carry G_Carry_init hr_Carry_init (by rfl) T.G_Carry T.b_Carry_init .nil pass0 (pa_cons (pv 0) (pa_cons (pe_op op_add (pe_op op_sub (pv 0) (pv 2)) (pv 4)) (pa_cons (pe_call G_joined_runs hr_joined_runs (by rfl) T.g_joined_runs T.F_joined_runs.kp T.b_joined_runs .nil pass0 (pa_cons (pe_lc (own := [("piece", 6)]) (g := gName 6) (by rfl) sc_carry_of_one.nd (pi_list (pv 5)) (blkOk_by (own := [("piece", 6)]) (N := ["length", "start", "end", "count", "behind", "pieces", "piece"]) (sc := defScope s_carry_of_one) (by decide +kernel)) (fun _ _ _ _ _ => pg_name (i := 6) sc_carry_of_one.nd rfl (Or.inl rfl)) (fun _ _ _ _ _ => (pts_one (pt_cmpR op_gt (pe_ix (ix_tupK (K := K) rfl) (pv 6) pe_int (fun _ _ => rfl)) pe_int (nomark _)))) (fun _ _ _ _ _ => (pv 6))) pa_nil)) pa_nil)))))))), ?_⟩
    refine ⟨_, rfl, _, rfl, _, _, rfl, rfl, ?_⟩
    refine ⟨_, rfl, by show 3 ≤ sizeLine; decide, fun t1 n1 => ?_⟩
    refine ⟨_, rfl, _, rfl, _, rfl, _, 1, rfl, rfl, _, rfl, _, _, rfl, rfl, by show 3 ≤ sizeLine; decide, fun t2 n2 => ?_⟩
    refine ⟨by show 2 ≤ sizeLine; decide, fun l nl => ?_⟩
    have s1 := ((same_upd n1).trans (same_upd n2)).trans (same_upd (o := .lst [.ref t1, .ref t2]) nl)
    have e1 : ((mid : Int) + 1 - (b : Int)) = ((mid + 1 - b : Nat) : Int) := by omega
    have e2 : ((a : Int) + (m : Int)) = ((a + m : Nat) : Int) := by omega
    have e3 : ((mid : Int) - (b : Int) + ((a : Int) + (m : Int))) = ((mid - b + a + m : Nat) : Int) := by omega
    have k1 : upd (upd (upd H t1 (.tup [.int 0, .int 0, .int (a : Int)])) t2 (.tup [.int (b : Int), .int ((a : Int) + (m : Int)), .int ((mid : Int) + 1 - (b : Int))])) l (.lst [.ref t1, .ref t2]) t1 = some (.tup [.int 0, .int 0, .int (a : Int)]) := by
      have h2 : t1 ≠ t2 := fun z => by rw [← z, upd_same] at n2; cases n2
      have h3 : t1 ≠ l := fun z => by rw [← z, upd_ne h2, upd_same] at nl; cases nl
      rw [upd_ne h3, upd_ne h2, upd_same]
    have k2 : upd (upd (upd H t1 (.tup [.int 0, .int 0, .int (a : Int)])) t2 (.tup [.int (b : Int), .int ((a : Int) + (m : Int)), .int ((mid : Int) + 1 - (b : Int))])) l (.lst [.ref t1, .ref t2]) t2 = some (.tup [.int (b : Int), .int ((a + m : Nat) : Int), .int ((mid + 1 - b : Nat) : Int)]) := by
      have h3 : t2 ≠ l := fun z => by rw [← z, upd_same] at nl; cases nl
      rw [upd_ne h3, upd_same, e1, e2]
    obtain ⟨H1, hH1⟩ : ∃ H1, H1 = upd (upd (upd H t1 (.tup [.int 0, .int 0, .int (a : Int)])) t2 (.tup [.int (b : Int), .int ((a : Int) + (m : Int)), .int ((mid : Int) + 1 - (b : Int))])) l (.lst [.ref t1, .ref t2]) := ⟨_, rfl⟩
    have k3 : H1 l = some (.lst [.ref t1, .ref t2]) := by rw [hH1]; exact upd_same
    have hu : RnsIn H1 [.ref t1, .ref t2] [(0, 0, a), (b, a + m, mid + 1 - b)] := by rw [hH1]; exact .cons ⟨t1, rfl, k1⟩ (.cons ⟨t2, rfl, k2⟩ .nil)
    have s1 : Same H H1 := by rw [hH1]; exact s1
    refine ⟨_, rfl, _, rfl, _, rfl, _, _, rfl, rfl, _, rfl, _, _, rfl, rfl, ?_⟩
    refine ⟨_, rfl, l, rfl, ⟨[.ref t1, .ref t2], SqL.of upd_same⟩, fun D nD => ?_⟩
    rw [← hH1]
    rw [← hH1] at nD
    refine lc_list (K := K) (a := l) (xs := [.ref t1, .ref t2]) (fun i H' => Same H1 H' ∧ ∃ acc, H' D = some (.lst acc) ∧ RnsIn H' acc ((([(0, 0, a), (b, a + m, mid + 1 - b)] : List Rn).take i).filter fun r => decide (0 < r.2.2))) ⟨same_upd nD, [], upd_same, .nil⟩ (fun i H' _ ⟨s, _⟩ => SqL.of (s _ _ k3)) ?_ ?_
    · rintro i x H2 hx ⟨sm, acc, hD, hacc⟩
      obtain ⟨e, he⟩ : ∃ e, ([(0, 0, a), (b, a + m, mid + 1 - b)] : List Rn)[i]? = some e := ⟨_, List.getElem?_eq_getElem (by rw [← paired_len hu]; exact (List.getElem?_eq_some_iff.mp hx).1)⟩
      obtain ⟨x', hx', t, rfl, ht0⟩ := paired_get hu he
      rw [hx] at hx'
      have h1 := Option.some.inj hx'
      subst h1
      have ht := sm _ _ ht0
      have lacc := paired_len hacc
      have lf := List.length_filter_le (fun r : Rn => decide (0 < r.2.2)) (([(0, 0, a), (b, a + m, mid + 1 - b)] : List Rn).take i)
      have lt : (([(0, 0, a), (b, a + m, mid + 1 - b)] : List Rn).take i).length ≤ 2 := by rw [List.length_take]; exact Nat.min_le_right _ _
      refine ⟨rfl, _, rfl, t, _, 2, .int (e.2.2 : Int), rfl, rfl, SqT.of ht, tup3 2 rfl, _, 0, rfl, rfl, _, rfl, ?_⟩
      rw [take_more he, List.filter_append]
      refine ite2 (fun c => ?_) (fun c => ?_)
      · have c1 := of_decide_eq_true c
        have fe : ([e] : List Rn).filter (fun r => decide (0 < r.2.2)) = [e] := by
          rw [List.filter_cons, if_pos (decide_eq_true (by omega))]
          rfl
        rw [fe]
        refine ⟨_, rfl, acc, hD, sz2 (by omega), same_mut sm nD, _, upd_same, ?_⟩
        exact paired_app (hacc.mono (Tups.mut hD)) (.cons ⟨t, rfl, (Tups.mut hD) _ _ ht⟩ .nil)
      · have fe : ([e] : List Rn).filter (fun r => decide (0 < r.2.2)) = [] := by
          rw [List.filter_cons, if_neg (fun z => c (decide_eq_true (by have := of_decide_eq_true z; omega)))]
          rfl
        rw [fe, List.append_nil]
        exact ⟨sm, acc, hD, hacc⟩
    · rintro H2 ⟨sm, acc, hD, hacc⟩
      have nD0 : H D = none := by
        cases e : H D with
        | none => rfl
        | some o =>
          rw [s1 _ _ e] at nD
          cases nD
      have lp : (pieces mid a b m).length ≤ 2 := List.length_filter_le _ _
      refine ⟨D, pieces mid a b m, rfl, ⟨acc, hD, hacc⟩, by omega, fun t H3 s3 nt ht => ?_⟩
      intro x dx nx ndx nxd
      have s4 := s1.trans (sm.trans s3)
      have ms := made_same (C := T.C_Carry) (fs := cfl (mid : Int) ((mid - b + a + m : Nat) : Int) t) nx ndx
      refine ⟨x, dx, t, _, _, rfl, upd_same, rfl, ?_⟩
      rw [upd_upd, e3]
      refine q x _ (s4.trans ms) (s4.free nx) ⟨t, ⟨dx, upd_same⟩, ht.mono (same_tups ms)⟩

/-! ### first + second -/
theorem canon_asc {old : Nat} {t : List Int} (h : Tagged old t) : AscR (canon (tp 0 t)) := asc_of (by rw [pairsOf_canon]; exact h.up) (canon_pos _)
theorem canon_len (t : List Int) : (canon (tp 0 t)).length ≤ t.length := by
  have h1 := len_pairs (canon_pos (tp 0 t))
  rw [pairsOf_canon] at h1
  exact Nat.le_trans h1 (tp_len 0 t)
theorem through_len {old mid : Nat} {t u : List Int} (h : Tagged old t) (g : Tagged mid u) : (throughL (canon (tp 0 t)) (canon (tp 0 u))).length ≤ u.length := by
  have h1 := len_pairs (ps := throughL (canon (tp 0 t)) (canon (tp 0 u))) throughL_pos
  rw [through_comp h g] at h1
  have h2 := tp_len 0 (compT t u)
  rw [compT_len] at h2
  omega
theorem reaches {old mid : Nat} {t u : List Int} (h : Tagged old t) (hl : t.length = mid + 1) (g : Tagged mid u) : ∀ r ∈ canon (tp 0 t), ∃ s ∈ canon (tp 0 u), r.2.1 < s.1 + s.2.2 := fun r hr => by
  have pr := canon_pos _ r hr
  have h1 : (r.1, r.2.1) ∈ pairsOf (canon (tp 0 t)) := mem_pairsOf.mpr ⟨r, hr, mem_pairs1.mpr ⟨Nat.le_refl _, by simp only; omega, by simp only; omega⟩⟩
  rw [pairsOf_canon] at h1
  have h2 := (h.le h1).2
  have h3 := g.mem_last
  rw [← pairsOf_canon (tp 0 u)] at h3
  obtain ⟨s, hs, h4⟩ := mem_pairsOf.mp h3
  have h5 := mem_pairs1.mp h4
  refine ⟨s, hs, ?_⟩
  simp only at h2 h5
  omega
def spAdd (C : Addr) : Sp := fun vs H Q _ => ∃ (p q : Addr) (old mid mid2 new : Nat) (t u : List Int), vs = [.ref p, .ref q] ∧ CarryR C H p old mid2 (canon (tp 0 t)) ∧ (∃ b, CarryR C H q b new (canon (tp 0 u))) ∧ Tagged old t ∧ t.length = mid + 1 ∧ Tagged mid u ∧ t.length ≤ 4000000 ∧ u.length ≤ 4000000 ∧
  ∀ x H', Same H H' → H x = none → CarryR C H' x old new (canon (tp 0 (compT t u))) → Q (.ref x) H'
theorem ok_Carry___add__ (T : Txt K mg) : FnOk P w K mg base CX0 3 T.a_Carry___add__ T.fd_Carry___add__ ["self", "other"] (spAdd T.C_Carry) := by
  have G_joined_runs : FnOk P w K mg base CX0 1 T.a_joined_runs T.fd_joined_runs ["pieces"] spJoined := ok_joined T
  have G_through : FnOk P w K mg base CX0 1 T.a_through T.fd_through ["first", "second"] spThrough := ok_through T
  have G_Carry_init : FnOk P w K mg base CX0 1 T.a_Carry_init T.fd_Carry_init ["self", "old", "new", "runs"] (spCInit T.C_Carry) := ok_Carry_init T
  refine T.F_Carry___add__.ok sc_Carry___add__ (fun vs H Q E h => ?_) (fun cdv A outer s H vs Q E hr h => ?_)
  · obtain ⟨p, q, old, mid, mid2, new, t, u, rfl, _⟩ := h
    rfl
  · have hr_joined_runs : Room 1 _ := hr.mono (by decide)
    have hr_through : Room 1 _ := hr.mono (by decide)
    have hr_Carry_init : Room 2 _ := hr
    obtain ⟨p, q', old, mid, mid2, new, t, u, rfl, ⟨t1, ⟨dx1, h1⟩, hr1⟩, ⟨b2, t2, ⟨dx2, h2⟩, hr2⟩, ht, hl, hu, l1, l2, q⟩ := h
    refine ⟨_, (pss_one (ps_ret (pe_make T.MK_Carry G_Carry_init hr_Carry_init (by rfl) T.G_Carry T.b_Carry_init .nil pass0 (pa_cons (pe_fld (pv 0) rfl) (pa_cons (pe_fld (pv 1) rfl) (pa_cons (pe_call G_joined_runs hr_joined_runs (by rfl) T.g_joined_runs T.F_joined_runs.kp T.b_joined_runs .nil pass0 (pa_cons (pe_call G_through hr_through (by rfl) T.g_through T.F_through.kp T.b_through .nil pass0 (pa_cons (pe_fld (pv 0) rfl) (pa_cons (pe_fld (pv 1) rfl) pa_nil))) pa_nil)) pa_nil)))))), ?_⟩
    refine ⟨_, rfl, p, T.C_Carry, dx1, _, _, rfl, h1, T.CL_Carry, T.NA_Carry_old, cfl_old _ _ _, ?_⟩
    refine ⟨_, rfl, q', T.C_Carry, dx2, _, _, rfl, h2, T.CL_Carry, T.NA_Carry_new, cfl_new _ _ _, ?_⟩
    refine ⟨_, rfl, p, T.C_Carry, dx1, _, _, rfl, h1, T.CL_Carry, T.NA_Carry_runs, cfl_runs _ _ _, ?_⟩
    refine ⟨_, rfl, q', T.C_Carry, dx2, _, _, rfl, h2, T.CL_Carry, T.NA_Carry_runs, cfl_runs _ _ _, ?_⟩
    have tl := through_len ht hu
    refine ⟨t1, t2, _, _, rfl, hr1, hr2, canon_asc ht, canon_pos _, canon_asc hu, canon_pos _, reaches ht hl hu, Nat.le_trans (canon_len u) l2, by omega, fun l H1 s1 nl hL => ?_⟩
    refine ⟨l, _, rfl, hL, by omega, fun t3 H2 s2 nt3 hT => ?_⟩
    intro x dx nx ndx nxd
    have s3 := s1.trans s2
    have ms := made_same (C := T.C_Carry) (fs := cfl (old : Int) (new : Int) t3) nx ndx
    refine ⟨x, dx, t3, _, _, rfl, upd_same, rfl, ?_⟩
    rw [upd_upd]
    rw [sum_runs ht hu] at hT
    exact q x _ (s3.trans ms) (s3.free nx) ⟨t3, ⟨dx, upd_same⟩, hT.mono (same_tups ms)⟩
/-! ### carry_of -/
def tagsE (n : Nat) (es : List Ed) : List Int := applG tagW (upTo (n + 1)) es
theorem upTo_stay (n : Nat) : upTo n = stay 0 n := by
  unfold upTo stay
  refine List.map_congr_left fun k _ => ?_
  rw [Nat.zero_add]
theorem tagsE_snoc (n : Nat) (es : List Ed) (e : Ed) : tagsE n (es ++ [e]) = (tagsE n es).take e.1.toNat ++ List.replicate e.len (-1) ++ (tagsE n es).drop e.2.1.toNat := by
  unfold tagsE
  rw [applG_snoc]
  show (applG tagW (upTo (n + 1)) es).take e.1.toNat ++ tagW e.2.2 ++ (applG tagW (upTo (n + 1)) es).drop e.2.1.toNat = _
  rw [tagW_rep]
theorem tags_tagged {n : Nat} : ∀ {es : List Ed}, fitsL n es → Tagged n (tagsE n es) ∧ (tagsE n es).length = sizeL n es + 1 := by
  intro es
  induction es using rev_ind with
  | h0 =>
    intro _
    have e : tagsE n [] = stay 0 (n + 1) := upTo_stay (n + 1)
    rw [e, stay_len]
    exact ⟨whole_tagged n, rfl⟩
  | h1 es e ih =>
    intro h
    obtain ⟨h1, h2⟩ := (fitsL_snoc _ _ _).mp h
    obtain ⟨i1, i2⟩ := ih h1
    obtain ⟨a1, a2, a3⟩ := h2
    have g := i1.edit (mid := sizeL n es) (a := e.1.toNat) (b := e.2.1.toNat) e.len i2 (by omega) (by omega)
    rw [tagsE_snoc, sizeL_snoc]
    refine ⟨g.1, ?_⟩
    rw [g.2.2]
    unfold size1
    omega
theorem tags_one {n a b : Nat} {es : List Ed} {e : Ed} (h : fitsL n es) (e1 : e.1 = (a : Int)) (e2 : e.2.1 = (b : Int)) (h1 : a ≤ b) (h2 : b ≤ sizeL n es) : compT (tagsE n es) (oneT (sizeL n es) a b e.len) = tagsE n (es ++ [e]) := by
  obtain ⟨i1, i2⟩ := tags_tagged h
  rw [tagsE_snoc, compT_one i2 h1 h2, e1, e2]
  rfl
def spCarryOf (C CE : Addr) : Sp := fun vs H Q E => ∃ (n : Nat) (l : Addr) (es : List Ed), vs = [.int (n : Int), .ref l] ∧ EdsAt H l es ∧ Sized es ∧ es.length ≤ 2000 ∧ (∀ k, fitsL n (es.take k) → sizeL n (es.take k) ≤ 3000000) ∧
  (fitsL n es → ∀ p H', Same H H' → H p = none → CarryR C H' p n (sizeL n es) (canon (tp 0 (tagsE n es))) → Q (.ref p) H') ∧ (∀ k, unfit n es = some k → ErrAt CE H E k)
theorem ok_carry_of (T : Txt K mg) : FnOk P w K mg base (L2.CX P w) 5 T.a_carry_of T.fd_carry_of ["length", "edits"] (spCarryOf T.C_Carry T.C_EditError) := by
  have G_check_fits : FnOk P w K mg base (L2.CX P w) 4 T.a_check_fits T.fd_check_fits ["length", "edits"] (spCheck T.C_EditError) := ok_check_fits T
  have G_Carry_init : FnOk P w K mg base CX0 1 T.a_Carry_init T.fd_Carry_init ["self", "old", "new", "runs"] (spCInit T.C_Carry) := ok_Carry_init T
  have G_Carry___add__ : FnOk P w K mg base CX0 3 T.a_Carry___add__ T.fd_Carry___add__ ["self", "other"] (spAdd T.C_Carry) := ok_Carry___add__ T
  have G_carry_of_one : FnOk P w K mg base CX0 3 T.a_carry_of_one T.fd_carry_of_one ["length", "start", "end", "count"] (spOne T.C_Carry) := ok_carry_of_one T
  refine T.F_carry_of.okX sc_carry_of (fun vs H Q E h => ?_) (fun cdv A outer s H vs Q E hr h => ?_)
  · obtain ⟨n, l, es, rfl, _⟩ := h
    rfl
  · have hr_check_fits : Room 4 _ := hr
    have hr_Carry_init : Room 2 _ := hr.mono (by decide)
    have hr_Carry___add__ : Room 3 _ := hr.mono (by decide)
    have hr_carry_of_one : Room 3 _ := hr.mono (by decide)
    obtain ⟨n, l, es, rfl, hE, hS, hn, hz, q1, q2⟩ := h
    refine ⟨_, (pss_cons (ps_expr (pe_call G_check_fits hr_check_fits (by rfl) T.g_check_fits T.F_check_fits.kp T.b_check_fits .nil (passes_call (takes_of rfl rfl rfl rfl) (fun _ _ _ _ z => z)) (pa_cons (pv 0) (pa_cons (pv 1) pa_nil))))
      (pss_cons (ps_set (i := 2) sc_carry_of.nd rfl (.inl rfl) (pe_make T.MK_Carry G_Carry_init hr_Carry_init (by rfl) T.G_Carry T.b_Carry_init .nil pass0 (pa_cons (pv 0) (pa_cons (pv 0) (pa_cons (pe_tup (pa_cons (pe_tup (pa_cons pe_int (pa_cons pe_int (pa_cons (pe_op op_add (pv 0) pe_int) pa_nil)))) pa_nil)) pa_nil)))))
      (pss_cons (ps_for (passes_of rfl) rfl (pi_list (pv 1)) (pg_tup (by rfl) (pgs_cons (pg_name (i := 3) sc_carry_of.nd rfl (.inl rfl)) (pgs_cons (pg_name (i := 4) sc_carry_of.nd rfl (.inl rfl)) (pgs_cons (pg_name (i := 5) sc_carry_of.nd rfl (.inl rfl)) pgs_nil)))) (pss_one (ps_set (i := 2) sc_carry_of.nd rfl (.inl rfl) (pe_op (OwnOp.op_own (op := .Add) T.ME_Carry__add__.at_ T.ME_Carry__add__.fn T.SF_Carry G_Carry___add__ hr_Carry___add__ T.b_Carry___add__ pass0) (pv 2) (pe_call G_carry_of_one hr_carry_of_one (by rfl) T.g_carry_of_one T.F_carry_of_one.kp T.b_carry_of_one .nil pass0 (pa_cons (pe_fld (pv 2) rfl) (pa_cons (pv 3) (pa_cons (pv 4) (pa_cons (pe_callB call_len_str (by rfl) T.m_len PySem.boot_len (pa_cons (pv 5) pa_nil)) pa_nil)))))))))
      (pss_one (ps_ret (pv 2)))))), ?_⟩
    refine ⟨_, rfl, _, rfl, n, l, es, rfl, hE, hS, hn, fun hf H1 s1 => ?_, fun k hk => q2 k hk⟩
    obtain ⟨us, hus, hue⟩ := id hE
    have lu := paired_len hue
    -- carry = Carry(length, length, ((0, 0, length + 1),))
    refine ⟨_, rfl, _, rfl, _, rfl, _, 1, rfl, rfl, by show 3 ≤ sizeLine; decide, fun t1 n1 => ⟨by show 1 ≤ sizeLine; decide, fun t2 n2 => ?_⟩⟩
    intro x dx nx ndx nxd
    have ms := made_same (C := T.C_Carry) (fs := cfl (n : Int) (n : Int) t2) nx ndx
    have s2 := (same_upd n1).trans (same_upd (o := .tup [.ref t1]) n2)
    refine ⟨x, dx, t2, _, _, rfl, upd_same, rfl, ?_⟩
    rw [upd_upd]
    have s3 := s1.trans (s2.trans ms)
    have c0 : CarryR T.C_Carry (upd (upd (upd (upd H1 t1 (.tup [.int 0, .int 0, .int ((n : Int) + 1)])) t2 (.tup [.ref t1])) dx (.own x)) x (.ins T.C_Carry dx (cfl (n : Int) (n : Int) t2))) x n (sizeL n (es.take 0)) (canon (tp 0 (tagsE n (es.take 0)))) := by
      have e : tagsE n (es.take 0) = stay 0 (n + 1) := upTo_stay (n + 1)
      rw [e, ← whole_runs]
      refine ⟨t2, ⟨dx, upd_same⟩, [.ref t1], ms _ _ upd_same, .cons ⟨t1, rfl, ?_⟩ .nil⟩
      have h12 : t1 ≠ t2 := fun z => by rw [← z, upd_same] at n2; cases n2
      refine ms _ _ ?_
      rw [upd_ne h12, upd_same]
      rfl
    refine ⟨_, rfl, l, rfl, ⟨_, SqL.of (s3 _ _ hus)⟩, ?_⟩
    refine for_list (K := K) (a := l) (xs := us) (fun i σ H' => Same H H' ∧ ∃ (p : Addr) (y3 y4 y5 : Option V), σ = [some (.int (n : Int)), some (.ref l), some (.ref p), y3, y4, y5] ∧ H p = none ∧ CarryR T.C_Carry H' p n (sizeL n (es.take i)) (canon (tp 0 (tagsE n (es.take i)))))
      ⟨s3, x, none, none, none, rfl, (s1.trans s2).free nx, c0⟩ (fun i σ H' _ ⟨s, _⟩ => SqL.of (s _ _ hus)) ?_ ?_
    · rintro i y σ H2 hx ⟨sm, p, y3, y4, y5, rfl, np, hC⟩
      obtain ⟨e, he⟩ : ∃ e, es[i]? = some e := ⟨_, List.getElem?_eq_getElem (by rw [← lu]; exact (List.getElem?_eq_some_iff.mp hx).1)⟩
      obtain ⟨x', hx', t, rfl, ht0⟩ := paired_get hue he
      rw [hx] at hx'
      have h1 := Option.some.inj hx'
      subst h1
      have ht := sm _ _ ht0
      have hf1 := fitsL_get hf he
      have hfi := fitsL_take i hf
      obtain ⟨a, b, hab, h2, h3⟩ := fit_nat hf1
      have a1 : e.1 = (a : Int) := by rw [hab]
      have a2 : e.2.1 = (b : Int) := by rw [hab]
      rw [a1, a2] at ht
      have z1 := hz i hfi
      have z2 := hz (i + 1) (fitsL_take _ hf)
      rw [take_more he, sizeL_snoc] at z2
      have z3 : sizeL n (es.take i) - b + a + e.len ≤ 3000000 := by
        unfold size1 at z2
        rw [a1, a2, Int.toNat_natCast, Int.toNat_natCast] at z2
        omega
      obtain ⟨tg, tl⟩ := tags_tagged hfi
      obtain ⟨tc, ⟨dc, hc⟩, hcr⟩ := id hC
      refine ⟨t, _, rfl, SqT.of ht, rfl, _, _, rfl, _, _, rfl, _, _, rfl, rfl, ?_⟩
      refine ⟨_, rfl, _, rfl, p, T.C_Carry, dc, _, _, rfl, hc, T.CL_Carry, T.NA_Carry_new, cfl_new _ _ _, _, rfl, _, rfl, _, rfl, e.2.2, rfl, szM (by rw [len_cs]; exact (hS e (List.mem_of_getElem? he)).1), ?_⟩
      refine ⟨sizeL n (es.take i), a, b, e.len, by rw [len_cs]; rfl, h2, h3, fun p1 H3 s4 np1 hC1 => ?_⟩
      obtain ⟨tc1, ⟨dc1, hc1⟩, hcr1⟩ := id hC1
      refine ⟨p, p1, _, _, _, _, rfl, rfl, s4 _ _ hc, hc1, ?_⟩
      rw [pieces_runs] at hC1
      refine ⟨p, p1, n, sizeL n (es.take i), _, _, tagsE n (es.take i), oneT (sizeL n (es.take i)) a b e.len, rfl, hC.same s4, ⟨_, hC1⟩, tg, tl, one_tagged h2 h3, by omega, by rw [oneT_len]; omega, fun x2 H4 s5 nx2 hC2 => ?_⟩
      rw [tags_one hfi a1 a2 h2 h3, ← take_more he] at hC2
      have e5 : sizeL n (es.take i) - b + a + e.len = sizeL n (es.take (i + 1)) := by
        rw [take_more he, sizeL_snoc]
        unfold size1
        rw [a1, a2, Int.toNat_natCast, Int.toNat_natCast]
        omega
      rw [e5] at hC2
      exact ⟨sm.trans (s4.trans s5), x2, _, _, _, rfl, (sm.trans s4).free nx2, hC2⟩
    · rintro σ H2 ⟨sm, p, y3, y4, y5, rfl, np, hC⟩
      rw [lu, List.take_length] at hC
      exact ⟨_, rfl, q1 hf p _ sm np hC⟩

/-! ### the runs of a row of tags, by the law -/
theorem ints_get {ts : List Int} {i : Nat} {x : Int} (h : ts[i]? = some x) : (ts.map V.int)[i]? = some (.int x) := by
  rw [List.getElem?_map, h]
  rfl
def spRuns : Sp := fun vs H Q _ => ∃ (l : Addr) (ts : List Int), vs = [.ref l] ∧ H l = some (.lst (ts.map V.int)) ∧ ts.length ≤ 4000000 ∧ ∀ t H', Same H H' → H t = none → RnsT H' t (canon (tp 0 ts)) → Q (.ref t) H'
theorem ok_law_runs (T : Txt K mg) : FnOk P w K mg base CX0 1 T.a_law_runs T.fd_law_runs ["tags"] spRuns := by
  refine T.F_law_runs.ok sc_law_runs (fun vs H Q E h => ?_) (fun cdv A outer s H vs Q E hr h => ?_)
  · obtain ⟨l, ts, rfl, _⟩ := h
    rfl
  · obtain ⟨l, ts, rfl, hl, hn, q⟩ := h
    refine ⟨_, (pss_cons (ps_set (i := 1) sc_law_runs.nd rfl (.inl rfl) (pe_lst pa_nil))
      (pss_cons (ps_for PassesOwn.never rfl (pi_range1 (by rfl) T.m_range (pa_cons (pe_callB call_len_seq (by rfl) T.m_len PySem.boot_len (pa_cons (pv 0) pa_nil)) pa_nil)) (pg_name (i := 2) sc_law_runs.nd rfl (.inl rfl)) (pss_one (ps_if (pt_cmpR op_ge (pe_ix ix_list (pv 0) (pv 2) (fun _ _ => rfl)) pe_int (nomark _)) (pss_one (ps_if (PW.pt (pw_and (pt_truth (pv 1) (by intro _; rfl)) (pw_and (pt_cmpR op_eq (pe_op op_add (pe_ix ix_tup (pe_ix ix_list (pv 1) (pe_un un_neg pe_int) (fun _ _ => rfl)) pe_int (fun _ _ => rfl)) (pe_ix ix_tup (pe_ix ix_list (pv 1) (pe_un un_neg pe_int) (fun _ _ => rfl)) pe_int (fun _ _ => rfl))) (pe_ix ix_list (pv 0) (pv 2) (fun _ _ => rfl)) (nomark _)) (pw_and1 (pt_cmpR op_eq (pe_op op_add (pe_ix ix_tup (pe_ix ix_list (pv 1) (pe_un un_neg pe_int) (fun _ _ => rfl)) pe_int (fun _ _ => rfl)) (pe_ix ix_tup (pe_ix ix_list (pv 1) (pe_un un_neg pe_int) (fun _ _ => rfl)) pe_int (fun _ _ => rfl))) (pv 2) (nomark _)))))) (pss_cons (ps_set (i := 3) sc_law_runs.nd rfl (.inl rfl) (pe_bm0 PySem.F.plainAttrs_list PySem.F.slot_list_pop PySem.F.type_list_pop mt_pop (pv 1)))
      (pss_one (ps_expr (pe_bm PySem.F.plainAttrs_list PySem.F.slot_list_append PySem.F.type_list_append mt_append (pv 1) (pa_cons (pe_tup (pa_cons (pe_ix ix_tup (pv 3) pe_int (fun _ _ => rfl)) (pa_cons (pe_ix ix_tup (pv 3) pe_int (fun _ _ => rfl)) (pa_cons (pe_op op_add (pe_ix ix_tup (pv 3) pe_int (fun _ _ => rfl)) pe_int) pa_nil)))) pa_nil))))) (pss_one (ps_expr (pe_bm PySem.F.plainAttrs_list PySem.F.slot_list_append PySem.F.type_list_append mt_append (pv 1) (pa_cons (pe_tup (pa_cons (pe_ix ix_list (pv 0) (pv 2) (fun _ _ => rfl)) (pa_cons (pv 2) (pa_cons pe_int pa_nil)))) pa_nil)))))) pss_nil)))
      (pss_one (ps_ret (pe_callTy call_tuple_of (by rfl) T.m_tuple (by decide +kernel) (pa_cons (pv 1) pa_nil)))))), ?_⟩
    refine ⟨Nat.zero_le _, fun p np => ?_⟩
    have s0 : Same H (upd H p (.lst [])) := same_upd np
    refine ⟨_, rfl, l, _, rfl, .inl (SqL.of (s0 _ _ hl)), _, rfl, by omega, by rw [List.length_map]; omega, ?_⟩
    rw [List.length_map]
    refine for_range (lo := 0) (n := ((ts.length : Int)).toNat) (fun i σ H' => Same H H' ∧ ∃ (ws : List V) (y2 y3 : Option V), σ = [some (.ref l), some (.ref p), y2, y3] ∧ H' p = some (.lst ws) ∧ RnsIn H' ws (((tp 0 (ts.take i)).map one1).foldl joinR []).reverse)
      ⟨s0, [], none, none, rfl, upd_same, .nil⟩ ?_ ?_
    · rintro i σ H1 hi ⟨sm, ws, y2, y3, rfl, hp, hw⟩
      have hi' : i < ts.length := by omega
      obtain ⟨x, hx⟩ : ∃ x, ts[i]? = some x := ⟨_, List.getElem?_eq_getElem hi'⟩
      have ei : (0 : Int) + (i : Int) = (i : Int) := by omega
      rw [ei]
      have lw := paired_len hw
      rw [List.length_reverse] at lw
      have lj := joinF_len ((tp 0 (ts.take i)).map one1) []
      have lt := tp_len 0 (ts.take i)
      rw [List.length_take] at lt
      rw [List.length_map] at lj
      have lz : ([] : List Rn).length = 0 := rfl
      have ti : tp 0 (ts.take (i + 1)) = tp 0 (ts.take i) ++ (if 0 ≤ x then [(x.toNat, i)] else []) := by
        have e : (ts.take i).length = i := by rw [List.length_take]; omega
        rw [take_more hx, tp_snoc, e, Nat.zero_add]
      have at1 := sm _ _ hl
      refine ⟨_, rfl, _, rfl, l, _, _, _, rfl, rfl, SqL.of at1, atI_nat (ints_get hx), _, 0, rfl, rfl, _, rfl, ite2 (fun c => ?_) (fun c => ?_)⟩
      · have c0 : 0 ≤ x := of_decide_eq_true c
        obtain ⟨n, rfl⟩ : ∃ n : Nat, x = (n : Int) := ⟨x.toNat, by omega⟩
        rw [if_pos c0, Int.toNat_natCast] at ti
        have e0 : ((tp 0 (ts.take (i + 1))).map one1).foldl joinR [] = joinR (((tp 0 (ts.take i)).map one1).foldl joinR []) (n, i, 1) := by
          rw [ti, List.map_append, List.foldl_append]
          rfl
        have fin : ∀ (j : List Rn) (a : Addr) (xs : List V) (r : Rn) (o : HO), joinR (((tp 0 (ts.take i)).map one1).foldl joinR []) (n, i, 1) = r :: j → H1 a = none → o = .tup [.int (r.1 : Int), .int (r.2.1 : Int), .int (r.2.2 : Int)] → RnsIn H1 xs j.reverse → ∀ H2, H2 p = some (.lst xs) → (∀ b u, b ≠ p → H1 b = some u → H2 b = some u) → H2 a = none →
            Same H (upd (upd H2 a o) p (.lst (xs ++ [.ref a]))) ∧ (upd (upd H2 a o) p (.lst (xs ++ [.ref a]))) p = some (.lst (xs ++ [.ref a])) ∧ RnsIn (upd (upd H2 a o) p (.lst (xs ++ [.ref a]))) (xs ++ [.ref a]) (((tp 0 (ts.take (i + 1))).map one1).foldl joinR []).reverse := fun j a xs r o hj na ho hxs H2 h2 hk na2 => by
          subst ho
          have hp2 : (upd H2 a (.tup [.int (r.1 : Int), .int (r.2.1 : Int), .int (r.2.2 : Int)])) p = some (.lst xs) := by rw [upd_ne (ne_of_none h2 na2)]; exact h2
          have sm2 : Same H H2 := fun b u e => hk b u (fun z => by rw [z, np] at e; cases e) (sm b u e)
          have t12 : Tups H1 H2 := fun b us e => hk b _ (fun z => by rw [z, hp] at e; cases e) e
          refine ⟨same_mut (sm2.trans (same_upd na2)) np, upd_same, ?_⟩
          rw [e0, hj, List.reverse_cons]
          have tt := (Tups.new (H := H2) (o := .tup [.int (r.1 : Int), .int (r.2.1 : Int), .int (r.2.2 : Int)]) na2).trans (Tups.mut (o := .lst (xs ++ [.ref a])) hp2)
          exact paired_app (hxs.mono (t12.trans tt)) (.cons ⟨a, rfl, (Tups.mut hp2) _ _ upd_same⟩ .nil)
        cases hacc : ((tp 0 (ts.take i)).map one1).foldl joinR [] with
        | nil =>
          rw [hacc] at hw
          cases hw
          refine ⟨_, rfl, false, .inl ⟨[], SqL.of hp, rfl⟩, iteF ?_⟩
          refine iteF ⟨_, rfl, .inl ⟨rfl, _, SqL.of hp⟩, _, rfl, _, rfl, l, _, _, _, rfl, rfl, SqL.of at1, atI_nat (ints_get hx), _, rfl, by show 3 ≤ sizeLine; decide, fun a na => ?_⟩
          obtain ⟨b1, b2, b3⟩ := fin [] a [] (n, i, 1) _ (by rw [hacc]; rfl) na rfl .nil H1 hp (fun _ _ _ e => e) na
          exact ⟨p, _, _, rfl, rfl, by rw [upd_ne (ne_of_none hp na)]; exact hp, by show 0 < sizeLine; decide, b1, _, _, _, rfl, b2, b3⟩
        | cons y acc =>
          obtain ⟨o1, n1, c1⟩ := y
          rw [hacc] at hw
          obtain ⟨ws', tl, rfl, hw', htl⟩ := rns_split hw
          have htl : H1 tl = some (.tup [.int (o1 : Int), .int (n1 : Int), .int (c1 : Int)]) := htl
          have e1 : joinR (((tp 0 (ts.take i)).map one1).foldl joinR []) (n, i, 1) = if o1 + c1 = n ∧ n1 + c1 = i then (o1, n1, c1 + 1) :: acc else (n, i, 1) :: (o1, n1, c1) :: acc := by rw [hacc]; rfl
          have lw2 : ws'.length + 1 ≤ 4000000 := by
            rw [List.length_append] at lw
            rw [hacc] at lw lj
            have l1 : ([V.ref tl] : List V).length = 1 := rfl
            omega
          have push : ¬ (o1 + c1 = n ∧ n1 + c1 = i) → ∀ a, H1 a = none → ∃ (l' : Addr) (xs : List V) (v : V), V.ref p = .ref l' ∧ [V.ref a] = [v] ∧ (upd H1 a (.tup [.int (n : Int), .int (i : Int), .int 1])) l' = some (.lst xs) ∧ xs.length < sizeLine ∧
              (Same H (upd (upd H1 a (.tup [.int (n : Int), .int (i : Int), .int 1])) l' (.lst (xs ++ [v]))) ∧ ∃ (ws : List V) (z2 z3 : Option V), [some (.ref l), some (.ref p), some (.int (i : Int)), y3] = [some (.ref l), some (.ref p), z2, z3] ∧
                (upd (upd H1 a (.tup [.int (n : Int), .int (i : Int), .int 1])) l' (.lst (xs ++ [v]))) p = some (.lst ws) ∧ RnsIn (upd (upd H1 a (.tup [.int (n : Int), .int (i : Int), .int 1])) l' (.lst (xs ++ [v]))) ws (((tp 0 (ts.take (i + 1))).map one1).foldl joinR []).reverse) := fun h a na => by
            obtain ⟨b1, b2, b3⟩ := fin ((o1, n1, c1) :: acc) a (ws' ++ [.ref tl]) (n, i, 1) _ (by rw [e1, if_neg h]) na rfl hw H1 hp (fun _ _ _ e => e) na
            exact ⟨p, _, _, rfl, rfl, by rw [upd_ne (ne_of_none hp na)]; exact hp, by rw [List.length_append]; exact Nat.lt_of_le_of_lt lw2 (by decide), b1, _, _, _, rfl, b2, b3⟩
          refine ⟨_, rfl, true, .inl ⟨_, SqL.of hp, by simp⟩, iteT ?_⟩
          refine ⟨_, rfl, 1, rfl, p, _, _, _, rfl, rfl, SqL.of hp, atI_last _ _, tl, _, 0, .int (o1 : Int), rfl, rfl, SqT.of htl, tup3 0 rfl, ?_⟩
          refine ⟨_, rfl, 1, rfl, p, _, _, _, rfl, rfl, SqL.of hp, atI_last _ _, tl, _, 2, .int (c1 : Int), rfl, rfl, SqT.of htl, tup3 2 rfl, _, _, rfl, rfl, ?_⟩
          refine ⟨_, rfl, _, rfl, l, _, _, _, rfl, rfl, SqL.of at1, atI_nat (ints_get hx), rfl, _, rfl, ite2 (fun c2 => ?_) (fun c2 => ?_)⟩
          · have d0 : o1 + c1 = n := by
              have : (o1 : Int) + (c1 : Int) = (n : Int) := V.int.inj (of_decide_eq_true c2)
              omega
            refine ⟨_, rfl, 1, rfl, p, _, _, _, rfl, rfl, SqL.of hp, atI_last _ _, tl, _, 1, .int (n1 : Int), rfl, rfl, SqT.of htl, tup3 1 rfl, ?_⟩
            refine ⟨_, rfl, 1, rfl, p, _, _, _, rfl, rfl, SqL.of hp, atI_last _ _, tl, _, 2, .int (c1 : Int), rfl, rfl, SqT.of htl, tup3 2 rfl, _, _, rfl, rfl, ?_⟩
            refine ⟨_, rfl, rfl, _, rfl, ite2 (fun c3 => ?_) (fun c3 => ?_)⟩
            · have d1 : n1 + c1 = i := by
                have : (n1 : Int) + (c1 : Int) = (i : Int) := V.int.inj (of_decide_eq_true c3)
                omega
              -- last = runs.pop()
              refine ⟨_, rfl, .inl ⟨rfl, _, SqL.of hp⟩, p, _, .ref tl, rfl, rfl, hp, by simp, ?_⟩
              rw [List.dropLast_concat]
              have htl2 : (upd H1 p (.lst ws')) tl = some (.tup [.int (o1 : Int), .int (n1 : Int), .int (c1 : Int)]) := (Tups.mut hp) _ _ htl
              refine ⟨_, rfl, .inl ⟨rfl, _, SqL.of upd_same⟩, _, rfl, tl, _, 0, .int (o1 : Int), rfl, rfl, SqT.of htl2, tup3 0 rfl, ?_⟩
              refine ⟨_, rfl, tl, _, 1, .int (n1 : Int), rfl, rfl, SqT.of htl2, tup3 1 rfl, ?_⟩
              refine ⟨_, rfl, tl, _, 2, .int (c1 : Int), rfl, rfl, SqT.of htl2, tup3 2 rfl, _, 1, rfl, rfl, by show 3 ≤ sizeLine; decide, fun a na => ?_⟩
              have nap : a ≠ p := fun z => by rw [z, upd_same] at na; cases na
              have na1 : H1 a = none := by rw [upd_ne nap] at na; exact na
              have e3 : ((c1 + 1 : Nat) : Int) = (c1 : Int) + 1 := by omega
              obtain ⟨b1, b2, b3⟩ := fin acc a ws' (o1, n1, c1 + 1) (.tup [.int (o1 : Int), .int (n1 : Int), .int ((c1 : Int) + 1)]) (by rw [e1, if_pos ⟨d0, d1⟩]) na1 (by simp only [e3]) hw' (upd H1 p (.lst ws')) upd_same (fun b u hb e => by rw [upd_ne hb]; exact e) na
              exact ⟨p, _, _, rfl, rfl, by rw [upd_ne nap.symm, upd_same], Nat.lt_of_lt_of_le (show ws'.length < 4000001 by omega) (by decide), b1, _, _, _, rfl, b2, b3⟩
            · have nd : ¬ (o1 + c1 = n ∧ n1 + c1 = i) := fun d => c3 (decide_eq_true (by have := d.2; show V.int ((n1 : Int) + (c1 : Int)) = V.int (i : Int); congr 1; omega))
              exact ⟨_, rfl, .inl ⟨rfl, _, SqL.of hp⟩, _, rfl, _, rfl, l, _, _, _, rfl, rfl, SqL.of at1, atI_nat (ints_get hx), _, rfl, by show 3 ≤ sizeLine; decide, fun a na => push nd a na⟩
          · have nd : ¬ (o1 + c1 = n ∧ n1 + c1 = i) := fun d => c2 (decide_eq_true (by have := d.1; show V.int ((o1 : Int) + (c1 : Int)) = V.int (n : Int); congr 1; omega))
            refine iteF ?_
            exact ⟨_, rfl, .inl ⟨rfl, _, SqL.of hp⟩, _, rfl, _, rfl, l, _, _, _, rfl, rfl, SqL.of at1, atI_nat (ints_get hx), _, rfl, by show 3 ≤ sizeLine; decide, fun a na => push nd a na⟩
      · have c0 : ¬ 0 ≤ x := fun z => c (decide_eq_true z)
        rw [if_neg c0, List.append_nil] at ti
        rw [ti]
        exact ⟨sm, ws, _, _, rfl, hp, hw⟩
    · rintro σ H1 ⟨sm, ws, y2, y3, rfl, hp, hw⟩
      rw [Int.toNat_natCast, List.take_length] at hw
      refine ⟨_, rfl, p, _, rfl, .inl ⟨SqL.of hp, fun t nt => ?_⟩⟩
      exact q t _ (sm.trans (same_upd nt)) (sm.free nt) ⟨ws, upd_same, hw.mono (Tups.new nt)⟩

/-! ### a carry held against what is due -/
def rnD (r : Rn) : PyData := .tuple [.int (r.1 : Int), .int (r.2.1 : Int), .int (r.2.2 : Int)]
theorem rnDs_lay : ∀ rs : List Rn, PyData.canLayAll0 (rs.map rnD) = true
  | [] => rfl
  | r :: t => by
    rw [List.map_cons]
    simp only [PyData.canLayAll0]
    rw [rnDs_lay t]
    simp [rnD, PyData.canLay0, PyData.canLayAll0]
theorem rnDs_depth : ∀ rs : List Rn, PyData.depthAll (rs.map rnD) ≤ 3
  | [] => by simp [PyData.depthAll]
  | r :: t => by
    have h2 := rnDs_depth t
    have h1 : (rnD r).depth ≤ 3 := by
      unfold rnD
      simp [PyData.depth, PyData.depthAll]
    rw [List.map_cons]
    simp only [PyData.depthAll]
    omega
theorem rnT_lay (rs : List Rn) : (PyData.tuple (rs.map rnD)).canLay0 = true := by
  simp only [PyData.canLay0]
  exact rnDs_lay rs
theorem rnL_lay (rs : List Rn) : (PyData.list (rs.map rnD)).canLay0 = true := by
  simp only [PyData.canLay0]
  exact rnDs_lay rs
theorem rnT_shaped (rs : List Rn) : SeqAt.shaped (.tuple (rs.map rnD)) = true := by
  unfold SeqAt.shaped
  rw [rnT_lay]
  have := rnDs_depth rs
  have d : (PyData.tuple (rs.map rnD)).depth = PyData.depthAll (rs.map rnD) + 1 := by simp only [PyData.depth]
  rw [d, Bool.true_and, decide_eq_true_eq]
  omega
theorem rnL_shaped (rs : List Rn) : SeqAt.shaped (.list (rs.map rnD)) = true := by
  unfold SeqAt.shaped
  rw [rnL_lay]
  have := rnDs_depth rs
  have d : (PyData.list (rs.map rnD)).depth = PyData.depthAll (rs.map rnD) + 1 := by simp only [PyData.depth]
  rw [d, Bool.true_and, decide_eq_true_eq]
  omega
theorem rns_dp {H : Hp} : ∀ {vs : List V} {rs : List Rn}, RnsIn H vs rs → DpAll K H vs (rs.map rnD)
  | _, _, .nil => .nil
  | _, _, .cons h t => .cons (by
    obtain ⟨p, rfl, hp⟩ := h
    exact .tup (SqT.of hp) (.cons (.int _) (.cons (.int _) (.cons (.int _) .nil)))) (rns_dp t)
theorem RnsT.dp {H : Hp} {t : Addr} {rs : List Rn} (h : RnsT H t rs) : Dp K H (.ref t) (.tuple (rs.map rnD)) := by
  obtain ⟨us, h1, h2⟩ := h
  exact .tup (SqT.of h1) (rns_dp h2)
theorem rnsL_dp {H : Hp} {l : Addr} {us : List V} {rs : List Rn} (h : H l = some (.lst us)) (h2 : RnsIn H us rs) : Dp K H (.ref l) (.list (rs.map rnD)) := .lst (SqL.of h) (rns_dp h2)

def spCOk (C : Addr) : Sp := fun vs H Q _ => ∃ (p r : Addr) (a b : Nat) (rs : List Rn), vs = [.ref p, .int (a : Int), .int (b : Int), .ref r] ∧ CarryR C H p a b rs ∧ RnsT H r rs ∧ rs.length ≤ 4000000 ∧ ∀ H', Same H H' → Q (.bl true) H'
theorem ok_carry_ok (T : Txt K mg) : FnOk P w K mg base CX0 4 T.a_law_carry_ok T.fd_law_carry_ok ["told", "old", "new", "runs"] (spCOk T.C_Carry) := by
  have G_law_number : FnOk P w K mg base CX0 1 T.a_law_number T.fd_law_number ["value"] spNumber := ok_number T
  refine T.F_law_carry_ok.ok sc_law_carry_ok (fun vs H Q E h => ?_) (fun cdv A outer s H vs Q E hr h => ?_)
  · obtain ⟨p, r, a, b, rs, rfl, _⟩ := h
    rfl
  · have hr_law_number : Room 1 _ := hr.mono (by decide)
    have hr_list_Carry___iter__ : Room 3 _ := hr
    obtain ⟨p, r, a, b, rs, rfl, ⟨t, ⟨dx, hp⟩, us, ht, hu⟩, ⟨vs', hr', hv⟩, hn, q⟩ := h
    have l1 := paired_len hu
    have l2 := paired_len hv
    refine ⟨_, (pss_cons (ps_if (PW.pt (pw_or (pt_not (pt_val (pe_callB (C8.call_isC T.IC_Carry) (by rfl) T.m_isinstance (by decide +kernel) (pa_cons (pv 0) (pa_cons (pe_glob (v := .ref T.C_Carry) (by rfl) T.G_Carry rfl) pa_nil))))) (pw_or (pt_not (pt_val (pe_call G_law_number hr_law_number (by rfl) T.g_law_number T.F_law_number.kp T.b_law_number .nil pass0 (pa_cons (pe_fld (pv 0) rfl) pa_nil)))) (pw_or1 (pt_not (pt_val (pe_call G_law_number hr_law_number (by rfl) T.g_law_number T.F_law_number.kp T.b_law_number .nil pass0 (pa_cons (pe_fld (pv 0) rfl) pa_nil)))))))) (pss_one (ps_ret pe_bl)) pss_nil)
      (pss_cons (ps_if (PW.pt (pw_or (pt_cmpR op_ne (pe_fld (pv 0) rfl) (pv 1) (nomark _)) (pw_or (pt_cmpR op_ne (pe_fld (pv 0) rfl) (pv 2) (nomark _)) (pw_or (pt_not (pt_val (pe_callB call_isi (by rfl) T.m_isinstance (by decide +kernel) (pa_cons (pe_fld (pv 0) rfl) (pa_cons (pe_bltn (v := .ty "tuple") (by rfl) T.m_tuple (by decide +kernel) rfl) pa_nil))))) (pw_or1 (pt_cmpR op_ne (pe_callB call_len_seq (by rfl) T.m_len PySem.boot_len (pa_cons (pe_fld (pv 0) rfl) pa_nil)) (pe_callB call_len_seq (by rfl) T.m_len PySem.boot_len (pa_cons (pv 3) pa_nil)) (nomark _))))))) (pss_one (ps_ret pe_bl)) pss_nil)
      (pss_cons (ps_for PassesOwn.never rfl (pi_tup (pe_fld (pv 0) rfl)) (pg_name (i := 4) sc_law_carry_ok.nd rfl (.inl rfl)) (pss_cons (ps_if (PW.pt (pw_or (pt_not (pt_val (pe_callB call_isi (by rfl) T.m_isinstance (by decide +kernel) (pa_cons (pv 4) (pa_cons (pe_bltn (v := .ty "tuple") (by rfl) T.m_tuple (by decide +kernel) rfl) pa_nil))))) (pw_or1 (pt_cmpR op_ne (pe_callB call_len_seq (by rfl) T.m_len PySem.boot_len (pa_cons (pv 4) pa_nil)) pe_int (nomark _))))) (pss_one (ps_ret pe_bl)) pss_nil)
      (pss_one (ps_for PassesOwn.never rfl (pi_tup (pv 4)) (pg_name (i := 5) sc_law_carry_ok.nd rfl (.inl rfl)) (pss_one (ps_if (pt_not (pt_val (pe_call G_law_number hr_law_number (by rfl) T.g_law_number T.F_law_number.kp T.b_law_number .nil pass0 (pa_cons (pv 5) pa_nil)))) (pss_one (ps_ret pe_bl)) pss_nil))))))
      (pss_one (ps_ret (pe_and (pe_cmpR (op_eqD hr.units) (pe_fld (pv 0) rfl) (pv 3) (nomark _)) (pe_one (pe_cmpR (op_eqD hr.units) (pe_callTy (OwnOp.call_listT T.IT_Carry T.F_Carry___iter__ sc_Carry___iter__ (it_Carry___iter__ T) T.b_Carry___iter__ hr_list_Carry___iter__ hr.hd) (by rfl) T.m_list (by decide +kernel) (pa_cons (pv 0) pa_nil)) (pe_callTy call_list_of (by rfl) T.m_list (by decide +kernel) (pa_cons (pv 3) pa_nil)) (nomark _))))))))), ?_⟩
    refine ⟨_, rfl, p, dx, _, rfl, hp, true, rfl, iteF ?_⟩
    refine ⟨_, rfl, p, T.C_Carry, dx, _, _, rfl, hp, T.CL_Carry, T.NA_Carry_old, cfl_old _ _ _, _, rfl, true, rfl, iteF ?_⟩
    refine ⟨_, rfl, p, T.C_Carry, dx, _, _, rfl, hp, T.CL_Carry, T.NA_Carry_new, cfl_new _ _ _, _, rfl, true, rfl, iteF ?_⟩
    -- told.old != old ..
    refine ⟨_, rfl, p, T.C_Carry, dx, _, _, rfl, hp, T.CL_Carry, T.NA_Carry_old, cfl_old _ _ _, _, rfl, rfl, _, rfl, iteNS rfl ?_⟩
    refine ⟨_, rfl, p, T.C_Carry, dx, _, _, rfl, hp, T.CL_Carry, T.NA_Carry_new, cfl_new _ _ _, _, rfl, rfl, _, rfl, iteNS rfl ?_⟩
    refine ⟨_, rfl, p, T.C_Carry, dx, _, _, rfl, hp, T.CL_Carry, T.NA_Carry_runs, cfl_runs _ _ _, _, _, _, _, true, rfl, .ty _, .base (.tup ht), kit_ty (by decide +kernel), true, rfl, iteF ?_⟩
    refine ⟨_, rfl, p, T.C_Carry, dx, _, _, rfl, hp, T.CL_Carry, T.NA_Carry_runs, cfl_runs _ _ _, t, _, rfl, .inr (SqT.of ht), _, rfl, r, _, rfl, .inr (SqT.of hr'), rfl, _, rfl, ?_⟩
    rw [l1, l2]
    refine iteNS rfl ?_
    -- for row in told.runs
    refine ⟨_, rfl, p, T.C_Carry, dx, _, _, rfl, hp, T.CL_Carry, T.NA_Carry_runs, cfl_runs _ _ _, t, rfl, ⟨_, SqT.of ht⟩, ?_⟩
    refine for_tup (K := K) (a := t) (xs := us) (fun i σ H' => H' = H ∧ ∃ y4 y5 : Option V, σ = [some (.ref p), some (.int (a : Int)), some (.int (b : Int)), some (.ref r), y4, y5]) ⟨rfl, none, none, rfl⟩ (fun i σ H' _ ⟨s, _⟩ => by rw [s]; exact SqT.of ht) ?_ ?_
    · rintro i x σ H1 hx ⟨rfl, y4, y5, rfl⟩
      obtain ⟨e, he⟩ : ∃ e, rs[i]? = some e := ⟨_, List.getElem?_eq_getElem (by rw [← l1]; exact (List.getElem?_eq_some_iff.mp hx).1)⟩
      obtain ⟨x', hx', c, rfl, hc⟩ := paired_get hu he
      rw [hx] at hx'
      have h1 := Option.some.inj hx'
      subst h1
      refine ⟨_, rfl, _, _, _, _, true, rfl, .ty _, .base (.tup hc), kit_ty (by decide +kernel), true, rfl, iteF ?_⟩
      refine ⟨_, rfl, c, _, rfl, .inr (SqT.of hc), rfl, _, rfl, iteNS rfl ?_⟩
      refine ⟨_, rfl, c, rfl, ⟨_, SqT.of hc⟩, ?_⟩
      refine for_tup (K := K) (a := c) (xs := [.int (e.1 : Int), .int (e.2.1 : Int), .int (e.2.2 : Int)]) (fun j σ H' => H' = H1 ∧ ∃ y5 : Option V, σ = [some (.ref p), some (.int (a : Int)), some (.int (b : Int)), some (.ref r), some (.ref c), y5]) ⟨rfl, _, rfl⟩ (fun j σ H' _ ⟨s, _⟩ => by rw [s]; exact SqT.of hc) ?_ ?_
      · rintro j y σ H2 hy ⟨rfl, y5, rfl⟩
        obtain ⟨z, rfl⟩ : ∃ z, y = V.int z := by
          have hm := List.mem_of_getElem? hy
          simp only [List.mem_cons, List.not_mem_nil, or_false] at hm
          rcases hm with rfl | rfl | rfl <;> exact ⟨_, rfl⟩
        exact ⟨_, rfl, z, rfl, true, rfl, iteF ⟨rfl, _, rfl⟩⟩
      · rintro σ H2 ⟨rfl, y5, rfl⟩
        exact ⟨rfl, _, _, rfl⟩
    · rintro σ H1 ⟨rfl, y4, y5, rfl⟩
      refine ⟨_, rfl, p, T.C_Carry, dx, _, _, rfl, hp, T.CL_Carry, T.NA_Carry_runs, cfl_runs _ _ _, _, rfl, _, _, RnsT.dp ⟨us, ht, hu⟩, RnsT.dp ⟨vs', hr', hv⟩, rnT_shaped _, rnT_shaped _, ?_⟩
      rw [SeqAt.eqv_refl _ (rnT_lay _)]
      refine ⟨true, rfl, iteT ?_⟩
      refine ⟨_, rfl, p, dx, _, t, us, rfl, hp, ⟨dx, _, _, hp⟩, fun l o nl => ⟨dx, _, _, by rw [upd_ne (ne_of_none hp nl)]; exact hp⟩, SqT.of ht, Nat.lt_of_lt_of_le (show us.length < 4000001 by omega) (by decide), fun l1 n1 => ?_⟩
      have s1 := same_upd (o := .lst us) n1
      refine ⟨_, rfl, r, vs', rfl, .inr (SqT.of (s1 _ _ hr')), fun l2 n2 => ?_⟩
      have s2 := same_upd (o := .lst vs') n2
      have d1 : Dp K (upd (upd H1 l1 (.lst us)) l2 (.lst vs')) (.ref l1) (.list (rs.map rnD)) := rnsL_dp (s2 _ _ upd_same) (hu.mono ((same_tups s1).trans (same_tups s2)))
      have d2 : Dp K (upd (upd H1 l1 (.lst us)) l2 (.lst vs')) (.ref l2) (.list (rs.map rnD)) := rnsL_dp upd_same (hv.mono ((same_tups s1).trans (same_tups s2)))
      refine ⟨_, _, d1, d2, rnL_shaped _, rnL_shaped _, ?_⟩
      rw [SeqAt.eqv_refl _ (rnL_lay _)]
      exact q _ (s1.trans s2)

/-! ### rows of places, by the law -/
theorem tagsE_min {n : Nat} : ∀ {es : List Ed}, MinOne (tagsE n es) := by
  intro es
  induction es using rev_ind with
  | h0 =>
    have e : tagsE n [] = stay 0 (n + 1) := upTo_stay (n + 1)
    rw [e]
    exact minOne_stay 0 (n + 1)
  | h1 es e ih =>
    rw [tagsE_snoc]
    refine minOne_app (minOne_app (fun x hx => ih x (List.mem_of_mem_take hx)) (minOne_none _)) fun x hx => ih x (List.mem_of_mem_drop hx)
theorem ints_set (xs : List Int) (i : Nat) (v : Int) : (xs.map V.int).set i (.int v) = (xs.set i v).map V.int := by rw [List.map_set]
theorem ixN_nat {n i : Nat} (h : i < n) : ixN n (i : Int) = some i := by
  unfold ixN
  rw [if_pos (by omega), if_pos (by omega), Int.toNat_natCast]
theorem ints_at {ts : List Int} {i : Nat} {x : Int} (h : ts[i]? = some x) : atI (ts.map V.int) (i : Int) = some (.int x) := atI_nat (ints_get h)
theorem map_len (ts : List Int) : (ts.map V.int).length = ts.length := List.length_map ..

def spAhead : Sp := fun vs H Q _ => ∃ (l : Addr) (t : List Int) (n : Nat), vs = [.ref l, .int (n : Int)] ∧ H l = some (.lst (t.map V.int)) ∧ Tagged n t ∧ t.length ≤ 4000000 ∧ n ≤ 4000000 ∧
  ∀ a H' al, Same H H' → H a = none → H' a = some (.lst (al.map V.int)) → AheadL (tp 0 t) n al → Q (.ref a) H'
theorem ok_ahead (T : Txt K mg) : FnOk P w K mg base CX0 1 T.a_law_ahead T.fd_law_ahead ["tags", "size"] spAhead := by
  refine T.F_law_ahead.ok sc_law_ahead (fun vs H Q E h => ?_) (fun cdv A outer s H vs Q E hr h => ?_)
  · obtain ⟨l, t, n, rfl, _⟩ := h
    rfl
  · obtain ⟨l, t, n, rfl, hl, hT, htl, hn, q⟩ := h
    refine ⟨_, (pss_cons (ps_setLc (i := 2) (own := [("k", 3)]) (g := gName 3) (by rfl) sc_law_ahead.nd rfl rfl (sw_true rfl rfl rfl (by decide +kernel)) (pi_range1 (by rfl) T.m_range (pa_cons (pe_op op_add (pv 1) pe_int) pa_nil)) (blkOk_by (own := [("k", 3)]) (N := ["tags", "size", "ahead", "k"]) (sc := defScope s_law_ahead) (by decide +kernel)) (fun _ _ _ _ _ => pg_name (i := 3) sc_law_ahead.nd rfl (Or.inl rfl)) (fun _ _ _ _ _ => pts_nil) (fun _ _ _ _ _ => (pe_un un_neg pe_int)))
      (pss_cons (ps_for PassesOwn.never rfl (pi_range1 (by rfl) T.m_range (pa_cons (pe_callB call_len_seq (by rfl) T.m_len PySem.boot_len (pa_cons (pv 0) pa_nil)) pa_nil)) (pg_name (i := 3) sc_law_ahead.nd rfl (.inl rfl)) (pss_one (ps_if (pt_cmpR op_ge (pe_ix ix_list (pv 0) (pv 3) (fun _ _ => rfl)) pe_int (nomark _)) (pss_one (ps_asg (pv 3) (pg_sub (pv 2) (pe_ix ix_list (pv 0) (pv 3) (fun _ _ => rfl)) set_list))) pss_nil)))
      (pss_one (ps_ret (pv 2))))), ?_⟩
    refine ⟨_, rfl, _, 1, rfl, rfl, _, rfl, by omega, by omega, fun D nD => ?_⟩
    have en : ((n : Int) + 1).toNat = n + 1 := by omega
    refine lc_range (lo := 0) (n := ((n : Int) + 1).toNat) (fun i H' => Same H H' ∧ H' D = some (.lst ((List.replicate i (-1 : Int)).map V.int))) ⟨same_upd nD, upd_same⟩ ?_ ?_
    · rintro i H' hi ⟨sm, hD⟩
      refine ⟨rfl, 1, rfl, _, hD, Nat.lt_of_lt_of_le (show ((List.replicate i (-1 : Int)).map V.int).length < 4000002 by rw [map_len, List.length_replicate]; omega) (by decide), same_mut sm nD, ?_⟩
      rw [upd_same, List.replicate_succ', List.map_append]
      rfl
    · rintro H1 ⟨sm1, hD⟩
      rw [en] at hD
      have hl1 := sm1 _ _ hl
      have hDl : D ≠ l := fun z => by rw [z, hl] at nD; cases nD
      refine ⟨_, rfl, l, _, rfl, .inl (SqL.of hl1), _, rfl, by omega, by rw [map_len]; omega, ?_⟩
      rw [map_len]
      refine for_range (lo := 0) (n := ((t.length : Int)).toNat) (fun i σ H' => Same H H' ∧ ∃ (y : Option V) (al : List Int), σ = [some (.ref l), some (.int (n : Int)), some (.ref D), y] ∧ H' D = some (.lst (al.map V.int)) ∧ AheadL (tp 0 (t.take i)) n al) ⟨sm1, none, _, rfl, hD, ahead_start n⟩ ?_ ?_
      · rintro i σ H2 hi ⟨sm, y, al, rfl, hD, hal⟩
        have hi' : i < t.length := by omega
        obtain ⟨x, hx⟩ : ∃ x, t[i]? = some x := ⟨_, List.getElem?_eq_getElem hi'⟩
        have ei : (0 : Int) + (i : Int) = (i : Int) := by omega
        rw [ei]
        have hl2 := sm _ _ hl
        have ti : tp 0 (t.take (i + 1)) = tp 0 (t.take i) ++ (if 0 ≤ x then [(x.toNat, i)] else []) := by
          have e : (t.take i).length = i := by rw [List.length_take]; omega
          rw [take_more hx, tp_snoc, e, Nat.zero_add]
        refine ⟨_, rfl, _, rfl, l, _, _, _, rfl, rfl, SqL.of hl2, ints_at hx, _, 0, rfl, rfl, _, rfl, ite2 (fun c => ?_) (fun c => ?_)⟩
        · have c0 : 0 ≤ x := of_decide_eq_true c
          obtain ⟨m, rfl⟩ : ∃ m : Nat, x = (m : Int) := ⟨x.toNat, by omega⟩
          have hm : (m, i) ∈ tp 0 t := mem_tp0.mpr hx
          have hmn := (hT.le hm).1
          have hlen := hal.1
          refine ⟨_, rfl, _, rfl, _, rfl, _, rfl, l, _, _, _, rfl, rfl, SqL.of hl2, ints_at hx, D, _, _, m, rfl, rfl, hD, ixN_nat (by rw [map_len, hlen]; simp only at hmn; omega), ?_⟩
          refine ⟨same_mut sm nD, _, al.set m (i : Int), rfl, ?_, ?_⟩
          · rw [upd_same, ints_set]
          · rw [ti, if_pos c0, Int.toNat_natCast]
            exact ahead_step hal
        · have c0 : ¬ 0 ≤ x := fun z => c (decide_eq_true z)
          rw [ti, if_neg c0, List.append_nil]
          exact ⟨sm, _, al, rfl, hD, hal⟩
      · rintro σ H2 ⟨sm, y, al, rfl, hD, hal⟩
        rw [Int.toNat_natCast, List.take_length] at hal
        exact ⟨_, rfl, q D _ al sm nD hD hal⟩

theorem ahead_at {ps : List (Nat × Nat)} {size : Nat} {al : List Int} (h : AheadL ps size al) {k : Nat} (hk : k ≤ size) : ∃ x, al[k]? = some x ∧ IsAt 0 ps k x ∧ ((∃ n : Nat, x = (n : Int) ∧ (k, n) ∈ ps) ∨ (x = -1 ∧ ∀ q ∈ ps, psel 0 q ≠ k)) := by
  obtain ⟨x, hx⟩ : ∃ x, al[k]? = some x := ⟨_, List.getElem?_eq_getElem (by rw [h.1]; omega)⟩
  refine ⟨x, hx, h.2 k x hx, ?_⟩
  rcases h.2 k x hx with ⟨q, h1, h2, h3⟩ | ⟨h1, h2⟩
  · have h2 : q.1 = k := h2
    have h3 : x = (q.2 : Int) := h3
    exact .inl ⟨q.2, h3, by rw [← h2]; exact h1⟩
  · exact .inr ⟨h2, h1⟩

/-! ### a carry and its negative, in plain Lean -/
def swp (q : Nat × Nat) : Nat × Nat := (q.2, q.1)
def swR (r : Rn) : Rn := (r.2.1, r.1, r.2.2)
theorem swR_join (acc : List Rn) (r : Rn) : joinR (acc.map swR) (swR r) = (joinR acc r).map swR := by
  obtain ⟨a, b, d⟩ := r
  cases acc with
  | nil => rfl
  | cons x t =>
    obtain ⟨o, n, c⟩ := x
    show (if n + c = b ∧ o + c = a then (n, o, c + d) :: t.map swR else (b, a, d) :: (n, o, c) :: t.map swR) = (if o + c = a ∧ n + c = b then (o, n, c + d) :: t else (a, b, d) :: (o, n, c) :: t).map swR
    by_cases h : o + c = a ∧ n + c = b
    · rw [if_pos h, if_pos ⟨h.2, h.1⟩]
      rfl
    · rw [if_neg h, if_neg fun z => h ⟨z.2, z.1⟩]
      rfl
theorem swR_fold : ∀ (ps acc : List Rn), (ps.map swR).foldl joinR (acc.map swR) = (ps.foldl joinR acc).map swR
  | [], _ => rfl
  | r :: t, acc => by
    show (t.map swR).foldl joinR (joinR (acc.map swR) (swR r)) = _
    rw [swR_join, swR_fold t]
    rfl
theorem canon_swap (qs : List (Nat × Nat)) : canon (qs.map swp) = (canon qs).map swR := by
  unfold canon joinedL
  rw [List.map_reverse]
  have h := swR_fold (qs.map one1) []
  rw [List.map_map] at h
  rw [List.map_map]
  exact congrArg List.reverse h
theorem swp_up {ps : List (Nat × Nat)} (h : Up ps) : Up (ps.map swp) := List.pairwise_map.mpr (h.imp fun z => ⟨z.2, z.1⟩)
theorem mem_swp {ps : List (Nat × Nat)} {p : Nat × Nat} : p ∈ ps.map swp ↔ (p.2, p.1) ∈ ps := by
  constructor
  · intro h
    obtain ⟨q, hq, rfl⟩ := List.mem_map.mp h
    exact hq
  · intro h
    exact List.mem_map.mpr ⟨_, h, rfl⟩
/-- the row of the new places is the row of tags the other way round -/
theorem tp_ahead {t al : List Int} {old : Nat} (ht : Tagged old t) (h : AheadL (tp 0 t) old al) : tp 0 al = (tp 0 t).map swp := by
  refine up_eq (tp_snd 0 al) ((swp_up ht.up).imp fun z => z.2) fun p => ?_
  rw [mem_tp0, mem_swp]
  constructor
  · intro hp
    rcases h.2 _ _ hp with ⟨q, h1, h2, h3⟩ | ⟨_, h2⟩
    · have h2 : q.1 = p.2 := h2
      have h3 : (p.1 : Int) = (q.2 : Int) := h3
      have e : q = (p.2, p.1) := Prod.ext h2 (by simp only; omega)
      rw [← e]
      exact h1
    · omega
  · intro hp
    have le : p.2 ≤ old := (ht.le hp).1
    obtain ⟨x, hx, hat, _⟩ := ahead_at h le
    have e := isAt_uni (.inl rfl) ht.up hat (.inl ⟨(p.2, p.1), hp, rfl, rfl⟩)
    rw [hx, e]
    rfl
theorem ahead_min {ps : List (Nat × Nat)} {old : Nat} {al : List Int} (h : AheadL ps old al) : MinOne al := fun x hx l => by
  obtain ⟨k, hk, rfl⟩ := List.getElem_of_mem hx
  rcases h.2 k _ (List.getElem?_eq_getElem hk) with ⟨q, _, _, h3⟩ | ⟨_, h2⟩
  · rw [h3] at l
    omega
  · exact h2
theorem ahead_tagged {t al : List Int} {old : Nat} (ht : Tagged old t) (h : AheadL (tp 0 t) old al) : Tagged (t.length - 1) al := by
  have hm := ht.mem_last
  have e := tp_ahead ht h
  refine ⟨by rw [e]; exact swp_up ht.up, al.take old, ?_⟩
  have hq : (t.length - 1, old) ∈ tp 0 al := by
    rw [e]
    exact mem_swp.mpr hm
  have hx := mem_tp0.mp hq
  have hx : al[old]? = some ((t.length - 1 : Nat) : Int) := hx
  have h1 := take_more hx
  rw [← h1, List.take_of_length_le (by rw [h.1]; exact Nat.le_refl _)]
/-- and back again -/
theorem ahead_back {t al : List Int} {old : Nat} (ht : Tagged old t) (hm : MinOne t) (h : AheadL (tp 0 t) old al) : AheadL (tp 0 al) (t.length - 1) t := by
  have hl := ht.len
  refine ⟨by omega, fun k x hx => ?_⟩
  rw [tp_ahead ht h]
  rcases tag_old hm hx with ⟨q, h1, h2, h3⟩ | ⟨h1, h2⟩
  · exact .inl ⟨swp q, List.mem_map.mpr ⟨q, h1, rfl⟩, h2, h3⟩
  · refine .inr ⟨fun q hq => ?_, h2⟩
    obtain ⟨p, hp, rfl⟩ := List.mem_map.mp hq
    exact h1 p hp
def keptL (l : List Int) (n : Nat) : List Int := (List.range n).map fun (k : Nat) => if (0 : Int) ≤ (l[k]?).getD 0 then (k : Int) else -1
theorem keptL_len (l : List Int) (n : Nat) : (keptL l n).length = n := by
  unfold keptL
  rw [List.length_map, List.length_range]
theorem keptL_succ {l : List Int} {n : Nat} {x : Int} (h : l[n]? = some x) : keptL l (n + 1) = keptL l n ++ [if 0 ≤ x then (n : Int) else -1] := by
  unfold keptL
  rw [List.range_succ, List.map_append]
  show _ ++ [if (0 : Int) ≤ (l[n]?).getD 0 then (n : Int) else -1] = _
  rw [h]
  rfl
/-- there and back: the places that stay -/
theorem comp_back {t al : List Int} {old : Nat} (ht : Tagged old t) (h : AheadL (tp 0 t) old al) : compT t al = keptL al al.length := by
  refine List.ext_getElem? fun k => ?_
  unfold compT keptL
  rw [List.getElem?_map, List.getElem?_map]
  by_cases hk : k < al.length
  · rw [List.getElem?_range hk, List.getElem?_eq_getElem hk]
    show some (if 0 ≤ al[k] then (t[(al[k]).toNat]?).getD (-1) else -1) = some (if 0 ≤ (al[k]?).getD 0 then (k : Int) else -1)
    rw [List.getElem?_eq_getElem hk]
    show some (if 0 ≤ al[k] then (t[(al[k]).toNat]?).getD (-1) else -1) = some (if 0 ≤ al[k] then (k : Int) else -1)
    by_cases c : 0 ≤ al[k]
    · rw [if_pos c, if_pos c]
      rcases h.2 k _ (List.getElem?_eq_getElem hk) with ⟨q, h1, h2, h3⟩ | ⟨_, h2⟩
      · have h2 : q.1 = k := h2
        have h3 : al[k] = (q.2 : Int) := h3
        have h4 := mem_tp0.mp h1
        rw [h3, Int.toNat_natCast, h4, h2]
        rfl
      · omega
    · rw [if_neg c, if_neg c]
  · rw [List.getElem?_eq_none (l := al) (by omega), List.getElem?_eq_none (l := List.range al.length) (by rw [List.length_range]; omega)]
    rfl
/-- a row of edits behind another -/
theorem compT_take (t u : List Int) (k : Nat) : compT t (u.take k) = (compT t u).take k := List.map_take ..
theorem compT_drop (t u : List Int) (k : Nat) : compT t (u.drop k) = (compT t u).drop k := List.map_drop ..
theorem tagsE_app {n m : Nat} {es : List Ed} (hl : (tagsE n es).length = m + 1) : ∀ {fs : List Ed}, tagsE n (es ++ fs) = compT (tagsE n es) (tagsE m fs) := by
  intro fs
  induction fs using rev_ind with
  | h0 =>
    have e : tagsE m [] = stay 0 (m + 1) := upTo_stay (m + 1)
    rw [e, List.append_nil, compT_stay (by omega), List.drop_zero, List.take_of_length_le (by omega)]
  | h1 fs e ih =>
    rw [← List.append_assoc, tagsE_snoc, tagsE_snoc, ih, compT_app, compT_app, compT_none, compT_take, compT_drop]

/-! ### what is due -/
theorem short_size : ∀ {es : List Ed} {n : Nat}, Short es → sizeL n es ≤ n + es.length * 2000
  | [], n, _ => Nat.le_add_right _ _
  | e :: r, n, h => by
    have ih := short_size (es := r) (n := size1 n e) fun x hx => h x (List.mem_cons_of_mem _ hx)
    have h1 := (h e List.mem_cons_self).1
    show sizeL (size1 n e) r ≤ n + (r.length + 1) * 2000
    have h2 : size1 n e ≤ n + e.len := by
      unfold size1
      omega
    omega
theorem short_take {es : List Ed} (h : Short es) (k : Nat) : Short (es.take k) := fun e he => h e (List.mem_of_mem_take he)
theorem short_sizes {es : List Ed} {n : Nat} (h : Short es) (hn : n ≤ 50000) (hl : es.length ≤ 400) : ∀ k, fitsL n (es.take k) → sizeL n (es.take k) ≤ 3000000 := fun k _ => by
  have h1 := short_size (n := n) (short_take h k)
  have h2 : (es.take k).length ≤ es.length := by rw [List.length_take]; exact Nat.min_le_right _ _
  have h3 : (es.take k).length * 2000 ≤ 400 * 2000 := Nat.mul_le_mul_right _ (by omega)
  omega
theorem tags_len {n : Nat} {es : List Ed} (h : fitsL n es) (hs : Short es) (hn : n ≤ 50000) (hl : es.length ≤ 400) : (tagsE n es).length ≤ 3000001 := by
  rw [(tags_tagged h).2]
  have h1 := short_sizes hs hn hl es.length
  rw [List.take_length] at h1
  have := h1 h
  omega

/-! ### the one list of edits with a carry, in plain Lean -/
/-- what a surviving item is: the same character at its new place -/
def Kept (x u : List Nat) (t : List Int) : Prop := ∀ (k o : Nat), t[k]? = some (o : Int) → u[k]? = x[o]?
theorem kept_one {x u w : List Nat} {t : List Int} {a b : Nat} (h : Kept x u t) (hl : t.length = u.length + 1) (h1 : a ≤ b) (h2 : b ≤ u.length) : Kept x (u.take a ++ w ++ u.drop b) (t.take a ++ List.replicate w.length (-1) ++ t.drop b) := by
  intro k o hk
  have lu : (u.take a).length = a := by rw [List.length_take]; omega
  have lt : (t.take a).length = a := by rw [List.length_take]; omega
  rw [List.append_assoc] at hk ⊢
  by_cases c1 : k < a
  · rw [List.getElem?_append_left (by omega), List.getElem?_take, if_pos c1] at hk ⊢
    exact h k o hk
  · rw [List.getElem?_append_right (by omega), lt] at hk
    rw [List.getElem?_append_right (by omega), lu]
    by_cases c2 : k - a < w.length
    · rw [List.getElem?_append_left (by rw [List.length_replicate]; exact c2), List.getElem?_replicate, if_pos c2] at hk
      have := Option.some.inj hk
      omega
    · rw [List.getElem?_append_right (by rw [List.length_replicate]; omega), List.length_replicate, List.getElem?_drop] at hk
      rw [List.getElem?_append_right (by omega), List.getElem?_drop]
      exact h _ o hk
theorem kept_edits {x : List Nat} : ∀ {es : List Ed}, fitsL x.length es → Kept x (appl x es) (tagsE x.length es) := by
  intro es
  induction es using rev_ind with
  | h0 =>
    intro _ k o hk
    have e : tagsE x.length [] = stay 0 (x.length + 1) := upTo_stay (x.length + 1)
    rw [e] at hk
    unfold stay at hk
    rw [List.getElem?_map] at hk
    cases hr : (List.range (x.length + 1))[k]? with
    | none => rw [hr] at hk; cases hk
    | some v =>
      rw [hr] at hk
      have h1 : ((0 + v : Nat) : Int) = (o : Int) := Option.some.inj hk
      have h2 : v = k := by
        have := List.getElem?_eq_some_iff.mp hr
        obtain ⟨h3, h4⟩ := this
        rw [List.getElem_range] at h4
        exact h4.symm
      have h3 : k = o := by omega
      rw [h3]
      rfl
  | h1 es e ih =>
    intro h
    obtain ⟨f1, f2⟩ := (fitsL_snoc _ _ _).mp h
    obtain ⟨_, t2⟩ := tags_tagged f1
    have l1 := appl_len f1
    obtain ⟨a1, a2, a3⟩ := f2
    rw [tagsE_snoc]
    have e2 : appl x (es ++ [e]) = (appl x es).take e.1.toNat ++ cs e.2.2 ++ (appl x es).drop e.2.1.toNat := by
      unfold appl
      rw [List.foldl_append]
      rfl
    rw [e2]
    exact kept_one (ih f1) (by omega) (by omega) (by omega)
/-- rows with the same tags are the same -/
theorem minOne_ext {t u : List Int} (h : MinOne t) (g : MinOne u) (hl : t.length = u.length) (e : tp 0 t = tp 0 u) : t = u := by
  refine List.ext_getElem hl fun k h1 h2 => ?_
  have key : ∀ {a b : List Int}, MinOne a → MinOne b → tp 0 a = tp 0 b → (ha : k < a.length) → (hb : k < b.length) → 0 ≤ a[k] → a[k] = b[k] := fun {a b} _ _ e ha hb c => by
    have m : (a[k].toNat, k) ∈ tp 0 a := mem_tp0.mpr (by
      show a[k]? = some ((a[k].toNat : Nat) : Int)
      rw [List.getElem?_eq_getElem ha, Int.toNat_of_nonneg c])
    rw [e] at m
    have h3 := mem_tp0.mp m
    have h3 : b[k]? = some ((a[k].toNat : Nat) : Int) := h3
    rw [List.getElem?_eq_getElem hb, Int.toNat_of_nonneg c] at h3
    exact (Option.some.inj h3).symm
  by_cases c : 0 ≤ t[k]
  · exact key h g e h1 h2 c
  · by_cases c2 : 0 ≤ u[k]
    · exact (key g h e.symm h2 h1 c2).symm
    · rw [h _ (List.getElem_mem h1) (by omega), g _ (List.getElem_mem h2) (by omega)]
/-- the stretches between the runs: old start, old end, new start, new end -/
def gapsL : Nat → Nat → List Rn → List (Nat × Nat × Nat × Nat)
  | _, _, [] => []
  | o, n, r :: rs => (if r.1 = o ∧ r.2.1 = n then [] else [(o, r.1, n, r.2.1)]) ++ gapsL (r.1 + r.2.2) (r.2.1 + r.2.2) rs
/-- what stands from a place on, put together of the runs -/
def mergeL {α : Type} (B : List α) (W : Nat → Nat → List α) : Nat → Nat → List Rn → List α
  | _, _, [] => []
  | o, n, r :: rs => W n r.2.1 ++ ((B.drop r.1).take r.2.2 ++ mergeL B W (r.1 + r.2.2) (r.2.1 + r.2.2) rs)
def putG {α : Type} (W : Nat → Nat → List α) (t : List α) (g : Nat × Nat × Nat × Nat) : List α := t.take g.1 ++ W g.2.2.1 g.2.2.2 ++ t.drop g.2.1
theorem gaps_merge {α : Type} {B : List α} {W : Nat → Nat → List α} (hW : ∀ k, W k k = []) : ∀ (rs : List Rn) (o n : Nat), (∀ r ∈ rs, o ≤ r.1) → AscR rs → (rs = [] → B.length ≤ o) → (∀ r rs', rs = rs' ++ [r] → B.length ≤ r.1 + r.2.2) → (∀ r ∈ rs, r.1 ≤ B.length) →
    (gapsL o n rs).reverse.foldl (putG W) B = B.take o ++ mergeL B W o n rs
  | [], o, n, _, _, hn, _, _ => by
    show B = B.take o ++ []
    rw [List.append_nil, List.take_of_length_le (hn rfl)]
  | r :: rs, o, n, ho, ha, _, hlast, hb => by
    obtain ⟨ha1, ha2⟩ := List.pairwise_cons.mp ha
    have or := ho r List.mem_cons_self
    have br := hb r List.mem_cons_self
    have ih := gaps_merge hW rs (r.1 + r.2.2) (r.2.1 + r.2.2) (fun x hx => (ha1 x hx).1) ha2 (fun e => hlast r [] (by rw [e]; rfl)) (fun x rs' e => hlast x (r :: rs') (by rw [e]; rfl)) (fun x hx => hb x (List.mem_cons_of_mem _ hx))
    have cutB : B.take (r.1 + r.2.2) = B.take o ++ ((B.drop o).take (r.1 - o) ++ (B.drop r.1).take r.2.2) := by
      have e1 : B.take (r.1 + r.2.2) = B.take r.1 ++ (B.drop r.1).take r.2.2 := by rw [List.take_add]
      have e2 : B.take r.1 = B.take o ++ (B.drop o).take (r.1 - o) := by
        rw [← List.take_add]
        congr 1
        omega
      rw [e1, e2, List.append_assoc]
    show ((if r.1 = o ∧ r.2.1 = n then [] else [(o, r.1, n, r.2.1)]) ++ gapsL (r.1 + r.2.2) (r.2.1 + r.2.2) rs).reverse.foldl (putG W) B = B.take o ++ (W n r.2.1 ++ ((B.drop r.1).take r.2.2 ++ mergeL B W (r.1 + r.2.2) (r.2.1 + r.2.2) rs))
    rw [List.reverse_append, List.foldl_append, ih]
    by_cases c : r.1 = o ∧ r.2.1 = n
    · rw [if_pos c, c.2, hW]
      show B.take (r.1 + r.2.2) ++ mergeL B W _ _ rs = B.take o ++ ([] ++ ((B.drop r.1).take r.2.2 ++ mergeL B W _ _ rs))
      rw [cutB, c.1, Nat.sub_self, List.take_zero, List.nil_append, List.nil_append, List.append_assoc]
    · rw [if_neg c]
      show (B.take (r.1 + r.2.2) ++ mergeL B W _ _ rs).take o ++ W n r.2.1 ++ (B.take (r.1 + r.2.2) ++ mergeL B W _ _ rs).drop r.1 = _
      have lt : (B.take r.1).length = r.1 := by rw [List.length_take]; omega
      have lo : (B.take o).length = o := by rw [List.length_take]; omega
      have d1 : (B.take (r.1 + r.2.2) ++ mergeL B W (r.1 + r.2.2) (r.2.1 + r.2.2) rs).take o = B.take o := by
        rw [cutB, List.append_assoc, List.take_append_of_le_length (by omega), List.take_of_length_le (by omega)]
      have d2 : (B.take (r.1 + r.2.2) ++ mergeL B W (r.1 + r.2.2) (r.2.1 + r.2.2) rs).drop r.1 = (B.drop r.1).take r.2.2 ++ mergeL B W (r.1 + r.2.2) (r.2.1 + r.2.2) rs := by
        have e1 : B.take (r.1 + r.2.2) = B.take r.1 ++ (B.drop r.1).take r.2.2 := by rw [List.take_add]
        rw [e1, List.append_assoc]
        exact List.drop_left' lt
      rw [d1, d2, List.append_assoc]
def endN : Nat → List Rn → Nat
  | n, [] => n
  | _, r :: rs => endN (r.2.1 + r.2.2) rs
theorem endN_last : ∀ (n : Nat) (rs : List Rn) (r : Rn), endN n (rs ++ [r]) = r.2.1 + r.2.2
  | _, [], _ => rfl
  | _, x :: rs, r => endN_last (x.2.1 + x.2.2) rs r
theorem endN_le : ∀ (rs : List Rn) (n : Nat), (∀ r ∈ rs, n ≤ r.2.1) → AscR rs → n ≤ endN n rs
  | [], _, _, _ => Nat.le_refl _
  | r :: rs, n, hn, ha => by
    obtain ⟨ha1, ha2⟩ := List.pairwise_cons.mp ha
    have := endN_le rs (r.2.1 + r.2.2) (fun x hx => (ha1 x hx).2) ha2
    have := hn r List.mem_cons_self
    show n ≤ endN (r.2.1 + r.2.2) rs
    omega
/-- the tags, put together -/
def noneW (n b : Nat) : List Int := List.replicate (b - n) (-1)
theorem stay_cut {N a c : Nat} (h : a + c ≤ N) : ((stay 0 N).drop a).take c = stay a c := by
  refine List.ext_getElem? fun k => ?_
  unfold stay
  rw [List.getElem?_take, List.getElem?_drop, List.getElem?_map, List.getElem?_map]
  by_cases hk : k < c
  · rw [if_pos hk, List.getElem?_range hk, List.getElem?_range (by omega)]
    show some (((0 + (a + k) : Nat) : Int)) = some ((a + k : Nat) : Int)
    rw [Nat.zero_add]
  · rw [if_neg hk, List.getElem?_eq_none (l := List.range c) (by rw [List.length_range]; omega)]
    rfl
theorem merge_tags {N : Nat} : ∀ (rs : List Rn) (o n : Nat), (∀ r ∈ rs, n ≤ r.2.1) → AscR rs → (∀ r ∈ rs, r.1 + r.2.2 ≤ N) →
    tp n (mergeL (stay 0 N) noneW o n rs) = pairsOf rs ∧ (mergeL (stay 0 N) noneW o n rs).length + n = endN n rs ∧ MinOne (mergeL (stay 0 N) noneW o n rs)
  | [], _, n, _, _, _ => ⟨rfl, Nat.zero_add n, fun x hx => by cases hx⟩
  | r :: rs, o, n, hn, ha, hN => by
    obtain ⟨a, b, c⟩ := r
    obtain ⟨ha1, ha2⟩ := List.pairwise_cons.mp ha
    have nb := hn _ List.mem_cons_self
    have aN := hN _ List.mem_cons_self
    simp only at nb aN
    obtain ⟨i1, i2, i3⟩ := merge_tags rs (a + c) (b + c) (fun x hx => (ha1 x hx).2) ha2 (fun x hx => hN x (List.mem_cons_of_mem _ hx))
    have e : mergeL (stay 0 N) noneW o n ((a, b, c) :: rs) = noneW n b ++ (stay a c ++ mergeL (stay 0 N) noneW (a + c) (b + c) rs) := by
      show noneW n b ++ (((stay 0 N).drop a).take c ++ mergeL (stay 0 N) noneW (a + c) (b + c) rs) = _
      rw [stay_cut aN]
    have ln : (noneW n b).length = b - n := List.length_replicate ..
    have e1 : n + (b - n) = b := by omega
    rw [e]
    refine ⟨?_, ?_, minOne_app (minOne_none _) (minOne_app (minOne_stay a c) i3)⟩
    · rw [tp_app, ln, e1, tp_app, stay_len, tp_stay, i1]
      unfold noneW
      rw [tp_none]
      rfl
    · rw [List.length_append, List.length_append, ln, stay_len]
      show _ = endN (b + c) rs
      omega
/-- the text, put together -/
theorem merge_text {x u : List Nat} : ∀ (rs : List Rn) (o n : Nat), (∀ r ∈ rs, n ≤ r.2.1) → AscR rs → (∀ r ∈ rs, ∀ i, i < r.2.2 → u[r.2.1 + i]? = x[r.1 + i]?) → (∀ r rs', rs = rs' ++ [r] → u.length ≤ r.2.1 + r.2.2) → (rs = [] → u.length ≤ n) → (∀ r ∈ rs, r.2.1 ≤ u.length) →
    mergeL x (fun p q => (u.drop p).take (q - p)) o n rs = u.drop n
  | [], _, n, _, _, _, _, h0, _ => by
    show [] = _
    rw [List.drop_eq_nil_of_le (h0 rfl)]
  | r :: rs, o, n, hn, ha, hk, hl, _, hu => by
    obtain ⟨a, b, c⟩ := r
    obtain ⟨ha1, ha2⟩ := List.pairwise_cons.mp ha
    have nb := hn _ List.mem_cons_self
    have hk1 := hk _ List.mem_cons_self
    simp only at nb hk1
    have ih := merge_text rs (a + c) (b + c) (fun y hy => (ha1 y hy).2) ha2 (fun y hy => hk y (List.mem_cons_of_mem _ hy)) (fun y rs' e => hl y ((a, b, c) :: rs') (by rw [e]; rfl)) (fun e => hl (a, b, c) [] (by rw [e]; rfl)) (fun y hy => hu y (List.mem_cons_of_mem _ hy))
    show (u.drop n).take (b - n) ++ ((x.drop a).take c ++ mergeL x (fun p q => (u.drop p).take (q - p)) (a + c) (b + c) rs) = u.drop n
    have e1 : (x.drop a).take c = (u.drop b).take c := by
      refine List.ext_getElem? fun k => ?_
      rw [List.getElem?_take, List.getElem?_take, List.getElem?_drop, List.getElem?_drop]
      by_cases hc : k < c
      · rw [if_pos hc, if_pos hc, hk1 k hc]
      · rw [if_neg hc, if_neg hc]
    rw [ih, e1]
    have e2 : u.drop b = (u.drop b).take c ++ u.drop (b + c) := by
      have := (List.take_append_drop c (u.drop b)).symm
      rw [List.drop_drop] at this
      exact this
    have e3 : u.drop n = (u.drop n).take (b - n) ++ u.drop b := by
      have := (List.take_append_drop (b - n) (u.drop n)).symm
      rw [List.drop_drop, show n + (b - n) = b by omega] at this
      exact this
    rw [← e2, ← e3]

/-! ### the one list of edits with a carry: what it leads to -/
theorem runs_last (qs : List (Nat × Nat)) (o n : Nat) : ∃ rs r, canon (qs ++ [(o, n)]) = rs ++ [r] ∧ r.1 + r.2.2 = o + 1 ∧ r.2.1 + r.2.2 = n + 1 := by
  unfold canon joinedL
  rw [List.map_append, List.foldl_append]
  show ∃ rs r, (joinR ((qs.map one1).foldl joinR []) (o, n, 1)).reverse = rs ++ [r] ∧ _
  cases e : (qs.map one1).foldl joinR [] with
  | nil => exact ⟨[], (o, n, 1), rfl, rfl, rfl⟩
  | cons x t =>
    obtain ⟨a, b, d⟩ := x
    show ∃ rs r, (if a + d = o ∧ b + d = n then (a, b, d + 1) :: t else (o, n, 1) :: (a, b, d) :: t).reverse = rs ++ [r] ∧ _
    by_cases c : a + d = o ∧ b + d = n
    · rw [if_pos c, List.reverse_cons]
      exact ⟨_, _, rfl, by simp only; omega, by simp only; omega⟩
    · rw [if_neg c, List.reverse_cons]
      exact ⟨_, _, rfl, rfl, rfl⟩
theorem tags_last {old : Nat} {t : List Int} (h : Tagged old t) : ∃ rs r, canon (tp 0 t) = rs ++ [r] ∧ r.1 + r.2.2 = old + 1 ∧ r.2.1 + r.2.2 = t.length := by
  obtain ⟨s, rfl⟩ := h.last
  rw [tp_snoc, if_pos (Int.natCast_nonneg _), Int.toNat_natCast, Nat.zero_add, List.length_append]
  exact runs_last _ _ _
theorem run_in {qs : List (Nat × Nat)} {r : Rn} (hr : r ∈ canon qs) {i : Nat} (hi : i < r.2.2) : (r.1 + i, r.2.1 + i) ∈ qs := by
  have h : (r.1 + i, r.2.1 + i) ∈ pairsOf (canon qs) := mem_pairsOf.mpr ⟨r, hr, mem_pairs1.mpr ⟨Nat.le_add_right _ _, by simp only; omega, by simp only; omega⟩⟩
  rw [pairsOf_canon] at h
  exact h
def wordN (u : List Nat) (p q : Nat) : List Nat := (u.drop p).take (q - p)
def gapE (u : List Nat) (g : Nat × Nat × Nat × Nat) : Ed := ((g.1 : Int), (g.2.1 : Int), (⟨(wordN u g.2.2.1 g.2.2.2).toArray⟩ : Str))
/-- the edits of a carry to the text u, from the last one to the first -/
def compE (u : List Nat) (rs : List Rn) : List Ed := (gapsL 0 0 rs).reverse.map (gapE u)
theorem comp_fold {α : Type} (g : Str → List α) (B : List α) (u : List Nat) (rs : List Rn) : applG g B (compE u rs) = (gapsL 0 0 rs).reverse.foldl (putG fun p q => g (⟨(wordN u p q).toArray⟩ : Str)) B := by
  unfold applG compE
  rw [List.foldl_map]
  rfl
theorem mergeL_congr {α : Type} {B : List α} {W V : Nat → Nat → List α} : ∀ (rs : List Rn) (o n : Nat), (∀ r ∈ rs, ∀ p, W p r.2.1 = V p r.2.1) → mergeL B W o n rs = mergeL B V o n rs
  | [], _, _, _ => rfl
  | r :: rs, o, n, h => by
    show W n r.2.1 ++ _ = V n r.2.1 ++ _
    rw [h r List.mem_cons_self, mergeL_congr rs _ _ fun x hx => h x (List.mem_cons_of_mem _ hx)]
theorem cs_of (l : List Nat) : cs (⟨l.toArray⟩ : Str) = l := rfl
/-- what a row of tags tells of its runs -/
structure RunsOf (N M : Nat) (rs : List Rn) : Prop where
  asc : AscR rs
  olds : ∀ r ∈ rs, r.1 ≤ N
  news : ∀ r ∈ rs, r.2.1 ≤ M
  ends : ∀ r ∈ rs, r.1 + r.2.2 ≤ N + 1
  lst : ∃ rs' r, rs = rs' ++ [r] ∧ r.1 + r.2.2 = N + 1 ∧ r.2.1 + r.2.2 = M + 1
theorem runs_of {N M : Nat} {t : List Int} (h : Tagged N t) (hl : t.length = M + 1) : RunsOf N M (canon (tp 0 t)) := by
  have pos := canon_pos (tp 0 t)
  refine ⟨canon_asc h, fun r hr => ?_, fun r hr => ?_, fun r hr => ?_, ?_⟩
  · exact (h.le (run_in hr (i := 0) (pos r hr))).1
  · have := (h.le (run_in hr (i := 0) (pos r hr))).2
    simp only at this
    omega
  · have hp := pos r hr
    have := (h.le (run_in hr (i := r.2.2 - 1) (by omega))).1
    simp only at this
    omega
  · rw [← hl]
    exact tags_last h
theorem RunsOf.ne {N M : Nat} {rs : List Rn} (h : RunsOf N M rs) : rs ≠ [] := fun e => by
  obtain ⟨rs', r, e2, _⟩ := h.lst
  rw [e] at e2
  exact absurd (congrArg List.length e2) (by rw [List.length_append]; exact (Nat.succ_ne_zero _).symm)
theorem RunsOf.at_last {N M : Nat} {rs rs' : List Rn} {r : Rn} (h : RunsOf N M rs) (e : rs = rs' ++ [r]) : r.1 + r.2.2 = N + 1 ∧ r.2.1 + r.2.2 = M + 1 := by
  obtain ⟨rs2, r2, e2, h1, h2⟩ := h.lst
  rw [e] at e2
  have := (List.append_inj' e2 rfl).2
  cases this
  exact ⟨h1, h2⟩
theorem comp_text {x : List Nat} {es : List Ed} (h : fitsL x.length es) : appl x (compE (appl x es) (canon (tp 0 (tagsE x.length es)))) = appl x es := by
  obtain ⟨hT, t2⟩ := tags_tagged h
  have lu := appl_len h
  have R := runs_of (M := (appl x es).length) hT (by omega)
  have hk := kept_edits h
  rw [← applG_cs, comp_fold, gaps_merge (fun k => by show wordN _ k k = []; unfold wordN; rw [Nat.sub_self]; rfl) _ 0 0 (fun _ _ => Nat.zero_le _) R.asc (fun e => absurd e R.ne) (fun r rs' e => by have := (R.at_last e).1; omega) R.olds]
  show [] ++ mergeL x (fun p q => wordN (appl x es) p q) 0 0 _ = _
  rw [List.nil_append]
  exact merge_text _ 0 0 (fun _ _ => Nat.zero_le _) R.asc (fun r hr i hi => hk _ _ (mem_tp0.mp (run_in hr hi))) (fun r rs' e => by have := (R.at_last e).2; omega) (fun e => absurd e R.ne) R.news
theorem comp_tags {x : List Nat} {es : List Ed} (h : fitsL x.length es) : tagsE x.length (compE (appl x es) (canon (tp 0 (tagsE x.length es)))) = tagsE x.length es := by
  obtain ⟨hT, t2⟩ := tags_tagged h
  have lu := appl_len h
  have R := runs_of (M := (appl x es).length) hT (by omega)
  have ls := stay_len 0 (x.length + 1)
  have e0 : ∀ fs, tagsE x.length fs = applG tagW (stay 0 (x.length + 1)) fs := fun fs => by
    unfold tagsE
    rw [upTo_stay]
  rw [e0 (compE _ _), comp_fold, gaps_merge (fun k => by show tagW (⟨(wordN _ k k).toArray⟩ : Str) = []; unfold wordN; rw [Nat.sub_self]; rfl) _ 0 0 (fun _ _ => Nat.zero_le _) R.asc (fun e => absurd e R.ne) (fun r rs' e => by have := (R.at_last e).1; omega) (fun r hr => by have := R.olds r hr; omega)]
  show [] ++ mergeL _ _ 0 0 _ = _
  rw [List.nil_append, mergeL_congr (V := noneW) _ 0 0 fun r hr p => by
    have h2 := R.news r hr
    show tagW (⟨(wordN (appl x es) p r.2.1).toArray⟩ : Str) = noneW p r.2.1
    rw [tagW_rep, cs_of]
    unfold wordN noneW
    rw [List.length_take, List.length_drop]
    congr 1
    omega]
  obtain ⟨m1, m2, m3⟩ := merge_tags (N := x.length + 1) (canon (tp 0 (tagsE x.length es))) 0 0 (fun _ _ => Nat.zero_le _) R.asc R.ends
  refine minOne_ext m3 tagsE_min ?_ (by rw [m1, pairsOf_canon])
  obtain ⟨rs', r, e, _, e2⟩ := R.lst
  rw [Nat.add_zero, e, endN_last, e2] at m2
  rw [e]
  omega

/-! ### the one list of edits with a carry: its form, and how long it is -/
abbrev Gp := Nat × Nat × Nat × Nat
theorem gaps_asc : ∀ (rs : List Rn) (o n : Nat), (∀ r ∈ rs, o ≤ r.1 ∧ n ≤ r.2.1) → AscR rs → PosR rs →
    (∀ g ∈ gapsL o n rs, o ≤ g.1 ∧ g.1 ≤ g.2.1 ∧ g.2.2.1 ≤ g.2.2.2 ∧ (g.1 < g.2.1 ∨ g.2.2.1 < g.2.2.2) ∧ ∃ r ∈ rs, g.2.1 = r.1 ∧ g.2.2.2 = r.2.1) ∧ (gapsL o n rs).Pairwise fun g h => g.2.1 < h.1
  | [], _, _, _, _, _ => ⟨fun g hg => (by cases hg), List.Pairwise.nil⟩
  | r :: rs, o, n, hn, ha, hp => by
    obtain ⟨ha1, ha2⟩ := List.pairwise_cons.mp ha
    obtain ⟨h1, h2⟩ := hn r List.mem_cons_self
    have p1 := hp r List.mem_cons_self
    obtain ⟨i1, i2⟩ := gaps_asc rs (r.1 + r.2.2) (r.2.1 + r.2.2) (fun x hx => ha1 x hx) ha2 (fun x hx => hp x (List.mem_cons_of_mem _ hx))
    have tail : ∀ g ∈ gapsL (r.1 + r.2.2) (r.2.1 + r.2.2) rs, o ≤ g.1 ∧ g.1 ≤ g.2.1 ∧ g.2.2.1 ≤ g.2.2.2 ∧ (g.1 < g.2.1 ∨ g.2.2.1 < g.2.2.2) ∧ ∃ x ∈ r :: rs, g.2.1 = x.1 ∧ g.2.2.2 = x.2.1 := fun g hg => by
      obtain ⟨j1, j2, j3, j4, x, hx, j5⟩ := i1 g hg
      exact ⟨by omega, j2, j3, j4, x, List.mem_cons_of_mem _ hx, j5⟩
    by_cases c : r.1 = o ∧ r.2.1 = n
    · have e : gapsL o n (r :: rs) = gapsL (r.1 + r.2.2) (r.2.1 + r.2.2) rs := by
        show (if r.1 = o ∧ r.2.1 = n then [] else [(o, r.1, n, r.2.1)]) ++ _ = _
        rw [if_pos c]
        rfl
      rw [e]
      exact ⟨tail, i2⟩
    · have e : gapsL o n (r :: rs) = (o, r.1, n, r.2.1) :: gapsL (r.1 + r.2.2) (r.2.1 + r.2.2) rs := by
        show (if r.1 = o ∧ r.2.1 = n then [] else [(o, r.1, n, r.2.1)]) ++ _ = _
        rw [if_neg c]
        rfl
      rw [e]
      refine ⟨fun g hg => ?_, List.pairwise_cons.mpr ⟨fun g hg => ?_, i2⟩⟩
      · rcases List.mem_cons.mp hg with rfl | hg
        · exact ⟨Nat.le_refl _, h1, h2, by simp only; omega, r, List.mem_cons_self, rfl, rfl⟩
        · exact tail g hg
      · have := (i1 g hg).1
        show r.1 < g.1
        omega
/-- rows of edits that descend fit -/
theorem desc_fits {N : Nat} {u : List Nat} : ∀ (gs : List Gp) (lo : Nat), (∀ g ∈ gs, lo ≤ g.1 ∧ g.1 ≤ g.2.1 ∧ g.2.1 ≤ N) → (gs.Pairwise fun g h => g.2.1 < h.1) → lo ≤ N → fitsL N (gs.reverse.map (gapE u)) ∧ lo ≤ sizeL N (gs.reverse.map (gapE u))
  | [], _, _, _, h => ⟨trivial, h⟩
  | g :: gs, lo, hg, hp, hl => by
    obtain ⟨p1, p2⟩ := List.pairwise_cons.mp hp
    obtain ⟨g1, g2, g3⟩ := hg g List.mem_cons_self
    obtain ⟨i1, i2⟩ := desc_fits (u := u) gs g.2.1 (fun x hx => ⟨Nat.le_of_lt (p1 x hx), (hg x (List.mem_cons_of_mem _ hx)).2⟩) p2 g3
    have e : ((g :: gs).reverse.map (gapE u)) = gs.reverse.map (gapE u) ++ [gapE u g] := by rw [List.reverse_cons, List.map_append]; rfl
    rw [e, fitsL_snoc, sizeL_snoc]
    refine ⟨⟨i1, ?_⟩, ?_⟩
    · refine ⟨Int.natCast_nonneg _, ?_, ?_⟩
      · show ((g.1 : Nat) : Int) ≤ ((g.2.1 : Nat) : Int)
        omega
      · show ((g.2.1 : Nat) : Int) ≤ _
        omega
    · have e2 : size1 (sizeL N (gs.reverse.map (gapE u))) (gapE u g) = sizeL N (gs.reverse.map (gapE u)) - (g.2.1 - g.1) + (gapE u g).len := rfl
      rw [e2]
      omega
/-- how often the pairs break off -/
def brk : Nat → Nat → List (Nat × Nat) → Nat
  | _, _, [] => 0
  | o, n, q :: qs => (if q.1 = o ∧ q.2 = n then 0 else 1) + brk (q.1 + 1) (q.2 + 1) qs
theorem brk_run : ∀ (c o n : Nat) (qs : List (Nat × Nat)), brk o n (pairs1 (o, n, c) ++ qs) = brk (o + c) (n + c) qs
  | 0, _, _, _ => rfl
  | c + 1, o, n, qs => by
    have e : pairs1 (o, n, c + 1) = (o, n) :: pairs1 (o + 1, n + 1, c) := by
      unfold pairs1
      rw [List.range_succ_eq_map, List.map_cons, List.map_map]
      congr 1
      refine List.map_congr_left fun k _ => ?_
      show (o + (k + 1), n + (k + 1)) = (o + 1 + k, n + 1 + k)
      congr 1 <;> omega
    rw [e]
    show (if o = o ∧ n = n then 0 else 1) + brk (o + 1) (n + 1) (pairs1 (o + 1, n + 1, c) ++ qs) = _
    rw [if_pos ⟨rfl, rfl⟩, brk_run c, Nat.zero_add]
    congr 1 <;> omega
theorem brk_head (o n : Nat) (a b c : Nat) (h : 0 < c) (qs : List (Nat × Nat)) : brk o n (pairs1 (a, b, c) ++ qs) = (if a = o ∧ b = n then 0 else 1) + brk (a + c) (b + c) qs := by
  have e := brk_run c a b qs
  cases c with
  | zero => omega
  | succ c =>
    have e1 : pairs1 (a, b, c + 1) = (a, b) :: pairs1 (a + 1, b + 1, c) := by
      unfold pairs1
      rw [List.range_succ_eq_map, List.map_cons, List.map_map]
      congr 1
      refine List.map_congr_left fun k _ => ?_
      show (a + (k + 1), b + (k + 1)) = (a + 1 + k, b + 1 + k)
      congr 1 <;> omega
    rw [e1] at e ⊢
    have e : (if a = a ∧ b = b then 0 else 1) + brk (a + 1) (b + 1) (pairs1 (a + 1, b + 1, c) ++ qs) = brk (a + (c + 1)) (b + (c + 1)) qs := e
    rw [if_pos ⟨rfl, rfl⟩, Nat.zero_add] at e
    show (if a = o ∧ b = n then 0 else 1) + brk (a + 1) (b + 1) (pairs1 (a + 1, b + 1, c) ++ qs) = _
    rw [e]
theorem gaps_brk : ∀ (rs : List Rn) (o n : Nat), PosR rs → (gapsL o n rs).length = brk o n (pairsOf rs)
  | [], _, _, _ => rfl
  | (a, b, c) :: rs, o, n, hp => by
    have e : pairsOf ((a, b, c) :: rs) = pairs1 (a, b, c) ++ pairsOf rs := rfl
    rw [e, brk_head o n a b c (hp _ List.mem_cons_self), ← gaps_brk rs _ _ fun x hx => hp x (List.mem_cons_of_mem _ hx)]
    show ((if a = o ∧ b = n then [] else [(o, a, n, b)]) ++ gapsL (a + c) (b + c) rs).length = _
    rw [List.length_append]
    by_cases h : a = o ∧ b = n
    · rw [if_pos h, if_pos h]
      rfl
    · rw [if_neg h, if_neg h]
      rfl
/-- where the pairs have come to -/
def adv : Nat × Nat → List (Nat × Nat) → Nat × Nat
  | s, [] => s
  | _, q :: qs => adv (q.1 + 1, q.2 + 1) qs
theorem brk_app : ∀ (p q : List (Nat × Nat)) (o n : Nat), brk o n (p ++ q) = brk o n p + brk (adv (o, n) p).1 (adv (o, n) p).2 q
  | [], _, _, _ => (Nat.zero_add _).symm
  | x :: p, q, o, n => by
    show (if x.1 = o ∧ x.2 = n then 0 else 1) + brk (x.1 + 1) (x.2 + 1) (p ++ q) = (if x.1 = o ∧ x.2 = n then 0 else 1) + brk (x.1 + 1) (x.2 + 1) p + _
    rw [brk_app p q, Nat.add_assoc]
    rfl
def inner : List (Nat × Nat) → Nat
  | [] => 0
  | q :: qs => brk (q.1 + 1) (q.2 + 1) qs
theorem brk_inner (qs : List (Nat × Nat)) (o n : Nat) : inner qs ≤ brk o n qs ∧ brk o n qs ≤ 1 + inner qs := by
  cases qs with
  | nil => exact ⟨Nat.le_refl _, Nat.zero_le _⟩
  | cons q qs =>
    show brk (q.1 + 1) (q.2 + 1) qs ≤ (if q.1 = o ∧ q.2 = n then 0 else 1) + brk (q.1 + 1) (q.2 + 1) qs ∧ (if q.1 = o ∧ q.2 = n then 0 else 1) + brk (q.1 + 1) (q.2 + 1) qs ≤ 1 + brk (q.1 + 1) (q.2 + 1) qs
    by_cases h : q.1 = o ∧ q.2 = n
    · rw [if_pos h]
      omega
    · rw [if_neg h]
      omega
theorem brk_tp : ∀ (t : List Int) (o n k d : Nat), brk o (n + d) (tp (k + d) t) = brk o n (tp k t)
  | [], _, _, _, _ => rfl
  | x :: t, o, n, k, d => by
    have e1 : k + d + 1 = k + 1 + d := by omega
    by_cases h : 0 ≤ x
    · have a1 : tp (k + d) (x :: t) = (x.toNat, k + d) :: tp (k + d + 1) t := if_pos h
      have a2 : tp k (x :: t) = (x.toNat, k) :: tp (k + 1) t := if_pos h
      rw [a1, a2]
      show (if x.toNat = o ∧ k + d = n + d then 0 else 1) + brk (x.toNat + 1) (k + d + 1) (tp (k + d + 1) t) = (if x.toNat = o ∧ k = n then 0 else 1) + brk (x.toNat + 1) (k + 1) (tp (k + 1) t)
      rw [e1, brk_tp t]
      by_cases c : x.toNat = o ∧ k = n
      · rw [if_pos c, if_pos ⟨c.1, by omega⟩]
      · rw [if_neg c, if_neg fun z => c ⟨z.1, by omega⟩]
    · have a1 : tp (k + d) (x :: t) = tp (k + d + 1) t := if_neg h
      have a2 : tp k (x :: t) = tp (k + 1) t := if_neg h
      rw [a1, a2, e1]
      exact brk_tp t o n (k + 1) d
theorem inner_tp : ∀ (t : List Int) (k d : Nat), inner (tp (k + d) t) = inner (tp k t)
  | [], _, _ => rfl
  | x :: t, k, d => by
    have e1 : k + d + 1 = k + 1 + d := by omega
    by_cases h : 0 ≤ x
    · have a1 : tp (k + d) (x :: t) = (x.toNat, k + d) :: tp (k + d + 1) t := if_pos h
      have a2 : tp k (x :: t) = (x.toNat, k) :: tp (k + 1) t := if_pos h
      rw [a1, a2]
      show brk (x.toNat + 1) (k + d + 1) (tp (k + d + 1) t) = brk (x.toNat + 1) (k + 1) (tp (k + 1) t)
      rw [e1, brk_tp t]
    · have a1 : tp (k + d) (x :: t) = tp (k + d + 1) t := if_neg h
      have a2 : tp k (x :: t) = tp (k + 1) t := if_neg h
      rw [a1, a2, e1]
      exact inner_tp t (k + 1) d
theorem brk_edit (t : List Int) (a b m : Nat) (h1 : a ≤ b) (h2 : b ≤ t.length) : brk 0 0 (tp 0 (t.take a ++ List.replicate m (-1) ++ t.drop b)) ≤ 1 + brk 0 0 (tp 0 t) := by
  have la : (t.take a).length = a := by rw [List.length_take]; omega
  have e1 : tp 0 (t.take a ++ List.replicate m (-1) ++ t.drop b) = tp 0 (t.take a) ++ tp (a + m) (t.drop b) := by
    rw [tp_app, tp_app, tp_none, List.append_nil, List.length_append, la, List.length_replicate, Nat.zero_add]
  have e2 : t = t.take a ++ ((t.drop a).take (b - a) ++ t.drop b) := by
    have h := (List.take_append_drop (b - a) (t.drop a)).symm
    rw [List.drop_drop, show a + (b - a) = b by omega] at h
    rw [← h, List.take_append_drop]
  have lm : ((t.drop a).take (b - a)).length = b - a := by rw [List.length_take, List.length_drop]; omega
  have e3 : tp 0 t = tp 0 (t.take a) ++ (tp a ((t.drop a).take (b - a)) ++ tp b (t.drop b)) := by
    have h := congrArg (tp 0) e2
    rw [tp_app, tp_app, la, lm, Nat.zero_add, show a + (b - a) = b by omega] at h
    exact h
  rw [e1, e3, brk_app, brk_app, brk_app]
  have i1 := (brk_inner (tp (a + m) (t.drop b)) (adv (0, 0) (tp 0 (t.take a))).1 (adv (0, 0) (tp 0 (t.take a))).2).2
  have i2 := (brk_inner (tp b (t.drop b)) (adv ((adv (0, 0) (tp 0 (t.take a))).1, (adv (0, 0) (tp 0 (t.take a))).2) (tp a ((t.drop a).take (b - a)))).1 (adv ((adv (0, 0) (tp 0 (t.take a))).1, (adv (0, 0) (tp 0 (t.take a))).2) (tp a ((t.drop a).take (b - a)))).2).1
  have i3 : inner (tp (a + m) (t.drop b)) = inner (tp b (t.drop b)) := by
    have h3 := inner_tp (t.drop b) 0 (a + m)
    have h4 := inner_tp (t.drop b) 0 b
    rw [Nat.zero_add] at h3 h4
    rw [h3, h4]
  omega
theorem comp_len {n : Nat} {u : List Nat} : ∀ {es : List Ed}, fitsL n es → (compE u (canon (tp 0 (tagsE n es)))).length ≤ es.length := by
  intro es h
  unfold compE
  rw [List.length_map, List.length_reverse, gaps_brk _ 0 0 (canon_pos _), pairsOf_canon]
  induction es using rev_ind with
  | h0 =>
    have e : tagsE n [] = stay 0 (n + 1) := upTo_stay (n + 1)
    rw [e, tp_stay]
    have h2 := brk_run (n + 1) 0 0 []
    rw [List.append_nil] at h2
    rw [h2]
    exact Nat.le_refl _
  | h1 es e ih =>
    obtain ⟨f1, f2⟩ := (fitsL_snoc _ _ _).mp h
    obtain ⟨_, t2⟩ := tags_tagged f1
    obtain ⟨a1, a2, a3⟩ := f2
    have h2 := brk_edit (tagsE n es) e.1.toNat e.2.1.toNat e.len (by omega) (by omega)
    have h3 := ih f1
    rw [tagsE_snoc, List.length_append]
    show _ ≤ es.length + 1
    omega
/-- the list for the edits: it fits, and it descends -/
theorem comp_fits {n : Nat} {u : List Nat} {es : List Ed} (h : fitsL n es) : fitsL n (compE u (canon (tp 0 (tagsE n es)))) := by
  obtain ⟨hT, t2⟩ := tags_tagged h
  have R := runs_of (M := sizeL n es) hT t2
  obtain ⟨g1, g2⟩ := gaps_asc (canon (tp 0 (tagsE n es))) 0 0 (fun _ _ => ⟨Nat.zero_le _, Nat.zero_le _⟩) R.asc (canon_pos _)
  refine (desc_fits (u := u) _ 0 (fun g hg => ?_) g2 (Nat.zero_le _)).1
  obtain ⟨j1, j2, _, _, r, hr, j3, _⟩ := g1 g hg
  exact ⟨j1, j2, by rw [j3]; exact R.olds r hr⟩

/-! ### an edit of nothing by nothing; the form that the law of compact asks -/
theorem take_drop_same {α : Type} (t : List α) (p : Nat) : t.take p ++ [] ++ t.drop p = t := by rw [List.append_nil, List.take_append_drop]
def nullE (p : Nat) : Ed := ((p : Int), (p : Int), Str.empty)
theorem cs_empty : cs Str.empty = [] := rfl
theorem null_size (n p : Nat) : size1 n (nullE p) = n := by
  have e : size1 n (nullE p) = n - (p - p) + 0 := rfl
  rw [e]
  omega
theorem null_applG {α : Type} {g : Str → List α} (hg : g Str.empty = []) (t : List α) (p : Nat) : spl1G g t (nullE p) = t := by
  show t.take p ++ g Str.empty ++ t.drop p = t
  rw [hg, take_drop_same]
theorem null_fits {n p : Nat} {es : List Ed} {k : Nat} (h : fitsL n es) (hp : p ≤ sizeL n (es.take k)) : fitsL n (es.take k ++ [nullE p] ++ es.drop k) := by
  have e := List.take_append_drop k es
  rw [← e] at h
  obtain ⟨h1, h2⟩ := fitsL_app.mp h
  rw [fitsL_app, fitsL_snoc, sizeL_snoc, null_size]
  exact ⟨⟨h1, Int.natCast_nonneg _, Int.le_refl _, by show ((p : Nat) : Int) ≤ _; omega⟩, h2⟩
theorem null_mid {α : Type} {g : Str → List α} (hg : g Str.empty = []) (t : List α) (es : List Ed) (k p : Nat) : applG g t (es.take k ++ [nullE p] ++ es.drop k) = applG g t es := by
  have e : ∀ l : List Ed, applG g t l = l.foldl (spl1G g) t := fun _ => rfl
  rw [e, e, List.foldl_append, List.foldl_append]
  show (es.drop k).foldl (spl1G g) (spl1G g ((es.take k).foldl (spl1G g) t) (nullE p)) = _
  rw [null_applG hg, ← List.foldl_append, List.take_append_drop]
theorem null_text (x : List Nat) (es : List Ed) (k p : Nat) : appl x (es.take k ++ [nullE p] ++ es.drop k) = appl x es := null_mid cs_empty x es k p
theorem null_tags (n : Nat) (es : List Ed) (k p : Nat) : tagsE n (es.take k ++ [nullE p] ++ es.drop k) = tagsE n es := null_mid rfl _ es k p
/-- each edit of the list ends ahead of the one before it, and none is nothing for nothing -/
def Desc : Int → List Ed → Prop
  | _, [] => True
  | b, e :: es => 0 ≤ e.1 ∧ e.1 ≤ e.2.1 ∧ e.2.1 < b ∧ ¬ (e.1 = e.2.1 ∧ e.2.2 = Str.empty) ∧ Desc e.1 es
theorem desc_snoc : ∀ (es : List Ed) (b : Int) (e : Ed), Desc b es → 0 ≤ e.1 → e.1 ≤ e.2.1 → e.2.1 < b → (∀ x ∈ es, e.2.1 < x.1) → ¬ (e.1 = e.2.1 ∧ e.2.2 = Str.empty) → Desc b (es ++ [e])
  | [], _, _, _, h1, h2, h3, _, h4 => ⟨h1, h2, h3, h4, trivial⟩
  | x :: es, b, e, ⟨d1, d2, d3, d4, d5⟩, h1, h2, _, h, h4 => ⟨d1, d2, d3, d4, desc_snoc es x.1 e d5 h1 h2 (h x List.mem_cons_self) (fun y hy => h y (List.mem_cons_of_mem _ hy)) h4⟩
theorem desc_gaps {N : Nat} {u : List Nat} : ∀ (gs : List Gp), (∀ g ∈ gs, g.1 ≤ g.2.1 ∧ g.2.1 ≤ N ∧ (g.1 < g.2.1 ∨ g.2.2.1 < g.2.2.2) ∧ g.2.2.2 ≤ u.length) → (gs.Pairwise fun g h => g.2.1 < h.1) → Desc ((N : Int) + 1) (gs.reverse.map (gapE u))
  | [], _, _ => trivial
  | g :: gs, hg, hp => by
    obtain ⟨p1, p2⟩ := List.pairwise_cons.mp hp
    obtain ⟨g1, g2, g3, g4⟩ := hg g List.mem_cons_self
    have e : ((g :: gs).reverse.map (gapE u)) = gs.reverse.map (gapE u) ++ [gapE u g] := by rw [List.reverse_cons, List.map_append]; rfl
    rw [e]
    refine desc_snoc _ _ _ (desc_gaps gs (fun x hx => hg x (List.mem_cons_of_mem _ hx)) p2) (Int.natCast_nonneg _) ?_ ?_ (fun x hx => ?_) ?_
    · show ((g.1 : Nat) : Int) ≤ ((g.2.1 : Nat) : Int)
      omega
    · show ((g.2.1 : Nat) : Int) < _
      omega
    · obtain ⟨h, hh, rfl⟩ := List.mem_map.mp hx
      have := p1 h (List.mem_reverse.mp hh)
      show ((g.2.1 : Nat) : Int) < ((h.1 : Nat) : Int)
      omega
    · rintro ⟨z1, z2⟩
      have z1 : ((g.1 : Nat) : Int) = ((g.2.1 : Nat) : Int) := z1
      have z3 : wordN u g.2.2.1 g.2.2.2 = [] := congrArg cs z2
      have z4 := congrArg List.length z3
      unfold wordN at z4
      rw [List.length_take, List.length_drop] at z4
      have z5 : ([] : List Nat).length = 0 := rfl
      omega
theorem comp_desc {n : Nat} {u : List Nat} {es : List Ed} (h : fitsL n es) (hu : sizeL n es = u.length) : Desc ((n : Int) + 1) (compE u (canon (tp 0 (tagsE n es)))) := by
  obtain ⟨hT, t2⟩ := tags_tagged h
  have R := runs_of (M := sizeL n es) hT t2
  obtain ⟨g1, g2⟩ := gaps_asc (canon (tp 0 (tagsE n es))) 0 0 (fun _ _ => ⟨Nat.zero_le _, Nat.zero_le _⟩) R.asc (canon_pos _)
  refine desc_gaps _ (fun g hg => ?_) g2
  obtain ⟨_, j2, _, j4, r, hr, j5, j6⟩ := g1 g hg
  exact ⟨j2, by rw [j5]; exact R.olds r hr, j4, by rw [j6, ← hu]; exact R.news r hr⟩
/-- once more: the same list -/
theorem comp_again {x : List Nat} {es : List Ed} (h : fitsL x.length es) :
    compE (appl x (compE (appl x es) (canon (tp 0 (tagsE x.length es))))) (canon (tp 0 (tagsE x.length (compE (appl x es) (canon (tp 0 (tagsE x.length es))))))) = compE (appl x es) (canon (tp 0 (tagsE x.length es))) := by
  rw [comp_text h, comp_tags h]

/-! ### compact, asked -/
def spCompact (CE : Addr) : Sp := fun vs H Q E => ∃ (z : Str) (l : Addr) (es : List Ed), vs = [.str z, .ref l] ∧ EdsAt H l es ∧ Short es ∧ es.length ≤ 400 ∧ (cs z).length ≤ 2000 ∧ TOk z ∧
  (fitsL (cs z).length es → ∀ d H', Same H H' → H d = none → EdsAt H' d (compE (appl (cs z) es) (canon (tp 0 (tagsE (cs z).length es)))) → Q (.ref d) H') ∧ (∀ k, unfit (cs z).length es = some k → ErrAt CE H E k)
theorem comp_short {u : List Nat} {rs : List Rn} (hu : u.length ≤ 2000) (ho : ∀ c ∈ u, c < 1114112) : Short (compE u rs) := fun e he => by
  obtain ⟨g, _, rfl⟩ := List.mem_map.mp he
  constructor
  · show (wordN u g.2.2.1 g.2.2.2).length ≤ 2000
    unfold wordN
    rw [List.length_take, List.length_drop]
    omega
  · exact fun c hc => ho c (List.mem_of_mem_drop (List.mem_of_mem_take hc))

/-! ### compact, as the program does it -/
theorem if_dec {tt : L2.TT} {a b : L2.TS} {D : L2.Ends} {σ : L2.St} {H : Hp} (c : Bool) (h : ∀ Qb : Bool → Hp → Prop, Qb c H → tt σ H Qb) (ha : c = true → a D σ H) (hb : c = false → b D σ H) : tIfS tt a b D σ H := h _ (by
  cases c
  · exact iteF (hb rfl)
  · exact iteT (ha rfl))
theorem gaps_len : ∀ (rs : List Rn) (o n : Nat), (gapsL o n rs).length ≤ rs.length
  | [], _, _ => Nat.le_refl _
  | r :: rs, o, n => by
    have ih := gaps_len rs (r.1 + r.2.2) (r.2.1 + r.2.2)
    show ((if r.1 = o ∧ r.2.1 = n then [] else [(o, r.1, n, r.2.1)]) ++ gapsL (r.1 + r.2.2) (r.2.1 + r.2.2) rs).length ≤ rs.length + 1
    rw [List.length_append]
    split
    · show 0 + _ ≤ _
      omega
    · show 1 + _ ≤ _
      omega
/-- where the walk over the runs stands -/
def GapSt (rs : List Rn) (i o n : Nat) (gs : List Gp) : Prop := gapsL 0 0 rs = gs ++ gapsL o n (rs.drop i) ∧ (∀ r ∈ rs.drop i, o ≤ r.1 ∧ n ≤ r.2.1) ∧ AscR (rs.drop i)
theorem GapSt.start {rs : List Rn} (h : AscR rs) : GapSt rs 0 0 0 [] := by
  refine ⟨rfl, fun r _ => ⟨Nat.zero_le _, Nat.zero_le _⟩, ?_⟩
  exact h
theorem drop_cons {α : Type} : ∀ {l : List α} {i : Nat} {x : α}, l[i]? = some x → l.drop i = x :: l.drop (i + 1)
  | [], _, _, h => by cases h
  | a :: l, 0, x, h => by
    obtain rfl := Option.some.inj h
    rfl
  | a :: l, i + 1, x, h => drop_cons (l := l) (i := i) h
theorem GapSt.next {rs : List Rn} {i o n : Nat} {gs : List Gp} {r : Rn} (h : GapSt rs i o n gs) (hr : rs[i]? = some r) :
    GapSt rs (i + 1) (r.1 + r.2.2) (r.2.1 + r.2.2) (gs ++ if r.1 = o ∧ r.2.1 = n then [] else [(o, r.1, n, r.2.1)]) ∧ o ≤ r.1 ∧ n ≤ r.2.1 := by
  obtain ⟨h1, h2, h3⟩ := h
  have hd := drop_cons hr
  rw [hd] at h1 h2 h3
  obtain ⟨a1, a2⟩ := List.pairwise_cons.mp h3
  obtain ⟨k1, k2⟩ := h2 r List.mem_cons_self
  refine ⟨⟨?_, fun x hx => a1 x hx, a2⟩, k1, k2⟩
  rw [h1, List.append_assoc]
  rfl
theorem GapSt.done {rs : List Rn} {o n : Nat} {gs : List Gp} (h : GapSt rs rs.length o n gs) : gapsL 0 0 rs = gs := by
  obtain ⟨h1, _, _⟩ := h
  rw [List.drop_length] at h1
  rw [h1]
  exact List.append_nil _
theorem word_cut (z : Str) {u : List Nat} (hz : cs z = u) (p q : Nat) : cutS z (some (p : Int)) (some (q : Int)) = (⟨(wordN u p q).toArray⟩ : Str) := by
  refine mkS_eq ?_
  rw [cut_mid, hz, List.drop_take]
  rfl
theorem ok_compact (T : Txt K mg) : FnOk P w K mg base (L2.CX P w) 6 T.a_compact T.fd_compact ["text", "edits"] (spCompact T.C_EditError) := by
  have G_apply : FnOk P w K mg base (L2.CX P w) 5 T.a_apply T.fd_apply ["text", "edits"] (spApply T.C_EditError) := ok_apply T
  have G_carry_of : FnOk P w K mg base (L2.CX P w) 5 T.a_carry_of T.fd_carry_of ["length", "edits"] (spCarryOf T.C_Carry T.C_EditError) := ok_carry_of T
  refine T.F_compact.okX sc_compact (fun vs H Q E h => ?_) (fun cdv A outer s H vs Q E hr h => ?_)
  · obtain ⟨z, l, es, rfl, _⟩ := h
    rfl
  · have hr_apply : Room 5 _ := hr
    have hr_carry_of : Room 5 _ := hr
    have hr_Carry___iter__ : Room 1 _ := hr.mono (by decide)
    obtain ⟨z, l, es, rfl, hE, hS, hn, hz, hzo, q1, q2⟩ := h
    have lz := len_cs z
    refine ⟨_, (pss_cons (ps_set (i := 2) sc_compact.nd rfl (.inl rfl) (pe_call G_apply hr_apply (by rfl) T.g_apply T.F_apply.kp T.b_apply .nil (passes_call (takes_of rfl rfl rfl rfl) (fun _ _ _ _ z => z)) (pa_cons (pv 0) (pa_cons (pv 1) pa_nil))))
      (pss_cons (ps_set (i := 3) sc_compact.nd rfl (.inl rfl) (pe_lst pa_nil))
      (pss_cons (ps_asg (pe_tup (pa_cons pe_int (pa_cons pe_int pa_nil))) (pg_tup (by rfl) (pgs_cons (pg_name (i := 4) sc_compact.nd rfl (.inl rfl)) (pgs_cons (pg_name (i := 5) sc_compact.nd rfl (.inl rfl)) pgs_nil))))
      (pss_cons (ps_for (passes_of rfl) rfl (OwnOp.pi_own (pe_call G_carry_of hr_carry_of (by rfl) T.g_carry_of T.F_carry_of.kp T.b_carry_of .nil (passes_call (takes_of rfl rfl rfl rfl) (fun _ _ _ _ z => z)) (pa_cons (pe_callB call_len_str (by rfl) T.m_len PySem.boot_len (pa_cons (pv 0) pa_nil)) (pa_cons (pv 1) pa_nil))) hr_Carry___iter__ T.IT_Carry T.F_Carry___iter__ sc_Carry___iter__ (it_Carry___iter__ T) T.b_Carry___iter__) (pg_tup (by rfl) (pgs_cons (pg_name (i := 6) sc_compact.nd rfl (.inl rfl)) (pgs_cons (pg_name (i := 7) sc_compact.nd rfl (.inl rfl)) (pgs_cons (pg_name (i := 8) sc_compact.nd rfl (.inl rfl)) pgs_nil)))) (pss_cons (ps_if (PW.pt (pw_or (pt_cmpR op_lt (pv 4) (pv 6) (nomark _)) (pw_or1 (pt_cmpR op_lt (pv 5) (pv 7) (nomark _))))) (pss_one (ps_expr (pe_bm PySem.F.plainAttrs_list PySem.F.slot_list_append PySem.F.type_list_append mt_append (pv 3) (pa_cons (pe_tup (pa_cons (pv 4) (pa_cons (pv 6) (pa_cons (pe_slice sl_str (pv 2) (po_some (pv 5)) (po_some (pv 7))) pa_nil)))) pa_nil)))) pss_nil)
      (pss_one (ps_par (i := 4) (j := 5) (by rfl) sc_compact.nd rfl rfl (by decide) rfl rfl (pa_cons (pe_op op_add (pv 6) (pv 8)) (pa_cons (pe_op op_add (pv 7) (pv 8)) pa_nil)) (by rfl)))))
      (pss_cons (ps_expr (pe_bm0 PySem.F.plainAttrs_list PySem.F.slot_list_reverse PySem.F.type_list_reverse mt_reverse (pv 3)))
      (pss_one (ps_ret (pv 3)))))))), ?_⟩
    refine ⟨_, rfl, _, rfl, z, l, es, rfl, hE, hS.sized, by omega, by omega, hzo, short_lim2 hS hz (by omega), fun hf H1 s1 => ?_, fun k hk => q2 k hk⟩
    refine ⟨Nat.zero_le _, fun p np => ?_⟩
    have s2 := same_upd (o := .lst []) np
    refine ⟨by show 2 ≤ sizeLine; decide, fun t0 nt0 => ⟨t0, _, rfl, SqT.of upd_same, rfl, _, _, rfl, _, _, rfl, rfl, ?_⟩⟩
    have s3 := same_upd (o := .tup [.int 0, .int 0]) nt0
    obtain ⟨u, eu⟩ : ∃ u, u = appl (cs z) es := ⟨_, rfl⟩
    obtain ⟨rs, ers⟩ : ∃ rs, rs = canon (tp 0 (tagsE (cs z).length es)) := ⟨_, rfl⟩
    have lu : u.length = sizeL (cs z).length es := by rw [eu]; exact appl_len hf
    obtain ⟨tg1, tg2⟩ := tags_tagged hf
    have asc : AscR rs := by rw [ers]; exact canon_asc tg1
    have lrs : rs.length ≤ u.length + 1 := by rw [ers, lu, ← tg2]; exact canon_len _
    have lu2 := short_lim hS hf
    rw [← eu] at lu2
    have np1 : H p = none := s1.free np
    -- carry_of(len(text), edits)
    refine ⟨_, rfl, z, rfl, sz1 (by omega), _, rfl, (cs z).length, l, es, by rw [← lz]; rfl, hE.mono ((s1.trans s2).trans s3), hS.sized, by omega, short_sizes hS (by omega) hn, fun _ c H2 s4 nc hC => ?_, fun k hk => absurd hk (by rw [unfit_none.mpr hf]; exact fun z => by cases z)⟩
    obtain ⟨t, ⟨dx, hc⟩, us, hus, hue⟩ := hC
    rw [← ers] at hue
    have lus := paired_len hue
    have s14 := ((s1.trans s2).trans s3).trans s4
    refine ⟨c, dx, _, t, us, rfl, hc, ⟨dx, _, _, hc⟩, SqT.of hus, ?_⟩
    refine for_tup (K := K) (a := t) (xs := us) (fun i σ H' => Same H H' ∧ H' t = some (.tup us) ∧ RnsIn H' us rs ∧ ∃ (o n : Nat) (gs : List Gp) (ws : List V) (y6 y7 y8 : Option V), σ = [some (.str z), some (.ref l), some (.str ⟨u.toArray⟩), some (.ref p), some (.int (o : Int)), some (.int (n : Int)), y6, y7, y8] ∧
        H' p = some (.lst ws) ∧ EdsIn H' ws (gs.map (gapE u)) ∧ GapSt rs i o n gs)
      ⟨s14, hus, hue, 0, 0, [], [], none, none, none, by rw [eu]; rfl, s4 _ _ (s3 _ _ upd_same), .nil, GapSt.start asc⟩ (fun i σ H' _ ⟨_, s, _⟩ => SqT.of s) ?_ ?_
    · rintro i x σ H3 hx ⟨sm, ht3, hu3, o, n, gs, ws, y6, y7, y8, rfl, hp, hw, hg⟩
      obtain ⟨r, hr⟩ : ∃ e, rs[i]? = some e := ⟨_, List.getElem?_eq_getElem (by rw [← lus]; exact (List.getElem?_eq_some_iff.mp hx).1)⟩
      obtain ⟨x', hx', q, rfl, hq⟩ := paired_get hu3 hr
      rw [hx] at hx'
      obtain rfl := Option.some.inj hx'
      obtain ⟨g1, k1, k2⟩ := hg.next hr
      have lgs : gs.length ≤ rs.length := by
        have e := gaps_len rs 0 0
        rw [hg.1, List.length_append] at e
        omega
      have lws := paired_len hw
      rw [List.length_map] at lws
      refine ⟨q, _, rfl, SqT.of hq, rfl, _, _, rfl, _, _, rfl, _, _, rfl, rfl, ?_⟩
      refine if_dec (decide (¬ (r.1 = o ∧ r.2.1 = n))) (fun Qb yes => ?_) (fun c => ?_) (fun c => ?_)
      · refine ⟨_, rfl, _, rfl, _, _, rfl, rfl, _, rfl, ite2 (fun c1 => ?_) (fun c1 => ?_)⟩
        · have c1 : (o : Int) < (r.1 : Int) := of_decide_eq_true c1
          rw [show decide (¬ (r.1 = o ∧ r.2.1 = n)) = true from decide_eq_true (by omega)] at yes
          exact yes
        · have c1 : ¬ (o : Int) < (r.1 : Int) := fun z => c1 (decide_eq_true z)
          refine ⟨_, rfl, _, rfl, _, _, rfl, rfl, _, rfl, ?_⟩
          rw [show decide ((n : Int) < (r.2.1 : Int)) = decide (¬ (r.1 = o ∧ r.2.1 = n)) from decide_eq_decide.mpr (by omega)]
          exact yes
      · have c : ¬ (r.1 = o ∧ r.2.1 = n) := of_decide_eq_true c
        rw [if_neg c] at g1
        refine ⟨_, rfl, .inl ⟨rfl, _, SqL.of hp⟩, _, rfl, _, rfl, _, rfl, _, rfl, _, rfl, _, rfl, _, rfl, _, rfl, szM (by rw [len_cs, cs_of]; omega), ?_⟩
        rw [word_cut _ (cs_of u)]
        refine ⟨by show 3 ≤ sizeLine; decide, fun a na => ?_⟩
        have s5 := same_upd (o := .tup [.int (o : Int), .int (r.1 : Int), .str (⟨(wordN u n r.2.1).toArray⟩ : Str)]) na
        have pa : p ≠ a := ne_of_none hp na
        have ta : t ≠ a := ne_of_none ht3 na
        refine ⟨p, ws, _, rfl, rfl, s5 _ _ hp, Nat.lt_of_lt_of_le (show ws.length < 4000000 by omega) (by decide), ?_⟩
        refine ⟨_, rfl, _, rfl, _, _, rfl, rfl, _, rfl, _, rfl, _, _, rfl, rfl, _, _, rfl, ?_⟩
        have hp5 := s5 _ _ hp
        have tp0 : t ≠ p := fun e => by rw [e, hp] at ht3; cases ht3
        have tt : Tups H3 (upd (upd H3 a (.tup [.int (o : Int), .int (r.1 : Int), .str (⟨(wordN u n r.2.1).toArray⟩ : Str)])) p (.lst (ws ++ [.ref a]))) := Tups.trans (Tups.new na) (Tups.mut hp5)
        refine ⟨same_mut (sm.trans s5) np1, by rw [upd_ne tp0]; exact s5 _ _ ht3, hu3.mono tt, r.1 + r.2.2, r.2.1 + r.2.2, _, _, _, _, _, by rw [Int.natCast_add, Int.natCast_add]; rfl, upd_same, ?_, g1⟩
        rw [List.map_append]
        refine paired_app (hw.mono tt) (.cons ⟨a, rfl, ?_⟩ .nil)
        rw [upd_ne pa.symm, upd_same]
        rfl
      · have c : r.1 = o ∧ r.2.1 = n := Decidable.not_not.mp (of_decide_eq_false c)
        rw [if_pos c, List.append_nil] at g1
        refine ⟨_, rfl, _, rfl, _, _, rfl, rfl, _, rfl, _, rfl, _, _, rfl, rfl, _, _, rfl, ?_⟩
        exact ⟨sm, ht3, hu3, r.1 + r.2.2, r.2.1 + r.2.2, gs, ws, _, _, _, by rw [Int.natCast_add, Int.natCast_add]; rfl, hp, hw, g1⟩
    · rintro σ H3 ⟨sm, ht3, hu3, o, n, gs, ws, y6, y7, y8, rfl, hp, hw, hg⟩
      rw [lus] at hg
      have hd := hg.done
      refine ⟨_, rfl, .inl ⟨rfl, _, SqL.of hp⟩, p, ws, rfl, rfl, hp, _, rfl, ?_⟩
      have hw9 : EdsIn H3 ws.reverse ((gs.map (gapE u)).reverse) := paired_rev hw
      refine q1 hf p _ (same_mut sm np1) np1 ⟨_, upd_same, ?_⟩
      rw [← ers, ← eu]
      show EdsIn _ _ ((gapsL 0 0 rs).reverse.map (gapE u))
      rw [hd, List.map_reverse]
      exact hw9.mono (Tups.mut hp)

/-! ### ropes, in plain Lean -/
inductive RT where
  | leaf (p : Addr) (z : Str)
  | node (p : Addr) (l r : RT)
def RT.at : RT → Addr
  | .leaf p _ => p
  | .node p _ _ => p
def RT.size : RT → Nat
  | .leaf _ z => (cs z).length
  | .node _ l r => l.size + r.size
def RT.ht : RT → Nat
  | .leaf _ z => min (cs z).length 1
  | .node _ l r => 1 + max l.ht r.ht
def RT.txt : RT → List Nat
  | .leaf _ z => cs z
  | .node _ l r => l.txt ++ r.txt
/-- a rope that is not empty -/
def RT.Sol : RT → Prop
  | .leaf _ z => 1 ≤ (cs z).length ∧ (cs z).length ≤ 16
  | .node _ l r => l.Sol ∧ r.Sol ∧ l.ht ≤ r.ht + 1 ∧ r.ht ≤ l.ht + 1
def RT.Ok (t : RT) : Prop := (∃ p z, cs z = [] ∧ t = .leaf p z) ∨ t.Sol
theorem RT.txt_len : ∀ t : RT, t.txt.length = t.size
  | .leaf _ _ => rfl
  | .node _ l r => by
    show (l.txt ++ r.txt).length = l.size + r.size
    rw [List.length_append, RT.txt_len l, RT.txt_len r]
theorem RT.Sol.pos : ∀ {t : RT}, t.Sol → 1 ≤ t.size ∧ 1 ≤ t.ht
  | .leaf _ z, h => by
    have h1 := h.1
    show 1 ≤ (cs z).length ∧ 1 ≤ min (cs z).length 1
    omega
  | .node _ l r, h => by
    have h1 := RT.Sol.pos h.1
    show 1 ≤ l.size + r.size ∧ 1 ≤ 1 + max l.ht r.ht
    omega
theorem RT.Ok.zero {t : RT} (h : t.Ok) (e : t.size = 0) : ∃ p z, cs z = [] ∧ t = .leaf p z := by
  rcases h with h | h
  · exact h
  · have := h.pos.1
    omega
theorem RT.Ok.sol {t : RT} (h : t.Ok) (e : t.size ≠ 0) : t.Sol := by
  rcases h with h | h
  · obtain ⟨p, z, hz, rfl⟩ := h
    exact absurd (congrArg List.length hz) e
  · exact h
theorem RT.Ok.ht0 {t : RT} (h : t.Ok) : t.size = 0 → t.ht = 0 := fun e => by
  obtain ⟨p, z, hz, rfl⟩ := h.zero e
  show min (cs z).length 1 = 0
  rw [hz]
  rfl
/-- heights are small -/
theorem RT.Sol.low : ∀ {t : RT}, t.Sol → 2 ^ (t.ht - 1) ≤ t.size * t.size
  | .leaf _ z, h => by
    obtain ⟨h1, h2⟩ := h
    have e : min (cs z).length 1 = 1 := by
      omega
    show 2 ^ (min (cs z).length 1 - 1) ≤ (cs z).length * (cs z).length
    rw [e]
    show 2 ^ 0 ≤ (cs z).length * (cs z).length
    have := Nat.mul_le_mul h1 h1
    omega
  | .node _ l r, h => by
    obtain ⟨hl, hr, b1, b2⟩ := h
    have il := RT.Sol.low hl
    have ir := RT.Sol.low hr
    have pl := hl.pos
    have pr := hr.pos
    show 2 ^ (1 + max l.ht r.ht - 1) ≤ (l.size + r.size) * (l.size + r.size)
    have key : ∀ a b : Nat, ∀ x y : Nat, 1 ≤ x → x ≤ y + 1 → y ≤ x + 1 → 1 ≤ y → 1 ≤ a → 1 ≤ b → 2 ^ (x - 1) ≤ a * a → 2 ^ (y - 1) ≤ b * b → y ≤ x → 2 ^ x ≤ (a + b) * (a + b) := fun a b x y x1 xy yx y1 a1 b1 ha hb hyx => by
      have e1 : 2 ^ x = 2 * 2 ^ (x - 1) := by
        rw [← Nat.pow_succ']
        congr 1
        omega
      have h2 : 2 ^ (x - 1) ≤ 2 * (b * b) := by
        have h3 : 2 ^ (x - 1) ≤ 2 ^ (y - 1 + 1) := Nat.pow_le_pow_right (by decide) (by omega)
        rw [Nat.pow_succ] at h3
        omega
      have e2 : (a + b) * (a + b) = a * a + b * b + 2 * (a * b) := by
        rw [Nat.add_mul, Nat.mul_add, Nat.mul_add, Nat.mul_comm b a]
        omega
      have h4 : a ≤ b ∨ b ≤ a := Nat.le_total a b
      rw [e1, e2]
      rcases h4 with h4 | h4
      · have h5 := Nat.mul_le_mul_left a h4
        omega
      · have h5 := Nat.mul_le_mul_right b h4
        rw [Nat.mul_comm a b] at *
        omega
    rcases Nat.le_total r.ht l.ht with c | c
    · rw [show 1 + max l.ht r.ht - 1 = l.ht by omega]
      exact key l.size r.size l.ht r.ht pl.2 (by omega) (by omega) pr.2 pl.1 pr.1 il ir c
    · rw [show 1 + max l.ht r.ht - 1 = r.ht by omega, Nat.add_comm l.size]
      exact key r.size l.size r.ht l.ht pr.2 (by omega) (by omega) pl.2 pr.1 pl.1 ir il c
theorem RT.Ok.low {t : RT} (h : t.Ok) (hs : t.size < 16384) : t.ht ≤ 28 := by
  by_cases e : t.size = 0
  · rw [h.ht0 e]
    decide
  · have h1 := (h.sol e).low
    have h2 : t.size * t.size ≤ 16383 * 16383 := Nat.mul_le_mul (by omega) (by omega)
    by_cases c : t.ht ≤ 28
    · exact c
    · have h3 : 2 ^ 28 ≤ 2 ^ (t.ht - 1) := Nat.pow_le_pow_right (by decide) (by omega)
      omega
/-- the pieces, in their order -/
def RT.lvs : RT → List (Addr × Str)
  | .leaf p z => if (cs z).length = 0 then [] else [(p, z)]
  | .node _ l r => l.lvs ++ r.lvs
theorem RT.txt_lvs : ∀ t : RT, t.txt = (t.lvs.map fun x => cs x.2).flatten
  | .leaf p z => by
    show cs z = ((if (cs z).length = 0 then [] else [(p, z)] : List (Addr × Str)).map fun x => cs x.2).flatten
    split
    · rename_i h
      exact List.eq_nil_of_length_eq_zero h
    · simp
  | .node _ l r => by
    show l.txt ++ r.txt = ((l.lvs ++ r.lvs).map fun x => cs x.2).flatten
    rw [List.map_append, List.flatten_append, RT.txt_lvs l, RT.txt_lvs r]
theorem RT.size_lvs {a b c : RT} (h : a.lvs = b.lvs ++ c.lvs) : a.txt = b.txt ++ c.txt ∧ a.size = b.size + c.size := by
  have e : a.txt = b.txt ++ c.txt := by rw [RT.txt_lvs, h, List.map_append, List.flatten_append, ← RT.txt_lvs, ← RT.txt_lvs]
  refine ⟨e, ?_⟩
  rw [← RT.txt_len, e, List.length_append, RT.txt_len, RT.txt_len]
theorem RT.Ok.lvs0 {t : RT} (h : t.Ok) (e : t.size = 0) : t.lvs = [] := by
  obtain ⟨p, z, hz, rfl⟩ := h.zero e
  show (if (cs z).length = 0 then [] else [(p, z)] : List (Addr × Str)) = []
  rw [hz]
  rfl

/-! ### ropes, where they stand -/
def rfl5 (z : Str) (a b : V) (n h : Nat) : List (Str × V) := putF "height" (.int (h : Int)) (putF "size" (.int (n : Int)) (putF "right" b (putF "left" a (putF "piece" (.str z) []))))
theorem putF_le (f : Str) (v : V) : ∀ fs : List (Str × V), (putF f v fs).length ≤ fs.length + 1
  | [] => Nat.le_refl _
  | (g, u) :: r => by
    have ih := putF_le f v r
    show (if g = f then _ else _ : List (Str × V)).length ≤ _
    split
    · rw [List.length_cons, List.length_cons]
      omega
    · rw [List.length_cons, List.length_cons]
      omega
section
variable (z : Str) (a b : V) (n h : Nat)
theorem r5h : (rfl5 z a b n h).lookup ("height" : Str) = some (.int (h : Int)) := by
  unfold rfl5
  rw [lookup_putF, if_pos rfl]
theorem r5n : (rfl5 z a b n h).lookup ("size" : Str) = some (.int (n : Int)) := by
  unfold rfl5
  rw [lookup_putF, if_neg (by decide +kernel), lookup_putF, if_pos rfl]
theorem r5b : (rfl5 z a b n h).lookup ("right" : Str) = some b := by
  unfold rfl5
  rw [lookup_putF, if_neg (by decide +kernel), lookup_putF, if_neg (by decide +kernel), lookup_putF, if_pos rfl]
theorem r5a : (rfl5 z a b n h).lookup ("left" : Str) = some a := by
  unfold rfl5
  rw [lookup_putF, if_neg (by decide +kernel), lookup_putF, if_neg (by decide +kernel), lookup_putF, if_neg (by decide +kernel), lookup_putF, if_pos rfl]
theorem r5z : (rfl5 z a b n h).lookup ("piece" : Str) = some (.str z) := by
  unfold rfl5
  rw [lookup_putF, if_neg (by decide +kernel), lookup_putF, if_neg (by decide +kernel), lookup_putF, if_neg (by decide +kernel), lookup_putF, if_neg (by decide +kernel), lookup_putF, if_pos rfl]
theorem r5_no {m : Str} (h1 : ¬ m = "height") (h2 : ¬ m = "size") (h3 : ¬ m = "right") (h4 : ¬ m = "left") (h5 : ¬ m = "piece") : (rfl5 z a b n h).lookup m = none := by
  unfold rfl5
  rw [lookup_putF, if_neg h1, lookup_putF, if_neg h2, lookup_putF, if_neg h3, lookup_putF, if_neg h4, lookup_putF, if_neg h5]
  rfl
end
def RT.pc : RT → Str
  | .leaf _ z => z
  | .node _ _ _ => ""
def RT.lf : RT → V
  | .leaf _ _ => .non
  | .node _ l _ => .ref l.at
def RT.rt : RT → V
  | .leaf _ _ => .non
  | .node _ _ r => .ref r.at
def RT.fs (t : RT) : List (Str × V) := rfl5 t.pc t.lf t.rt t.size t.ht
def RopeAt (C : Addr) (H : Hp) : RT → Prop
  | .leaf p z => ∃ dx, H p = some (.ins C dx (RT.leaf p z).fs)
  | .node p l r => (∃ dx, H p = some (.ins C dx (RT.node p l r).fs)) ∧ RopeAt C H l ∧ RopeAt C H r
theorem RopeAt.same {C : Addr} {H H' : Hp} (s : Same H H') : ∀ {t : RT}, RopeAt C H t → RopeAt C H' t
  | .leaf p z, ⟨dx, h⟩ => ⟨dx, s _ _ h⟩
  | .node p l r, ⟨⟨dx, h⟩, h1, h2⟩ => ⟨⟨dx, s _ _ h⟩, RopeAt.same s h1, RopeAt.same s h2⟩
theorem RopeAt.it {C : Addr} {H : Hp} : ∀ {t : RT}, RopeAt C H t → ∃ dx, H t.at = some (.ins C dx t.fs)
  | .leaf p z, h => h
  | .node p l r, h => h.1
theorem RopeAt.l {C : Addr} {H : Hp} {p : Addr} {l r : RT} (h : RopeAt C H (.node p l r)) : RopeAt C H l := h.2.1
theorem RopeAt.r {C : Addr} {H : Hp} {p : Addr} {l r : RT} (h : RopeAt C H (.node p l r)) : RopeAt C H r := h.2.2
/-! ### Rope(..) -/
def spRInit (C : Addr) : Sp := fun vs H Q _ => ∃ (p dx : Addr), H p = some (.ins C dx []) ∧
  ((∃ z : Str, vs = [.ref p, .str z, .non, .non] ∧ (cs z).length ≤ 4000000 ∧ Q .non (upd H p (.ins C dx (rfl5 z .non .non (cs z).length (min (cs z).length 1))))) ∨
   (∃ l r : RT, vs = [.ref p, .str "", .ref l.at, .ref r.at] ∧ RopeAt C H l ∧ RopeAt C H r ∧ Q .non (upd H p (.ins C dx (rfl5 "" (.ref l.at) (.ref r.at) (l.size + r.size) (1 + max l.ht r.ht))))))
theorem RopeAt.mut {C D : Addr} {H : Hp} {p dx : Addr} (h0 : H p = some (.ins D dx [])) {o : HO} : ∀ {t : RT}, RopeAt C H t → RopeAt C (upd H p o) t := by
  have key : ∀ (q : Addr) (t : RT) (e : Addr), H q = some (.ins C e t.fs) → q ≠ p := fun q t e h => by
    rintro rfl
    rw [h0] at h
    have h1 := HO.ins.inj (Option.some.inj h)
    have h2 := r5n t.pc t.lf t.rt t.size t.ht
    have h3 : ([] : List (Str × V)) = rfl5 t.pc t.lf t.rt t.size t.ht := h1.2.2
    rw [← h3] at h2
    cases h2
  intro t
  induction t with
  | leaf q z =>
    rintro ⟨e, h⟩
    exact ⟨e, by rw [upd_ne (key q _ e h)]; exact h⟩
  | node q l r il ir =>
    rintro ⟨⟨e, h⟩, h1, h2⟩
    exact ⟨⟨e, by rw [upd_ne (key q _ e h)]; exact h⟩, il h1, ir h2⟩

theorem lk_top (f : Str) (v : V) (fs : List (Str × V)) : (putF f v fs).lookup f = some v := by rw [lookup_putF, if_pos rfl]
theorem ok_Rope_init (T : Txt K mg) : FnOk P w K mg base CX0 1 T.a_Rope_init T.fd_Rope_init ["self", "piece", "left", "right"] (spRInit T.C_Rope) := by
  refine T.F_Rope_init.ok sc_Rope_init (fun vs H Q E h => ?_) (fun cdv A outer s H vs Q E hr h => ?_)
  · obtain ⟨p, dx, _, h⟩ := h
    rcases h with ⟨z, rfl, _⟩ | ⟨l, r, rfl, _⟩
    · rfl
    · rfl
  · obtain ⟨p, dx, hp, h⟩ := h
    refine ⟨_, (pss_cons (ps_fld (pv 0) (pv 1) rfl)
      (pss_cons (ps_fld (pv 0) (pv 2) rfl)
      (pss_cons (ps_fld (pv 0) (pv 3) rfl)
      (pss_one (ps_if (pt_cmpR op_isN (pv 2) pe_non (nomark _)) (pss_cons (ps_fld (pv 0) (pe_callB call_len_str (by rfl) T.m_len PySem.boot_len (pa_cons (pv 1) pa_nil)) rfl)
      (pss_one (ps_fld (pv 0) (pe_callB (call_min2 rfl) (by rfl) T.m_min (by decide +kernel) (pa_cons (pe_fld (pv 0) rfl) (pa_cons pe_int pa_nil))) rfl))) (pss_cons (ps_fld (pv 0) (pe_op op_add (pe_fld (pv 2) rfl) (pe_fld (pv 3) rfl)) rfl)
      (pss_one (ps_fld (pv 0) (pe_op op_add pe_int (pe_callB (call_max2 rfl) (by rfl) T.m_max (by decide +kernel) (pa_cons (pe_fld (pv 2) rfl) (pa_cons (pe_fld (pv 3) rfl) pa_nil)))) rfl)))))))), ?_⟩
    have ln0 : ([] : List (Str × V)).length = 0 := rfl
    rcases h with ⟨z, rfl, hz, q⟩ | ⟨l, r, rfl, hl, hr', q⟩
    · have l1 := putF_le "piece" (.str z) []
      have l2 := putF_le "left" .non (putF "piece" (.str z) [])
      have l3 := putF_le "right" .non (putF "left" .non (putF "piece" (.str z) []))
      have l4 := putF_le "size" (.int ((cs z).length : Int)) (putF "right" .non (putF "left" .non (putF "piece" (.str z) [])))
      refine ⟨_, rfl, _, rfl, p, _, dx, _, rfl, hp, T.CL_Rope, T.NA_Rope_piece, by show 0 < 1000; decide, ?_⟩
      refine ⟨_, rfl, _, rfl, p, _, dx, _, rfl, upd_same, T.CL_Rope, T.NA_Rope_left, by omega, ?_⟩
      refine ⟨_, rfl, _, rfl, p, _, dx, _, rfl, upd_same, T.CL_Rope, T.NA_Rope_right, by omega, ?_⟩
      rw [upd_upd, upd_upd]
      refine ⟨_, rfl, rfl, _, rfl, iteT ?_⟩
      have lz := len_cs z
      refine ⟨_, rfl, z, rfl, szM (by omega), _, rfl, p, _, dx, _, rfl, upd_same, T.CL_Rope, T.NA_Rope_size, by omega, ?_⟩
      rw [upd_upd, lz]
      refine ⟨_, rfl, p, _, dx, _, _, rfl, upd_same, T.CL_Rope, T.NA_Rope_size, lk_top _ _ _, _, _, rfl, ?_⟩
      have e : (if (1 : Int) < ((cs z).length : Int) then (1 : Int) else ((cs z).length : Int)) = ((min (cs z).length 1 : Nat) : Int) := by
        split <;> omega
      rw [e]
      refine ⟨_, rfl, p, _, dx, _, rfl, upd_same, T.CL_Rope, T.NA_Rope_height, by omega, ?_⟩
      rw [upd_upd]
      exact q
    · have l1 := putF_le "piece" (.str "") []
      have l2 := putF_le "left" (.ref l.at) (putF "piece" (.str "") [])
      have l3 := putF_le "right" (.ref r.at) (putF "left" (.ref l.at) (putF "piece" (.str "") []))
      have l4 := putF_le "size" (.int ((l.size + r.size : Nat) : Int)) (putF "right" (.ref r.at) (putF "left" (.ref l.at) (putF "piece" (.str "") [])))
      refine ⟨_, rfl, _, rfl, p, _, dx, _, rfl, hp, T.CL_Rope, T.NA_Rope_piece, by show 0 < 1000; decide, ?_⟩
      refine ⟨_, rfl, _, rfl, p, _, dx, _, rfl, upd_same, T.CL_Rope, T.NA_Rope_left, by omega, ?_⟩
      refine ⟨_, rfl, _, rfl, p, _, dx, _, rfl, upd_same, T.CL_Rope, T.NA_Rope_right, by omega, ?_⟩
      rw [upd_upd, upd_upd]
      refine ⟨_, rfl, rfl, _, rfl, iteF ?_⟩
      obtain ⟨dl, kl⟩ := (hl.mut (o := .ins T.C_Rope dx (putF "right" (.ref r.at) (putF "left" (.ref l.at) (putF "piece" (.str "") [])))) hp).it
      obtain ⟨dr, kr⟩ := (hr'.mut (o := .ins T.C_Rope dx (putF "right" (.ref r.at) (putF "left" (.ref l.at) (putF "piece" (.str "") [])))) hp).it
      refine ⟨_, rfl, _, _, _, _, _, rfl, kl, T.CL_Rope, T.NA_Rope_size, r5n _ _ _ _ _, _, rfl, _, _, _, _, _, rfl, kr, T.CL_Rope, T.NA_Rope_size, r5n _ _ _ _ _, _, _, rfl, rfl, _, rfl, p, _, dx, _, rfl, upd_same, T.CL_Rope, T.NA_Rope_size, by omega, ?_⟩
      rw [upd_upd]
      have e1 : (fun i j : Int => V.int (i + j)) (l.size : Int) (r.size : Int) = V.int ((l.size + r.size : Nat) : Int) := congrArg V.int (by omega)
      rw [e1]
      obtain ⟨dl, kl⟩ := (hl.mut (o := .ins T.C_Rope dx (putF "size" (.int ((l.size + r.size : Nat) : Int)) (putF "right" (.ref r.at) (putF "left" (.ref l.at) (putF "piece" (.str "") []))))) hp).it
      obtain ⟨dr, kr⟩ := (hr'.mut (o := .ins T.C_Rope dx (putF "size" (.int ((l.size + r.size : Nat) : Int)) (putF "right" (.ref r.at) (putF "left" (.ref l.at) (putF "piece" (.str "") []))))) hp).it
      refine ⟨_, rfl, _, _, _, _, _, rfl, kl, T.CL_Rope, T.NA_Rope_height, r5h _ _ _ _ _, _, rfl, _, _, _, _, _, rfl, kr, T.CL_Rope, T.NA_Rope_height, r5h _ _ _ _ _, _, _, rfl, _, _, rfl, rfl, _, rfl, p, _, dx, _, rfl, upd_same, T.CL_Rope, T.NA_Rope_height, by omega, ?_⟩
      rw [upd_upd]
      have e2 : (fun i j : Int => V.int (i + j)) 1 (if (r.ht : Int) > (l.ht : Int) then (r.ht : Int) else (l.ht : Int)) = V.int ((1 + max l.ht r.ht : Nat) : Int) := congrArg V.int (by split <;> omega)
      rw [e2]
      exact q

/-! ### a new leaf, a new node -/
theorem mk_leaf {C : Addr} {H : Hp} {R : Addr → Hp → Prop} {E : XK} {z : Str} (hz : (cs z).length ≤ 4000000) (k : ∀ x H', Same H H' → H x = none → RopeAt C H' (.leaf x z) → R x H') (x dx : Addr) (nx : H x = none) (nd : H dx = none) (ne : dx ≠ x) :
    spRInit C [.ref x, .str z, .non, .non] (upd (upd H dx (.own x)) x (.ins C dx [])) (fun v H2 => v = .non ∧ R x H2) E := by
  refine ⟨x, dx, upd_same, .inl ⟨z, rfl, hz, rfl, ?_⟩⟩
  rw [upd_upd]
  exact k x _ (fun b o e => by rw [upd_ne (ne_of_none e nx), upd_ne (ne_of_none e nd)]; exact e) nx ⟨dx, upd_same⟩
theorem mk_node {C : Addr} {H : Hp} {R : Addr → Hp → Prop} {E : XK} {l r : RT} {x y : Addr} (ex : x = l.at) (ey : y = r.at) (hl : RopeAt C H l) (hr : RopeAt C H r) (k : ∀ p H', Same H H' → H p = none → RopeAt C H' (.node p l r) → R p H') (p dx : Addr) (nx : H p = none) (nd : H dx = none) (ne : dx ≠ p) :
    spRInit C [.ref p, .str "", .ref x, .ref y] (upd (upd H dx (.own p)) p (.ins C dx [])) (fun v H2 => v = .non ∧ R p H2) E := by
  subst ex
  subst ey
  have s0 : Same H (upd (upd H dx (.own p)) p (.ins C dx [])) := fun b o e => by
    rw [upd_ne (ne_of_none e nx), upd_ne (ne_of_none e nd)]
    exact e
  refine ⟨p, dx, upd_same, .inr ⟨l, r, rfl, hl.same s0, hr.same s0, rfl, ?_⟩⟩
  rw [upd_upd]
  have s1 : Same H (upd (upd H dx (.own p)) p (.ins C dx (RT.node p l r).fs)) := fun b o e => by
    rw [upd_ne (ne_of_none e nx), upd_ne (ne_of_none e nd)]
    exact e
  exact k p _ s1 nx ⟨⟨dx, upd_same⟩, hl.same s1, hr.same s1⟩
/-! ### _tree -/
theorem free_of {H H' : Hp} (s : Same H H') {p : Addr} (h : H' p = none) : H p = none := by
  cases e : H p with
  | none => rfl
  | some o =>
    rw [s _ _ e] at h
    cases h
/-- the height of a tree of n pieces -/
def HtOf (n h : Nat) : Prop := 1 ≤ h ∧ n ≤ 2 ^ (h - 1) ∧ 2 ^ (h - 1) < 2 * n
theorem ht_both {m k a b : Nat} (hk : k = m ∨ k = m + 1) (hm : 1 ≤ m) (ha : HtOf m a) (hb : HtOf k b) : a ≤ b + 1 ∧ b ≤ a + 1 ∧ HtOf (m + k) (1 + max a b) := by
  obtain ⟨a1, a2, a3⟩ := ha
  obtain ⟨b1, b2, b3⟩ := hb
  have mono : ∀ {x y : Nat}, x ≤ y → 2 ^ x ≤ 2 ^ y := fun h => Nat.pow_le_pow_right (by decide) h
  have h1 : a ≤ b := by
    by_cases c : a ≤ b
    · exact c
    · have h2 : 2 ^ (b - 1 + 1) ≤ 2 ^ (a - 1) := mono (by omega)
      rw [Nat.pow_succ] at h2
      omega
  have h2 : b ≤ a + 1 := by
    by_cases c : b ≤ a + 1
    · exact c
    · have h2 : 2 ^ (a - 1 + 2) ≤ 2 ^ (b - 1) := mono (by omega)
      have h3 : 2 ^ (a - 1 + 2) = 4 * 2 ^ (a - 1) := by rw [Nat.pow_succ, Nat.pow_succ]; omega
      omega
  refine ⟨by omega, h2, by omega, ?_, ?_⟩
  · have e : 1 + max a b - 1 = b - 1 + 1 := by omega
    rw [e, Nat.pow_succ]
    omega
  · have e : 1 + max a b - 1 = b - 1 + 1 := by omega
    rw [e, Nat.pow_succ]
    by_cases c : b = 1
    · subst c
      show 2 ^ 0 * 2 < _
      omega
    · have e2 : b - 1 = b - 2 + 1 := by omega
      rw [e2, Nat.pow_succ] at b3 ⊢
      omega
structure IsTree (C : Addr) (H H' : Hp) (zs : List Str) (t : RT) : Prop where
  same : Same H H'
  here : RopeAt C H' t
  sol : t.Sol
  lv : t.lvs.map Prod.snd = zs
  new : ∀ x ∈ t.lvs, H x.1 = none
  ht : HtOf zs.length t.ht
def spTree (C : Addr) (d : Nat) : Sp := fun vs H Q _ => ∃ (a : Addr) (zs : List Str), vs = [.ref a] ∧ H a = some (.lst (zs.map V.str)) ∧ 1 ≤ zs.length ∧ zs.length ≤ 2 ^ d ∧ d ≤ 20 ∧ (∀ z ∈ zs, 1 ≤ (cs z).length ∧ (cs z).length ≤ 16) ∧
  ∀ t H', IsTree C H H' zs t → Q (.ref t.at) H'
theorem tree_step (T : Txt K mg) (d : Nat) (G_tree : FnOk P w K mg base CX0 (d + 2) T.a_tree T.fd_tree ["pieces"] (fun vs H Q E => 1 ≤ d ∧ spTree T.C_Rope (d - 1) vs H Q E)) :
    FnOk P w K mg base CX0 (d + 3) T.a_tree T.fd_tree ["pieces"] (spTree T.C_Rope d) := by
  have G_Rope_init : FnOk P w K mg base CX0 1 T.a_Rope_init T.fd_Rope_init ["self", "piece", "left", "right"] (spRInit T.C_Rope) := ok_Rope_init T
  refine T.F_tree.ok sc_tree (fun vs H Q E h => ?_) (fun cdv A outer s H vs Q E hr h => ?_)
  · obtain ⟨a, zs, rfl, _⟩ := h
    rfl
  · obtain ⟨a, zs, rfl, ha, h1, hd, hdd, hz, q⟩ := h
    have hr_tree : Room (d + 2) _ := hr
    have hr_Rope_init : Room 2 _ := hr.mono (by omega)
    refine ⟨_, (pss_cons (ps_if (pt_cmpR op_eq (pe_callB call_len_seq (by rfl) T.m_len PySem.boot_len (pa_cons (pv 0) pa_nil)) pe_int (nomark _)) (pss_one (ps_ret (pe_make T.MK_Rope G_Rope_init hr_Rope_init (by rfl) T.G_Rope T.b_Rope_init .nil pass0 (pa_cons (pe_ix ix_list (pv 0) pe_int (fun _ _ => rfl)) (pa_cons pe_non (pa_cons pe_non pa_nil)))))) pss_nil)
      (pss_cons (ps_set (i := 1) sc_tree.nd rfl (.inl rfl) (pe_op op_fdiv (pe_callB call_len_seq (by rfl) T.m_len PySem.boot_len (pa_cons (pv 0) pa_nil)) pe_int))
      (pss_one (ps_ret (pe_make T.MK_Rope G_Rope_init hr_Rope_init (by rfl) T.G_Rope T.b_Rope_init .nil pass0 (pa_cons pe_str (pa_cons (pe_call G_tree hr_tree (by rfl) T.g_tree T.F_tree.kp T.b_tree .nil pass0 (pa_cons (pe_slice sl_list (pv 0) po_none (po_some (pv 1))) pa_nil)) (pa_cons (pe_call G_tree hr_tree (by rfl) T.g_tree T.F_tree.kp T.b_tree .nil pass0 (pa_cons (pe_slice sl_list (pv 0) (po_some (pv 1)) po_none) pa_nil)) pa_nil)))))))), ?_⟩
    have hlen : (zs.map V.str).length = zs.length := List.length_map _
    refine ⟨_, rfl, a, _, rfl, .inl (SqL.of ha), rfl, _, rfl, ite2 (fun c => ?_) (fun c => ?_)⟩
    · have c1 : zs.length = 1 := by
        have : V.int ((zs.map V.str).length : Int) = V.int 1 := of_decide_eq_true c
        have := V.int.inj this
        omega
      obtain ⟨z, rfl⟩ := List.length_eq_one_iff.mp c1
      have hz1 := hz z List.mem_cons_self
      refine ⟨_, rfl, a, _, 0, .str z, rfl, rfl, SqL.of ha, atI_nat (j := 0) rfl, mk_leaf (by omega) fun x H' s1 nx hx => ?_⟩
      refine q (.leaf x z) H' ⟨s1, hx, hz1, ?_, ?_, ⟨?_, ?_, ?_⟩⟩
      · show (if (cs z).length = 0 then [] else [(x, z)] : List (Addr × Str)).map Prod.snd = [z]
        rw [if_neg (by omega)]
        rfl
      · intro y hy
        have hy : y ∈ (if (cs z).length = 0 then [] else [(x, z)] : List (Addr × Str)) := hy
        rw [if_neg (by omega)] at hy
        rw [List.mem_singleton.mp hy]
        exact nx
      · show 1 ≤ min (cs z).length 1
        omega
      · show 1 ≤ 2 ^ (min (cs z).length 1 - 1)
        rw [show min (cs z).length 1 - 1 = 0 by omega]
        decide
      · show 2 ^ (min (cs z).length 1 - 1) < 2 * 1
        rw [show min (cs z).length 1 - 1 = 0 by omega]
        decide
    · have c1 : zs.length ≠ 1 := fun e => c (decide_eq_true (show V.int ((zs.map V.str).length : Int) = V.int 1 by rw [hlen, e]; rfl))
      have d1 : 1 ≤ d := by
        rcases Nat.eq_zero_or_pos d with e | e
        · subst e
          have : zs.length ≤ 2 ^ 0 := hd
          omega
        · exact e
      have e2 : 2 ^ d = 2 * 2 ^ (d - 1) := by
        rw [← Nat.pow_succ']
        congr 1
        omega
      obtain ⟨m, hm⟩ : ∃ m : Nat, m = zs.length / 2 := ⟨_, rfl⟩
      refine ⟨_, rfl, a, _, rfl, .inl (SqL.of ha), _, 2, rfl, rfl, ⟨by decide, by decide⟩, ?_⟩
      rw [show (fun i j : Int => V.int (i / j)) ((zs.map V.str).length : Int) 2 = V.int (m : Int) from congrArg V.int (by omega)]
      refine ⟨_, rfl, _, rfl, _, rfl, a, _, rfl, SqL.of ha, fun x nx => ?_⟩
      refine ⟨d1, x, zs.take m, rfl, ?_, ?_, ?_, by omega, fun z h => hz z (List.mem_of_mem_take h), fun l H1 tl => ?_⟩
      · rw [upd_same, cutV_pre, List.map_take]
      · rw [List.length_take]
        omega
      · rw [List.length_take]
        omega
      have s1 := (same_upd nx).trans tl.same
      refine ⟨_, rfl, _, rfl, _, rfl, a, _, rfl, SqL.of (s1 _ _ ha), fun y ny => ?_⟩
      refine ⟨d1, y, zs.drop m, rfl, ?_, ?_, ?_, by omega, fun z h => hz z (List.mem_of_mem_drop h), fun r H2 tr => ?_⟩
      · rw [upd_same, cutV_suf, List.map_drop]
      · rw [List.length_drop]
        omega
      · rw [List.length_drop]
        omega
      have s2 : Same H1 H2 := (same_upd ny).trans tr.same
      refine mk_node rfl rfl (tl.here.same s2) tr.here fun p H' s3 np hp => ?_
      have s4 : Same H H' := (s1.trans s2).trans s3
      have lm : (zs.take m).length = m := by
        rw [List.length_take]
        omega
      have lk : (zs.drop m).length = m ∨ (zs.drop m).length = m + 1 := by
        rw [List.length_drop]
        omega
      have hh := ht_both lk (by omega) (by have := tl.ht; rwa [lm] at this) tr.ht
      refine q (.node p l r) H' ⟨s4, hp, ⟨tl.sol, tr.sol, hh.1, hh.2.1⟩, ?_, ?_, ?_⟩
      · show (l.lvs ++ r.lvs).map Prod.snd = zs
        rw [List.map_append, tl.lv, tr.lv, List.take_append_drop]
      · intro b hb
        rcases List.mem_append.mp hb with h | h
        · exact free_of (same_upd nx) (tl.new b h)
        · exact free_of (s1.trans (same_upd ny)) (tr.new b h)
      · have e3 : m + (zs.drop m).length = zs.length := by
          rw [List.length_drop]
          omega
        rw [← e3]
        exact hh.2.2
theorem ok_tree (T : Txt K mg) : ∀ d : Nat, FnOk P w K mg base CX0 (d + 3) T.a_tree T.fd_tree ["pieces"] (spTree T.C_Rope d)
  | 0 => tree_step T 0 ⟨fun _ _ _ _ h => absurd h.1 (by decide), fun _ _ _ _ _ _ _ _ _ _ _ _ _ h => absurd h.1 (by decide)⟩
  | d + 1 => tree_step T (d + 1) ((ok_tree T d).imp fun _ _ _ _ h => h.2)

/-! ### Rope.of -/
def spOf (C : Addr) : Sp := fun vs H Q _ => ∃ (z : Str), vs = [.str z] ∧ (cs z).length ≤ 2000 ∧ ∀ t H', Same H H' → RopeAt C H' t → t.Ok → t.txt = cs z → (∀ x ∈ t.lvs, H x.1 = none) → 16 * t.lvs.length < (cs z).length + 16 → Q (.ref t.at) H'
theorem rg16 {n : Nat} (h : n ≤ 4000000) : RgC 0 (n : Int) 16 ((n + 15) / 16) := by
  have e : Builtin.Range.rangeSize 0 (n : Int) 16 = (((n + 15) / 16 : Nat) : Int) := by
    unfold Builtin.Range.rangeSize
    simp only [show (16 : Int) > 0 by decide, if_true]
    split <;> omega
  refine ⟨by decide, by decide, ?_, e⟩
  unfold Builtin.Range.small
  rw [e]
  have hk : (n + 15) / 16 ≤ n + 15 := Nat.div_le_self _ _
  generalize (n + 15) / 16 = k at hk
  have c16 : (16 : Int) ≤ 1000 := by decide
  have c17 : (0 : Int) ≤ 16 := by decide
  generalize (16 : Int) = c at c16 c17
  simp only [Builtin.Range.rangeFitsLong, Bool.and_eq_true, Bool.or_eq_true, decide_eq_true_eq, beq_iff_eq]
  clear e
  split
  · simp only [Bool.and_eq_true, decide_eq_true_eq]
    omega
  · simp only [Bool.and_eq_true, decide_eq_true_eq]
    omega
theorem cs_nil {z : Str} (h : (cs z).length = 0) : z = "" := cs_inj (by rw [List.eq_nil_of_length_eq_zero h]; rfl)
theorem ok_Rope_of (T : Txt K mg) : FnOk P w K mg base CX0 11 T.a_Rope_of T.fd_Rope_of ["text"] (spOf T.C_Rope) := by
  have G_tree : FnOk P w K mg base CX0 10 T.a_tree T.fd_tree ["pieces"] (spTree T.C_Rope 7) := ok_tree T 7
  have G_Rope_init : FnOk P w K mg base CX0 1 T.a_Rope_init T.fd_Rope_init ["self", "piece", "left", "right"] (spRInit T.C_Rope) := ok_Rope_init T
  refine T.F_Rope_of.ok sc_Rope_of (fun vs H Q E h => ?_) (fun cdv A outer s H vs Q E hr h => ?_)
  · obtain ⟨z, rfl, _⟩ := h
    rfl
  · obtain ⟨z, rfl, hz, q⟩ := h
    have hr_tree : Room 10 _ := hr
    have hr_Rope_init : Room 2 _ := hr.mono (by decide)
    refine ⟨_, (pss_cons (ps_if (pt_cmpR op_eq (pv 0) pe_str (nomark _)) (pss_one (ps_ret (pe_make T.MK_Rope G_Rope_init hr_Rope_init (by rfl) T.G_Rope T.b_Rope_init .nil pass0 (pa_cons pe_str (pa_cons pe_non (pa_cons pe_non pa_nil)))))) pss_nil)
      (pss_one (ps_ret (pe_call G_tree hr_tree (by rfl) T.g_tree T.F_tree.kp T.b_tree .nil pass0 (pa_cons (pe_lc (own := [("at", 1)]) (g := gName 1) (by rfl) sc_Rope_of.nd (pi_range3 (by rfl) T.m_range (pa_cons pe_int (pa_cons (pe_callB call_len_str (by rfl) T.m_len PySem.boot_len (pa_cons (pv 0) pa_nil)) (pa_cons (pe_glob (v := .int 16) (by rfl) T.c_LONGEST.choose_spec ⟨_, rfl⟩) pa_nil)))) (blkOk_by (own := [("at", 1)]) (N := ["text", "at"]) (sc := defScope s_Rope_of) (by decide +kernel)) (fun _ _ _ _ _ => pg_name (i := 1) sc_Rope_of.nd rfl (Or.inl rfl)) (fun _ _ _ _ _ => pts_nil) (fun _ _ _ _ _ => (pe_slice sl_str (pv 0) (po_some (pv 1)) (po_some (pe_op op_add (pv 1) (pe_glob (v := .int 16) (by rfl) T.c_LONGEST.choose_spec ⟨_, rfl⟩)))))) pa_nil))))), ?_⟩
    refine ⟨_, rfl, rfl, _, rfl, ite2 (fun c => ?_) (fun c => ?_)⟩
    · have c1 : z = "" := V.str.inj (of_decide_eq_true c)
      subst c1
      refine mk_leaf (by decide +kernel) fun x H' s1 nx hx => ?_
      refine q (.leaf x "") H' s1 hx (.inl ⟨x, "", rfl, rfl⟩) rfl (fun y hy => ?_) (by show 16 * ([] : List (Addr × Str)).length < 0 + 16; decide)
      have hy : y ∈ ([] : List (Addr × Str)) := hy
      cases hy
    · have c1 : (cs z).length ≠ 0 := fun e => c (decide_eq_true (by rw [cs_nil e]))
      have lz := len_cs z
      refine ⟨_, rfl, z, rfl, szM (by omega), 0, _, 16, (z.length + 15) / 16, rfl, rg16 (by omega), fun D nD => ?_⟩
      refine lc_it (walk_rangeC (lo := 0) (c := 16) (n := (z.length + 15) / 16)) (fun i H' => ∃ zs : List Str, H' D = some (.lst (zs.map V.str)) ∧ zs.length = i ∧ (zs.map cs).flatten = (cs z).take (16 * i) ∧ (∀ y ∈ zs, 1 ≤ (cs y).length ∧ (cs y).length ≤ 16) ∧ Same H H')
        ⟨[], upd_same, rfl, rfl, (fun y hy => absurd hy List.not_mem_nil), same_upd nD⟩ (fun _ _ _ _ => trivial) ?_ ?_
      · rintro i x H1 H2 hi ⟨zs, hD, hl, ht, ho, s1⟩ ⟨rfl, rfl⟩
        refine ⟨rfl, _, rfl, _, rfl, _, rfl, _, rfl, _, _, rfl, rfl, _, rfl, z, rfl, szM (by omega), ?_⟩
        have e1 : (0 + (i : Int) * 16) = ((16 * i : Nat) : Int) := by omega
        have e2 : (0 + (i : Int) * 16 + 16) = ((16 * i + 16 : Nat) : Int) := by omega
        have ec : cs (cutS z (some (0 + (i : Int) * 16)) (some (0 + (i : Int) * 16 + 16))) = ((cs z).take (16 * i + 16)).drop (16 * i) := by rw [e2, e1, cut_mid]
        have el : (((cs z).take (16 * i + 16)).drop (16 * i)).length = min (16 * i + 16) (cs z).length - 16 * i := by rw [List.length_drop, List.length_take]
        refine ⟨_, hD, sz2 (by rw [List.length_map]; omega), zs ++ [cutS z (some (0 + (i : Int) * 16)) (some (0 + (i : Int) * 16 + 16))], ?_, ?_, ?_, ?_, same_mut s1 nD⟩
        · exact upd_same.trans (by rw [List.map_append]; rfl)
        · rw [List.length_append, hl]
          rfl
        · rw [List.map_append, List.flatten_append, ht]
          show (cs z).take (16 * i) ++ (cs (cutS z (some (0 + (i : Int) * 16)) (some (0 + (i : Int) * 16 + 16))) ++ []) = _
          rw [ec, List.append_nil, List.drop_take, ← List.take_add]
          congr 1
          omega
        · intro y hy
          rcases List.mem_append.mp hy with h | h
          · exact ho y h
          · rw [List.mem_singleton.mp h]
            show 1 ≤ (cs (cutS z (some (0 + (i : Int) * 16)) (some (0 + (i : Int) * 16 + 16)))).length ∧ (cs (cutS z (some (0 + (i : Int) * 16)) (some (0 + (i : Int) * 16 + 16)))).length ≤ 16
            rw [ec, el]
            omega
      · rintro H1 ⟨zs, hD, hl, ht, ho, s1⟩
        refine ⟨D, zs, rfl, hD, by omega, by rw [hl]; show _ ≤ 128; omega, by decide, ho, fun t H2 it => ?_⟩
        have hc : (cs z).take (16 * ((z.length + 15) / 16)) = cs z := List.take_of_length_le (by omega)
        rw [hc] at ht
        refine q t H2 (s1.trans it.same) it.here (.inr it.sol) ?_ (fun x hx => free_of s1 (it.new x hx)) ?_
        · rw [RT.txt_lvs, ← ht, ← it.lv, List.map_map]
          rfl
        · have e : t.lvs.length = zs.length := by rw [← it.lv, List.length_map]
          omega

/-! ### _balanced -/
theorem RT.node_of {t : RT} (h : 2 ≤ t.ht) : ∃ p l r, t = .node p l r := by
  cases t with
  | leaf p z =>
    have h : 2 ≤ min (cs z).length 1 := h
    omega
  | node p l r => exact ⟨p, l, r, rfl⟩
structure IsCat (C : Addr) (H H' : Hp) (l r t : RT) : Prop where
  same : Same H H'
  here : RopeAt C H' t
  sol : t.Sol
  lv : t.lvs = l.lvs ++ r.lvs
  lo : max l.ht r.ht ≤ t.ht
  hi : t.ht ≤ max l.ht r.ht + 1
  one : l.ht ≤ r.ht + 1 → r.ht ≤ l.ht + 1 → t.ht = 1 + max l.ht r.ht
def spBal (C : Addr) : Sp := fun vs H Q _ => ∃ (l r : RT), vs = [.ref l.at, .ref r.at] ∧ RopeAt C H l ∧ RopeAt C H r ∧ l.Sol ∧ r.Sol ∧ l.ht ≤ r.ht + 2 ∧ r.ht ≤ l.ht + 2 ∧ ∀ t H', IsCat C H H' l r t → Q (.ref t.at) H'
theorem ok_balanced (T : Txt K mg) : FnOk P w K mg base CX0 3 T.a_balanced T.fd_balanced ["left", "right"] (spBal T.C_Rope) := by
  have G_Rope_init : FnOk P w K mg base CX0 1 T.a_Rope_init T.fd_Rope_init ["self", "piece", "left", "right"] (spRInit T.C_Rope) := ok_Rope_init T
  refine T.F_balanced.ok sc_balanced (fun vs H Q E h => ?_) (fun cdv A outer s H vs Q E hr h => ?_)
  · obtain ⟨l, r, rfl, _⟩ := h
    rfl
  · obtain ⟨l, r, rfl, hl, hr', sl, sr, b1, b2, q⟩ := h
    have hr_Rope_init : Room 2 _ := hr
    refine ⟨_, (pss_cons (ps_if (pt_cmpR op_gt (pe_fld (pv 0) rfl) (pe_op op_add (pe_fld (pv 1) rfl) pe_int) (nomark _)) (pss_cons (ps_if (pt_cmpR op_ge (pe_fld (pe_fld (pv 0) rfl) rfl) (pe_fld (pe_fld (pv 0) rfl) rfl) (nomark _)) (pss_one (ps_ret (pe_make T.MK_Rope G_Rope_init hr_Rope_init (by rfl) T.G_Rope T.b_Rope_init .nil pass0 (pa_cons pe_str (pa_cons (pe_fld (pv 0) rfl) (pa_cons (pe_make T.MK_Rope G_Rope_init hr_Rope_init (by rfl) T.G_Rope T.b_Rope_init .nil pass0 (pa_cons pe_str (pa_cons (pe_fld (pv 0) rfl) (pa_cons (pv 1) pa_nil)))) pa_nil)))))) pss_nil)
      (pss_cons (ps_set (i := 2) sc_balanced.nd rfl (.inl rfl) (pe_fld (pv 0) rfl))
      (pss_one (ps_ret (pe_make T.MK_Rope G_Rope_init hr_Rope_init (by rfl) T.G_Rope T.b_Rope_init .nil pass0 (pa_cons pe_str (pa_cons (pe_make T.MK_Rope G_Rope_init hr_Rope_init (by rfl) T.G_Rope T.b_Rope_init .nil pass0 (pa_cons pe_str (pa_cons (pe_fld (pv 0) rfl) (pa_cons (pe_fld (pv 2) rfl) pa_nil)))) (pa_cons (pe_make T.MK_Rope G_Rope_init hr_Rope_init (by rfl) T.G_Rope T.b_Rope_init .nil pass0 (pa_cons pe_str (pa_cons (pe_fld (pv 2) rfl) (pa_cons (pv 1) pa_nil)))) pa_nil)))))))) pss_nil)
      (pss_cons (ps_if (pt_cmpR op_gt (pe_fld (pv 1) rfl) (pe_op op_add (pe_fld (pv 0) rfl) pe_int) (nomark _)) (pss_cons (ps_if (pt_cmpR op_ge (pe_fld (pe_fld (pv 1) rfl) rfl) (pe_fld (pe_fld (pv 1) rfl) rfl) (nomark _)) (pss_one (ps_ret (pe_make T.MK_Rope G_Rope_init hr_Rope_init (by rfl) T.G_Rope T.b_Rope_init .nil pass0 (pa_cons pe_str (pa_cons (pe_make T.MK_Rope G_Rope_init hr_Rope_init (by rfl) T.G_Rope T.b_Rope_init .nil pass0 (pa_cons pe_str (pa_cons (pv 0) (pa_cons (pe_fld (pv 1) rfl) pa_nil)))) (pa_cons (pe_fld (pv 1) rfl) pa_nil)))))) pss_nil)
      (pss_cons (ps_set (i := 2) sc_balanced.nd rfl (.inl rfl) (pe_fld (pv 1) rfl))
      (pss_one (ps_ret (pe_make T.MK_Rope G_Rope_init hr_Rope_init (by rfl) T.G_Rope T.b_Rope_init .nil pass0 (pa_cons pe_str (pa_cons (pe_make T.MK_Rope G_Rope_init hr_Rope_init (by rfl) T.G_Rope T.b_Rope_init .nil pass0 (pa_cons pe_str (pa_cons (pv 0) (pa_cons (pe_fld (pv 2) rfl) pa_nil)))) (pa_cons (pe_make T.MK_Rope G_Rope_init hr_Rope_init (by rfl) T.G_Rope T.b_Rope_init .nil pass0 (pa_cons pe_str (pa_cons (pe_fld (pv 2) rfl) (pa_cons (pe_fld (pv 1) rfl) pa_nil)))) pa_nil)))))))) pss_nil)
      (pss_one (ps_ret (pe_make T.MK_Rope G_Rope_init hr_Rope_init (by rfl) T.G_Rope T.b_Rope_init .nil pass0 (pa_cons pe_str (pa_cons (pv 0) (pa_cons (pv 1) pa_nil)))))))), ?_⟩
    obtain ⟨dl, kl⟩ := hl.it
    obtain ⟨dr, kr⟩ := hr'.it
    refine ⟨_, rfl, _, _, _, _, _, rfl, kl, T.CL_Rope, T.NA_Rope_height, r5h _ _ _ _ _, _, rfl, _, _, _, _, _, rfl, kr, T.CL_Rope, T.NA_Rope_height, r5h _ _ _ _ _, _, _, rfl, rfl, _, _, rfl, rfl, _, rfl, ite2 (fun c => ?_) (fun c => ?_)⟩
    · have c1 : r.ht + 1 < l.ht := by
        have := of_decide_eq_true c
        omega
      have p1 := sr.pos
      obtain ⟨p, a, b, rfl⟩ := RT.node_of (t := l) (by omega)
      have ha := hl.l
      have hb := hl.r
      obtain ⟨da, ka⟩ := ha.it
      obtain ⟨db, kb⟩ := hb.it
      have eh : (RT.node p a b).ht = 1 + max a.ht b.ht := rfl
      have sb := sl.2.1
      have sa := sl.1
      have s1 := sl.2.2
      refine ⟨_, rfl, _, _, _, _, _, rfl, kl, T.CL_Rope, T.NA_Rope_left, r5a _ _ _ _ _, _, _, _, _, _, rfl, ka, T.CL_Rope, T.NA_Rope_height, r5h _ _ _ _ _, _, rfl, _, _, _, _, _, rfl, kl, T.CL_Rope, T.NA_Rope_right, r5b _ _ _ _ _, _, _, _, _, _, rfl, kb, T.CL_Rope, T.NA_Rope_height, r5h _ _ _ _ _, _, _, rfl, rfl, _, rfl, ite2 (fun c2 => ?_) (fun c2 => ?_)⟩
      · have c3 : b.ht ≤ a.ht := by
          have := of_decide_eq_true c2
          omega
        refine ⟨_, rfl, _, _, _, _, _, rfl, kl, T.CL_Rope, T.NA_Rope_left, r5a _ _ _ _ _, _, rfl, _, _, _, _, _, rfl, kl, T.CL_Rope, T.NA_Rope_right, r5b _ _ _ _ _, _, rfl, mk_node rfl rfl hb hr' fun x H1 t1 nx hx => ?_⟩
        refine mk_node rfl rfl (ha.same t1) hx fun y H2 t2 ny hy => ?_
        have e1 : (RT.node x b r).ht = 1 + max b.ht r.ht := rfl
        have e2 : (RT.node y a (.node x b r)).ht = 1 + max a.ht (RT.node x b r).ht := rfl
        refine q (.node y a (.node x b r)) H2 ⟨t1.trans t2, hy, ⟨sa, ⟨sb, sr, by omega, by omega⟩, by omega, by omega⟩, ?_, by omega, by omega, by omega⟩
        show a.lvs ++ (b.lvs ++ r.lvs) = (a.lvs ++ b.lvs) ++ r.lvs
        rw [List.append_assoc]
      · have c3 : a.ht < b.ht := by
          have : ¬ ((b.ht : Int) ≤ (a.ht : Int)) := fun z => c2 (decide_eq_true z)
          omega
        have p2 := sa.pos
        obtain ⟨m, u, v, rfl⟩ := RT.node_of (t := b) (by omega)
        have hu := hb.l
        have hv := hb.r
        have su := sb.1
        have sv := sb.2.1
        have s2 := sb.2.2
        have eb : (RT.node m u v).ht = 1 + max u.ht v.ht := rfl
        refine ⟨_, rfl, _, _, _, _, _, rfl, kl, T.CL_Rope, T.NA_Rope_right, r5b _ _ _ _ _, _, rfl, _, _, _, _, _, rfl, kl, T.CL_Rope, T.NA_Rope_left, r5a _ _ _ _ _, _, rfl, _, _, _, _, _, rfl, kb, T.CL_Rope, T.NA_Rope_left, r5a _ _ _ _ _, mk_node rfl rfl ha hu fun x H1 t1 nx hx => ?_⟩
        have kb1 := t1 _ _ kb
        refine ⟨_, rfl, _, _, _, _, _, rfl, kb1, T.CL_Rope, T.NA_Rope_right, r5b _ _ _ _ _, _, rfl, mk_node rfl rfl (hv.same t1) (hr'.same t1) fun y H2 t2 ny hy => ?_⟩
        refine mk_node rfl rfl (hx.same t2) hy fun o H3 t3 no ho => ?_
        have e1 : (RT.node x a u).ht = 1 + max a.ht u.ht := rfl
        have e2 : (RT.node y v r).ht = 1 + max v.ht r.ht := rfl
        have e3 : (RT.node o (.node x a u) (.node y v r)).ht = 1 + max (RT.node x a u).ht (RT.node y v r).ht := rfl
        refine q (.node o (.node x a u) (.node y v r)) H3 ⟨(t1.trans t2).trans t3, ho, ⟨⟨sa, su, by omega, by omega⟩, ⟨sv, sr, by omega, by omega⟩, by omega, by omega⟩, ?_, by omega, by omega, by omega⟩
        show (a.lvs ++ u.lvs) ++ (v.lvs ++ r.lvs) = (a.lvs ++ (u.lvs ++ v.lvs)) ++ r.lvs
        simp only [List.append_assoc]
    · have c0 : ¬ r.ht + 1 < l.ht := fun z => c (decide_eq_true (by omega))
      refine ⟨_, rfl, _, _, _, _, _, rfl, kr, T.CL_Rope, T.NA_Rope_height, r5h _ _ _ _ _, _, rfl, _, _, _, _, _, rfl, kl, T.CL_Rope, T.NA_Rope_height, r5h _ _ _ _ _, _, _, rfl, rfl, _, _, rfl, rfl, _, rfl, ite2 (fun c => ?_) (fun c => ?_)⟩
      · have c1 : l.ht + 1 < r.ht := by
          have := of_decide_eq_true c
          omega
        have p1 := sl.pos
        obtain ⟨p, a, b, rfl⟩ := RT.node_of (t := r) (by omega)
        have ha := hr'.l
        have hb := hr'.r
        obtain ⟨da, ka⟩ := ha.it
        obtain ⟨db, kb⟩ := hb.it
        have eh : (RT.node p a b).ht = 1 + max a.ht b.ht := rfl
        have sb := sr.2.1
        have sa := sr.1
        have s1 := sr.2.2
        refine ⟨_, rfl, _, _, _, _, _, rfl, kr, T.CL_Rope, T.NA_Rope_right, r5b _ _ _ _ _, _, _, _, _, _, rfl, kb, T.CL_Rope, T.NA_Rope_height, r5h _ _ _ _ _, _, rfl, _, _, _, _, _, rfl, kr, T.CL_Rope, T.NA_Rope_left, r5a _ _ _ _ _, _, _, _, _, _, rfl, ka, T.CL_Rope, T.NA_Rope_height, r5h _ _ _ _ _, _, _, rfl, rfl, _, rfl, ite2 (fun c2 => ?_) (fun c2 => ?_)⟩
        · have c3 : a.ht ≤ b.ht := by
            have := of_decide_eq_true c2
            omega
          refine ⟨_, rfl, _, rfl, _, _, _, _, _, rfl, kr, T.CL_Rope, T.NA_Rope_left, r5a _ _ _ _ _, mk_node rfl rfl hl ha fun x H1 t1 nx hx => ?_⟩
          have kr1 := t1 _ _ kr
          refine ⟨_, rfl, _, _, _, _, _, rfl, kr1, T.CL_Rope, T.NA_Rope_right, r5b _ _ _ _ _, mk_node rfl rfl hx (hb.same t1) fun y H2 t2 ny hy => ?_⟩
          have e1 : (RT.node x l a).ht = 1 + max l.ht a.ht := rfl
          have e2 : (RT.node y (.node x l a) b).ht = 1 + max (RT.node x l a).ht b.ht := rfl
          refine q (.node y (.node x l a) b) H2 ⟨t1.trans t2, hy, ⟨⟨sl, sa, by omega, by omega⟩, sb, by omega, by omega⟩, ?_, by omega, by omega, by omega⟩
          show (l.lvs ++ a.lvs) ++ b.lvs = l.lvs ++ (a.lvs ++ b.lvs)
          rw [List.append_assoc]
        · have c3 : b.ht < a.ht := by
            have : ¬ ((a.ht : Int) ≤ (b.ht : Int)) := fun z => c2 (decide_eq_true z)
            omega
          have p2 := sb.pos
          obtain ⟨m, u, v, rfl⟩ := RT.node_of (t := a) (by omega)
          have hu := ha.l
          have hv := ha.r
          have su := sa.1
          have sv := sa.2.1
          have s2 := sa.2.2
          have eb : (RT.node m u v).ht = 1 + max u.ht v.ht := rfl
          refine ⟨_, rfl, _, _, _, _, _, rfl, kr, T.CL_Rope, T.NA_Rope_left, r5a _ _ _ _ _, _, rfl, _, rfl, _, _, _, _, _, rfl, ka, T.CL_Rope, T.NA_Rope_left, r5a _ _ _ _ _, mk_node rfl rfl hl hu fun x H1 t1 nx hx => ?_⟩
          have ka1 := t1 _ _ ka
          have kr1 := t1 _ _ kr
          refine ⟨_, rfl, _, _, _, _, _, rfl, ka1, T.CL_Rope, T.NA_Rope_right, r5b _ _ _ _ _, _, rfl, _, _, _, _, _, rfl, kr1, T.CL_Rope, T.NA_Rope_right, r5b _ _ _ _ _, mk_node rfl rfl (hv.same t1) (hb.same t1) fun y H2 t2 ny hy => ?_⟩
          refine mk_node rfl rfl (hx.same t2) hy fun o H3 t3 no ho => ?_
          have e1 : (RT.node x l u).ht = 1 + max l.ht u.ht := rfl
          have e2 : (RT.node y v b).ht = 1 + max v.ht b.ht := rfl
          have e3 : (RT.node o (.node x l u) (.node y v b)).ht = 1 + max (RT.node x l u).ht (RT.node y v b).ht := rfl
          refine q (.node o (.node x l u) (.node y v b)) H3 ⟨(t1.trans t2).trans t3, ho, ⟨⟨sl, su, by omega, by omega⟩, ⟨sv, sb, by omega, by omega⟩, by omega, by omega⟩, ?_, by omega, by omega, by omega⟩
          show (l.lvs ++ u.lvs) ++ (v.lvs ++ b.lvs) = l.lvs ++ ((u.lvs ++ v.lvs) ++ b.lvs)
          simp only [List.append_assoc]
      · have c1 : ¬ l.ht + 1 < r.ht := fun z => c (decide_eq_true (by omega))
        refine ⟨_, rfl, _, rfl, mk_node rfl rfl hl hr' fun x H1 t1 nx hx => ?_⟩
        have e1 : (RT.node x l r).ht = 1 + max l.ht r.ht := rfl
        exact q (.node x l r) H1 ⟨t1, hx, ⟨sl, sr, by omega, by omega⟩, rfl, by omega, by omega, by omega⟩

/-! ### joined -/
theorem r5j (z : Str) (a b : V) (n h : Nat) : (rfl5 z a b n h).lookup ("joined" : Str) = none := r5_no _ _ _ _ _ (by decide +kernel) (by decide +kernel) (by decide +kernel) (by decide +kernel) (by decide +kernel)
theorem r5c (z : Str) (a b : V) (n h : Nat) : (rfl5 z a b n h).lookup ("cut" : Str) = none := r5_no _ _ _ _ _ (by decide +kernel) (by decide +kernel) (by decide +kernel) (by decide +kernel) (by decide +kernel)
theorem r5e (z : Str) (a b : V) (n h : Nat) : (rfl5 z a b n h).lookup ("edited" : Str) = none := r5_no _ _ _ _ _ (by decide +kernel) (by decide +kernel) (by decide +kernel) (by decide +kernel) (by decide +kernel)
structure IsJoin (C : Addr) (H H' : Hp) (l r t : RT) : Prop where
  same : Same H H'
  here : RopeAt C H' t
  ok : t.Ok
  lv : t.lvs = l.lvs ++ r.lvs
  cat : l.Sol → r.Sol → IsCat C H H' l r t
def spJoin (C : Addr) (n : Nat) : Sp := fun vs H Q _ => ∃ (l r : RT), vs = [.ref l.at, .ref r.at] ∧ RopeAt C H l ∧ RopeAt C H r ∧ l.Ok ∧ r.Ok ∧ l.ht + r.ht ≤ n ∧ ∀ t H', IsJoin C H H' l r t → Q (.ref t.at) H'
theorem IsCat.join {C : Addr} {H H' : Hp} {l r t : RT} (h : IsCat C H H' l r t) : IsJoin C H H' l r t := ⟨h.same, h.here, .inr h.sol, h.lv, fun _ _ => h⟩
theorem RT.Sol.size {t : RT} (h : t.Sol) : t.size ≠ 0 := by
  have := h.pos
  omega
theorem join_step (T : Txt K mg) (n : Nat) (G_Rope_joined : FnOk P w K mg base CX0 (n + 3) T.a_Rope_joined T.fd_Rope_joined ["self", "other"] (fun vs H Q E => 1 ≤ n ∧ spJoin T.C_Rope (n - 1) vs H Q E)) :
    FnOk P w K mg base CX0 (n + 4) T.a_Rope_joined T.fd_Rope_joined ["self", "other"] (spJoin T.C_Rope n) := by
  have G_Rope_init : FnOk P w K mg base CX0 1 T.a_Rope_init T.fd_Rope_init ["self", "piece", "left", "right"] (spRInit T.C_Rope) := ok_Rope_init T
  have G_balanced : FnOk P w K mg base CX0 3 T.a_balanced T.fd_balanced ["left", "right"] (spBal T.C_Rope) := ok_balanced T
  refine T.F_Rope_joined.ok sc_Rope_joined (fun vs H Q E h => ?_) (fun cdv A outer s H vs Q E hr h => ?_)
  · obtain ⟨l, r, rfl, _⟩ := h
    rfl
  · obtain ⟨l, r, rfl, hl, hr', ol, or, hn, q⟩ := h
    have hr_Rope_init : Room 2 _ := hr.mono (by omega)
    have hr_balanced : Room 3 _ := hr.mono (by omega)
    have hr_Rope_joined : Room (n + 3) _ := hr
    refine ⟨_, (pss_cons (ps_if (pt_cmpR op_eq (pe_fld (pv 0) rfl) pe_int (nomark _)) (pss_one (ps_ret (pv 1))) pss_nil)
      (pss_cons (ps_if (pt_cmpR op_eq (pe_fld (pv 1) rfl) pe_int (nomark _)) (pss_one (ps_ret (pv 0))) pss_nil)
      (pss_cons (ps_if (pt_cmpR op_gt (pe_fld (pv 0) rfl) (pe_op op_add (pe_fld (pv 1) rfl) pe_int) (nomark _)) (pss_one (ps_ret (pe_call G_balanced hr_balanced (by rfl) T.g_balanced T.F_balanced.kp T.b_balanced .nil pass0 (pa_cons (pe_fld (pv 0) rfl) (pa_cons (pe_meth (pe_fld (pv 0) rfl) T.CL_Rope T.ME_Ropejoined G_Rope_joined hr_Rope_joined T.b_Rope_joined .nil pass0 (pa_cons (pv 1) pa_nil)) pa_nil))))) pss_nil)
      (pss_cons (ps_if (pt_cmpR op_gt (pe_fld (pv 1) rfl) (pe_op op_add (pe_fld (pv 0) rfl) pe_int) (nomark _)) (pss_one (ps_ret (pe_call G_balanced hr_balanced (by rfl) T.g_balanced T.F_balanced.kp T.b_balanced .nil pass0 (pa_cons (pe_meth (pv 0) T.CL_Rope T.ME_Ropejoined G_Rope_joined hr_Rope_joined T.b_Rope_joined .nil pass0 (pa_cons (pe_fld (pv 1) rfl) pa_nil)) (pa_cons (pe_fld (pv 1) rfl) pa_nil))))) pss_nil)
      (pss_one (ps_ret (pe_make T.MK_Rope G_Rope_init hr_Rope_init (by rfl) T.G_Rope T.b_Rope_init .nil pass0 (pa_cons pe_str (pa_cons (pv 0) (pa_cons (pv 1) pa_nil)))))))))), ?_⟩
    obtain ⟨dl, kl⟩ := hl.it
    obtain ⟨dr, kr⟩ := hr'.it
    refine ⟨_, rfl, _, _, _, _, _, rfl, kl, T.CL_Rope, T.NA_Rope_size, r5n _ _ _ _ _, rfl, _, rfl, ite2 (fun c => ?_) (fun c => ?_)⟩
    · have c1 : l.size = 0 := by
        have := V.int.inj (of_decide_eq_true c)
        omega
      refine ⟨_, rfl, q r H ⟨Same.refl _, hr', or, by rw [ol.lvs0 c1]; rfl, fun s => absurd c1 s.size⟩⟩
    have sl : l.Sol := ol.sol fun e => c (decide_eq_true (by rw [e]; rfl))
    refine ⟨_, rfl, _, _, _, _, _, rfl, kr, T.CL_Rope, T.NA_Rope_size, r5n _ _ _ _ _, rfl, _, rfl, ite2 (fun c => ?_) (fun c => ?_)⟩
    · have c1 : r.size = 0 := by
        have := V.int.inj (of_decide_eq_true c)
        omega
      refine ⟨_, rfl, q l H ⟨Same.refl _, hl, ol, by rw [or.lvs0 c1, List.append_nil], fun _ s => absurd c1 s.size⟩⟩
    have sr : r.Sol := or.sol fun e => c (decide_eq_true (by rw [e]; rfl))
    refine ⟨_, rfl, _, _, _, _, _, rfl, kl, T.CL_Rope, T.NA_Rope_height, r5h _ _ _ _ _, _, rfl, _, _, _, _, _, rfl, kr, T.CL_Rope, T.NA_Rope_height, r5h _ _ _ _ _, _, _, rfl, rfl, _, _, rfl, rfl, _, rfl, ite2 (fun c => ?_) (fun c => ?_)⟩
    · have c1 : r.ht + 1 < l.ht := by
        have := of_decide_eq_true c
        omega
      have p1 := sr.pos
      obtain ⟨p, a, b, rfl⟩ := RT.node_of (t := l) (by omega)
      have ha := hl.l
      have hb := hl.r
      obtain ⟨db, kb⟩ := hb.it
      have eh : (RT.node p a b).ht = 1 + max a.ht b.ht := rfl
      have sb := sl.2.1
      have sa := sl.1
      have s1 := sl.2.2
      refine ⟨_, rfl, _, _, _, _, _, rfl, kl, T.CL_Rope, T.NA_Rope_left, r5a _ _ _ _ _, _, rfl, _, _, _, _, _, rfl, kl, T.CL_Rope, T.NA_Rope_right, r5b _ _ _ _ _, _, _, _, rfl, kb, r5j _ _ _ _ _, _, rfl, ⟨by omega, b, r, rfl, hb, hr', .inr sb, or, by omega, fun j H1 ij => ?_⟩⟩
      have ic := ij.cat sb sr
      have b1 := ic.lo
      have b2 := ic.hi
      refine ⟨a, j, rfl, ha.same ij.same, ij.here, sa, ic.sol, by omega, by omega, fun t H2 it => ?_⟩
      have b3 := it.lo
      have b4 := it.hi
      have b5 := it.one
      refine q t H2 (IsCat.join ⟨ij.same.trans it.same, it.here, it.sol, ?_, ?_, by omega, by omega⟩)
      · rw [it.lv, ij.lv]
        exact (List.append_assoc _ _ _).symm
      · by_cases w1 : a.ht ≤ j.ht + 1 ∧ j.ht ≤ a.ht + 1
        · have := b5 w1.1 w1.2
          omega
        · omega
    · have c0 : ¬ r.ht + 1 < l.ht := fun z => c (decide_eq_true (by omega))
      refine ⟨_, rfl, _, _, _, _, _, rfl, kr, T.CL_Rope, T.NA_Rope_height, r5h _ _ _ _ _, _, rfl, _, _, _, _, _, rfl, kl, T.CL_Rope, T.NA_Rope_height, r5h _ _ _ _ _, _, _, rfl, rfl, _, _, rfl, rfl, _, rfl, ite2 (fun c => ?_) (fun c => ?_)⟩
      · have c1 : l.ht + 1 < r.ht := by
          have := of_decide_eq_true c
          omega
        have p1 := sl.pos
        obtain ⟨p, a, b, rfl⟩ := RT.node_of (t := r) (by omega)
        have ha := hr'.l
        have hb := hr'.r
        have eh : (RT.node p a b).ht = 1 + max a.ht b.ht := rfl
        have sb := sr.2.1
        have sa := sr.1
        have s1 := sr.2.2
        refine ⟨_, rfl, _, _, _, rfl, kl, r5j _ _ _ _ _, _, rfl, _, _, _, _, _, rfl, kr, T.CL_Rope, T.NA_Rope_left, r5a _ _ _ _ _, ⟨by omega, l, a, rfl, hl, ha, ol, .inr sa, by omega, fun j H1 ij => ?_⟩⟩
        have ic := ij.cat sl sa
        have b1 := ic.lo
        have b2 := ic.hi
        have kr1 := ij.same _ _ kr
        refine ⟨_, rfl, _, _, _, _, _, rfl, kr1, T.CL_Rope, T.NA_Rope_right, r5b _ _ _ _ _, j, b, rfl, ij.here, hb.same ij.same, ic.sol, sb, by omega, by omega, fun t H2 it => ?_⟩
        have b3 := it.lo
        have b4 := it.hi
        have b5 := it.one
        refine q t H2 (IsCat.join ⟨ij.same.trans it.same, it.here, it.sol, ?_, ?_, by omega, by omega⟩)
        · rw [it.lv, ij.lv]
          exact List.append_assoc _ _ _
        · by_cases w1 : j.ht ≤ b.ht + 1 ∧ b.ht ≤ j.ht + 1
          · have := b5 w1.1 w1.2
            omega
          · omega
      · have c1 : ¬ l.ht + 1 < r.ht := fun z => c (decide_eq_true (by omega))
        refine ⟨_, rfl, _, rfl, mk_node rfl rfl hl hr' fun x H1 t1 nx hx => ?_⟩
        have e1 : (RT.node x l r).ht = 1 + max l.ht r.ht := rfl
        exact q (.node x l r) H1 (IsCat.join ⟨t1, hx, ⟨sl, sr, by omega, by omega⟩, rfl, by omega, by omega, by omega⟩)
theorem ok_Rope_joined (T : Txt K mg) : ∀ n : Nat, FnOk P w K mg base CX0 (n + 4) T.a_Rope_joined T.fd_Rope_joined ["self", "other"] (spJoin T.C_Rope n)
  | 0 => join_step T 0 ⟨fun _ _ _ _ h => absurd h.1 (by decide), fun _ _ _ _ _ _ _ _ _ _ _ _ _ h => absurd h.1 (by decide)⟩
  | n + 1 => join_step T (n + 1) ((ok_Rope_joined T n).imp fun _ _ _ _ h => h.2)

/-! ### cut -/
structure IsCut (C : Addr) (H H' : Hp) (t : RT) (s e : Nat) (u : RT) : Prop where
  same : Same H H'
  here : RopeAt C H' u
  ok : u.Ok
  txt : u.txt = (t.txt.take e).drop s
  lv : ∃ a m b, u.lvs = a ++ m ++ b ∧ (∀ x ∈ m, x ∈ t.lvs) ∧ a.length ≤ 1 ∧ b.length ≤ 1 ∧ (s = 0 → a = []) ∧ (e = t.size → b = []) ∧ (∀ x ∈ a, H x.1 = none) ∧ (∀ x ∈ b, H x.1 = none)
def spCut (C : Addr) (n : Nat) : Sp := fun vs H Q _ => ∃ (t : RT) (s e : Nat) (si ei : Int), vs = [.ref t.at, .int si, .int ei] ∧ si = (s : Int) ∧ ei = (e : Int) ∧ RopeAt C H t ∧ t.Ok ∧ s ≤ e ∧ e ≤ t.size ∧ t.size < 16384 ∧ t.ht ≤ n ∧
  ∀ u H', IsCut C H H' t s e u → Q (.ref u.at) H'
theorem RT.pc_len : ∀ t : RT, (cs t.pc).length ≤ t.size
  | .leaf _ _ => Nat.le_refl _
  | .node _ _ _ => Nat.zero_le _
theorem leaf_lvs (x : Addr) (z : Str) : (RT.leaf x z).lvs = if (cs z).length = 0 then [] else [(x, z)] := rfl
theorem cut_leaf {C : Addr} {H H' : Hp} {t : RT} {s e : Nat} {x : Addr} (ot : t.Ok) (h1 : s ≤ e) (h2 : e ≤ t.size) (hw : ¬ (s = 0 ∧ e = t.size)) (hl : s = e ∨ t.lf = .non) (sm : Same H H') (nx : H x = none) (hx : RopeAt C H' (.leaf x (cutS t.pc (some (s : Int)) (some (e : Int))))) :
    IsCut C H H' t s e (.leaf x (cutS t.pc (some (s : Int)) (some (e : Int)))) := by
  have ec : cs (cutS t.pc (some (s : Int)) (some (e : Int))) = ((cs t.pc).take e).drop s := cut_mid _ _ _
  have lc : (cs (cutS t.pc (some (s : Int)) (some (e : Int)))).length = min e (cs t.pc).length - s := by rw [ec, List.length_drop, List.length_take]
  have et : cs (cutS t.pc (some (s : Int)) (some (e : Int))) = (t.txt.take e).drop s := by
    rw [ec]
    cases t with
    | leaf p z => rfl
    | node p l r =>
      rcases hl with rfl | h
      · rw [List.drop_eq_nil_of_le (by rw [List.length_take]; omega), List.drop_eq_nil_of_le (by rw [List.length_take]; omega)]
      · cases h
  have l16 : (cs t.pc).length ≤ 16 := by
    rcases ot with ⟨p, z, hz, rfl⟩ | h
    · show (cs z).length ≤ 16
      rw [hz]
      decide
    · cases t with
      | leaf p z => exact h.2
      | node p l r => exact Nat.zero_le _
  refine ⟨sm, hx, ?_, et, ?_⟩
  · by_cases c : (cs (cutS t.pc (some (s : Int)) (some (e : Int)))).length = 0
    · exact .inl ⟨x, _, List.eq_nil_of_length_eq_zero c, rfl⟩
    · refine .inr ⟨by omega, by omega⟩
  · rw [leaf_lvs]
    by_cases c : (cs (cutS t.pc (some (s : Int)) (some (e : Int)))).length = 0
    · rw [if_pos c]
      exact ⟨[], [], [], rfl, fun _ h => absurd h List.not_mem_nil, by decide, by decide, fun _ => rfl, fun _ => rfl, fun _ h => absurd h List.not_mem_nil, fun _ h => absurd h List.not_mem_nil⟩
    · rw [if_neg c]
      have nn : ∀ y ∈ [(x, cutS t.pc (some (s : Int)) (some (e : Int)))], H y.1 = none := fun y hy => by rw [List.mem_singleton.mp hy]; exact nx
      by_cases c0 : s = 0
      · exact ⟨[], [], [_], rfl, fun _ h => absurd h List.not_mem_nil, by decide, by simp, fun _ => rfl, fun h => absurd ⟨c0, h⟩ hw, fun _ h => absurd h List.not_mem_nil, nn⟩
      · exact ⟨[_], [], [], rfl, fun _ h => absurd h List.not_mem_nil, by simp, by decide, fun h => absurd h c0, fun _ => rfl, nn, fun _ h => absurd h List.not_mem_nil⟩
theorem if_ev {tt : L2.TT} {a b : L2.TS} {D : L2.Ends} {σ : L2.St} {H : Hp} (R : Hp → Prop) (h : ∀ Qb : Bool → Hp → Prop, (∀ c H2, R H2 → Qb c H2) → tt σ H Qb) (ha : ∀ H2, R H2 → a D σ H2) (hb : ∀ H2, R H2 → b D σ H2) : tIfS tt a b D σ H := h _ (fun c H2 r => by
  cases c
  · exact iteF (hb H2 r)
  · exact iteT (ha H2 r))
theorem if_2 {tt : L2.TT} {a b : L2.TS} {D : L2.Ends} {σ : L2.St} {H : Hp} (R : Hp → Prop) (A : Prop) (h : ∀ Qb : Bool → Hp → Prop, (∀ c H2, R H2 → (c = true ↔ A) → Qb c H2) → tt σ H Qb) (ha : A → ∀ H2, R H2 → a D σ H2) (hb : ¬ A → ∀ H2, R H2 → b D σ H2) : tIfS tt a b D σ H := h _ (fun c H2 r i => by
  cases c
  · exact iteF (hb (fun z => absurd (i.mpr z) (by decide)) H2 r)
  · exact iteT (ha (i.mp rfl) H2 r))
theorem g_if {i : Nat} {x : V} {σ : L2.St} {H : Hp} {tt : L2.TT} {a b : L2.TS} {D : L2.Ends} {r : VK} {k c : L2.St → Hp → Prop} (h : tIfS tt a b D (σ.set i (some x)) H) : gName i x σ H (Ends.nx ⟨tIfS tt a b D, r, k, c⟩) := h
theorem g_seq {i : Nat} {x : V} {σ : L2.St} {H : Hp} {t u : L2.TS} {D : L2.Ends} {r : VK} {k c : L2.St → Hp → Prop} (h : tSeq t u D (σ.set i (some x)) H) : gName i x σ H (Ends.nx ⟨tSeq t u D, r, k, c⟩) := h
/-- if ..: a (and it ends here); the rest is told once -/
theorem sif {tt : L2.TT} {a c : L2.TS} {D : L2.Ends} {σ : L2.St} {H : Hp} (R : Hp → Prop) (A : Prop) (h : ∀ Qb : Bool → Hp → Prop, (∀ c H2, R H2 → (c = true ↔ A) → Qb c H2) → tt σ H Qb) (ha : A → ∀ H2, R H2 → a { D with nx := fun σ2 H2 => c D σ2 H2 } σ H2) (hb : ¬ A → ∀ H2, R H2 → c D σ H2) :
    tSeq (tIfS tt a tNext) c D σ H := if_2 (D := { D with nx := fun σ2 H2 => c D σ2 H2 }) R A h ha hb
theorem cut_step (T : Txt K mg) (n : Nat) (G_Rope_cut : FnOk P w K mg base CX0 (n + 60) T.a_Rope_cut T.fd_Rope_cut ["self", "start", "end"] (fun vs H Q E => 1 ≤ n ∧ spCut T.C_Rope (n - 1) vs H Q E)) :
    FnOk P w K mg base CX0 (n + 61) T.a_Rope_cut T.fd_Rope_cut ["self", "start", "end"] (spCut T.C_Rope n) := by
  have G_Rope_init : FnOk P w K mg base CX0 1 T.a_Rope_init T.fd_Rope_init ["self", "piece", "left", "right"] (spRInit T.C_Rope) := ok_Rope_init T
  have G_Rope_joined : FnOk P w K mg base CX0 60 T.a_Rope_joined T.fd_Rope_joined ["self", "other"] (spJoin T.C_Rope 56) := ok_Rope_joined T 56
  refine T.F_Rope_cut.ok sc_Rope_cut (fun vs H Q E h => ?_) (fun cdv A outer s H vs Q E hr h => ?_)
  · obtain ⟨t, s, e, si, ei, rfl, _⟩ := h
    rfl
  · obtain ⟨t, s, e, si, ei, rfl, es, ee, ht, ot, h1, h2, h3, h4, q⟩ := h
    subst es
    subst ee
    have hr_Rope_init : Room 2 _ := hr.mono (by omega)
    have hr_Rope_joined : Room 60 _ := hr.mono (by omega)
    have hr_Rope_cut : Room (n + 60) _ := hr
    refine ⟨_, (pss_cons (ps_if (PW.pt (pw_and (pt_cmpR op_eq (pv 1) pe_int (nomark _)) (pw_and1 (pt_cmpR op_eq (pv 2) (pe_fld (pv 0) rfl) (nomark _))))) (pss_one (ps_ret (pv 0))) pss_nil)
      (pss_cons (ps_if (PW.pt (pw_or (pt_cmpR op_eq (pv 1) (pv 2) (nomark _)) (pw_or1 (pt_cmpR op_isN (pe_fld (pv 0) rfl) pe_non (nomark _))))) (pss_one (ps_ret (pe_make T.MK_Rope G_Rope_init hr_Rope_init (by rfl) T.G_Rope T.b_Rope_init .nil pass0 (pa_cons (pe_slice sl_str (pe_fld (pv 0) rfl) (po_some (pv 1)) (po_some (pv 2))) (pa_cons pe_non (pa_cons pe_non pa_nil)))))) pss_nil)
      (pss_cons (ps_set (i := 3) sc_Rope_cut.nd rfl (.inl rfl) (pe_fld (pe_fld (pv 0) rfl) rfl))
      (pss_cons (ps_if (pt_cmpR op_le (pv 2) (pv 3) (nomark _)) (pss_one (ps_ret (pe_meth (pe_fld (pv 0) rfl) T.CL_Rope T.ME_Ropecut G_Rope_cut hr_Rope_cut T.b_Rope_cut .nil pass0 (pa_cons (pv 1) (pa_cons (pv 2) pa_nil))))) pss_nil)
      (pss_cons (ps_if (pt_cmpR op_ge (pv 1) (pv 3) (nomark _)) (pss_one (ps_ret (pe_meth (pe_fld (pv 0) rfl) T.CL_Rope T.ME_Ropecut G_Rope_cut hr_Rope_cut T.b_Rope_cut .nil pass0 (pa_cons (pe_op op_sub (pv 1) (pv 3)) (pa_cons (pe_op op_sub (pv 2) (pv 3)) pa_nil))))) pss_nil)
      (pss_one (ps_ret (pe_meth (pe_meth (pe_fld (pv 0) rfl) T.CL_Rope T.ME_Ropecut G_Rope_cut hr_Rope_cut T.b_Rope_cut .nil pass0 (pa_cons (pv 1) (pa_cons (pv 3) pa_nil))) T.CL_Rope T.ME_Ropejoined G_Rope_joined hr_Rope_joined T.b_Rope_joined .nil pass0 (pa_cons (pe_meth (pe_fld (pv 0) rfl) T.CL_Rope T.ME_Ropecut G_Rope_cut hr_Rope_cut T.b_Rope_cut .nil pass0 (pa_cons pe_int (pa_cons (pe_op op_sub (pv 2) (pv 3)) pa_nil))) pa_nil))))))))), ?_⟩
    obtain ⟨dl, kl⟩ := ht.it
    have lp := t.pc_len
    have lpc := len_cs t.pc
    have small : (cs (cutS t.pc (some (s : Int)) (some (e : Int)))).length ≤ 4000000 := Nat.le_trans (cut_len _ _ _) (by omega)
    have key : s = 0 ∧ e = t.size → IsCut T.C_Rope H H t s e t := fun ⟨c1, c2⟩ => by
      subst c1
      subst c2
      refine ⟨Same.refl _, ht, ot, ?_, [], t.lvs, [], by simp, fun _ h => h, by decide, by decide, fun _ => rfl, fun _ => rfl, fun _ h => absurd h List.not_mem_nil, fun _ h => absurd h List.not_mem_nil⟩
      rw [List.drop_zero, List.take_of_length_le (by rw [RT.txt_len]; omega)]
    refine sif (R := fun H2 => H2 = H) (A := s = 0 ∧ e = t.size) (fun Qb qb => ?_) (fun hA H2 e2 => ?_) (fun hA H2 e2 => ?_)
    · refine ⟨_, rfl, rfl, _, rfl, ite2 (fun c => ?_) (fun c => ?_)⟩
      · have c1 : s = 0 := by
          have := V.int.inj (of_decide_eq_true c)
          omega
        refine ⟨_, rfl, _, rfl, _, _, _, _, _, rfl, kl, T.CL_Rope, T.NA_Rope_size, r5n _ _ _ _ _, rfl, _, rfl, qb _ H rfl ?_⟩
        rw [decide_eq_true_eq]
        constructor
        · intro h
          have := V.int.inj h
          exact ⟨c1, by omega⟩
        · intro h
          rw [h.2]
      · exact qb _ H rfl ⟨fun h => absurd h (by decide), fun h => absurd (decide_eq_true (by rw [h.1]; rfl)) c⟩
    · cases e2
      exact ⟨_, rfl, q t _ (key hA)⟩
    · cases e2
      refine sif (R := fun H2 => H2 = H) (A := s = e ∨ t.lf = .non) (fun Qb qb => ?_) (fun hB H3 e3 => ?_) (fun hB H3 e3 => ?_)
      · refine ⟨_, rfl, _, rfl, rfl, _, rfl, ite2 (fun c => ?_) (fun c => ?_)⟩
        · refine qb _ H rfl ⟨fun _ => .inl ?_, fun _ => rfl⟩
          have := V.int.inj (of_decide_eq_true c)
          omega
        · refine ⟨_, rfl, _, _, _, _, _, rfl, kl, T.CL_Rope, T.NA_Rope_left, r5a _ _ _ _ _, rfl, _, rfl, qb _ H rfl ?_⟩
          rw [decide_eq_true_eq]
          refine ⟨fun h => .inr h, fun h => h.resolve_left fun z => c (decide_eq_true (by rw [z]))⟩
      · cases e3
        exact ⟨_, rfl, _, _, _, _, _, rfl, kl, T.CL_Rope, T.NA_Rope_piece, r5z _ _ _ _ _, _, rfl, _, rfl, _, rfl, _, rfl, _, rfl, szM (by omega), mk_leaf small fun x H' s1 nx hx => q _ _ (cut_leaf ot h1 h2 hA hB s1 nx hx)⟩
      · cases e3
        have hse : s < e := by
          have : s ≠ e := fun z => hB (.inl z)
          omega
        obtain ⟨p, a, b, rfl⟩ : ∃ p a b, t = .node p a b := by
          cases t with
          | leaf p z => exact absurd (.inr rfl) hB
          | node p a b => exact ⟨p, a, b, rfl⟩
        have st : (RT.node p a b).Sol := ot.sol (by omega)
        have sa := st.1
        have sb := st.2.1
        have pa := sa.pos
        have pb := sb.pos
        have ha := ht.l
        have hb := ht.r
        obtain ⟨da, ka⟩ := ha.it
        obtain ⟨db, kb⟩ := hb.it
        have eh : (RT.node p a b).ht = 1 + max a.ht b.ht := rfl
        have en : (RT.node p a b).size = a.size + b.size := rfl
        have et : (RT.node p a b).txt = a.txt ++ b.txt := rfl
        have ta := a.txt_len
        have tb := b.txt_len
        have inl : ∀ {x}, x ∈ a.lvs → x ∈ (RT.node p a b).lvs := fun h => List.mem_append_left _ h
        have inr : ∀ {x}, x ∈ b.lvs → x ∈ (RT.node p a b).lvs := fun h => List.mem_append_right _ h
        refine ⟨_, rfl, _, _, _, _, _, rfl, kl, T.CL_Rope, T.NA_Rope_left, r5a _ _ _ _ _, _, _, _, _, _, rfl, ka, T.CL_Rope, T.NA_Rope_size, r5n _ _ _ _ _, ?_⟩
        refine ⟨_, rfl, _, rfl, _, _, rfl, rfl, _, rfl, ite2 (fun c => ?_) (fun c => ?_)⟩
        · have c1 : e ≤ a.size := by
            have := of_decide_eq_true c
            omega
          refine ⟨_, rfl, _, _, _, _, _, rfl, kl, T.CL_Rope, T.NA_Rope_left, r5a _ _ _ _ _, _, _, _, rfl, ka, r5c _ _ _ _ _, _, rfl, _, rfl, by omega, a, s, e, _, _, rfl, rfl, rfl, ha, .inr sa, h1, c1, by omega, by omega, fun u H' iu => ?_⟩
          obtain ⟨x, m, y, e1, e2, e3, e4, e5, e6, e7, e8⟩ := iu.lv
          refine q u H' ⟨iu.same, iu.here, iu.ok, ?_, x, m, y, e1, fun z hz => inl (e2 z hz), e3, e4, e5, fun h => absurd h (by omega), e7, e8⟩
          rw [iu.txt, et, List.take_append_of_le_length (by omega)]
        · have c1 : a.size < e := by
            have : ¬ ((e : Int) ≤ (a.size : Int)) := fun z => c (decide_eq_true z)
            omega
          refine ⟨_, rfl, _, rfl, _, _, rfl, rfl, _, rfl, ite2 (fun c => ?_) (fun c => ?_)⟩
          · have c2 : a.size ≤ s := by
              have := of_decide_eq_true c
              omega
            refine ⟨_, rfl, _, _, _, _, _, rfl, kl, T.CL_Rope, T.NA_Rope_right, r5b _ _ _ _ _, _, _, _, rfl, kb, r5c _ _ _ _ _, _, rfl, _, rfl, _, _, rfl, rfl, _, rfl, _, rfl, _, _, rfl, rfl, by omega, b, s - a.size, e - a.size, _, _, rfl, by omega, by omega, hb, .inr sb, by omega, by omega, by omega, by omega, fun u H' iu => ?_⟩
            obtain ⟨x, m, y, e1, e2, e3, e4, e5, e6, e7, e8⟩ := iu.lv
            refine q u H' ⟨iu.same, iu.here, iu.ok, ?_, x, m, y, e1, fun z hz => inr (e2 z hz), e3, e4, fun h => absurd h (by omega), fun h => e6 (by omega), e7, e8⟩
            rw [iu.txt, et, List.take_append, List.take_of_length_le (l := a.txt) (by omega), List.drop_append, List.drop_eq_nil_of_le (as := a.txt) (by omega), List.nil_append, ta]
          · have c2 : s < a.size := by
              have : ¬ ((a.size : Int) ≤ (s : Int)) := fun z => c (decide_eq_true z)
              omega
            refine ⟨_, rfl, _, _, _, _, _, rfl, kl, T.CL_Rope, T.NA_Rope_left, r5a _ _ _ _ _, _, _, _, rfl, ka, r5c _ _ _ _ _, _, rfl, _, rfl, by omega, a, s, a.size, _, _, rfl, rfl, rfl, ha, .inr sa, by omega, Nat.le_refl _, by omega, by omega, fun u H1 iu => ?_⟩
            have kl1 := iu.same _ _ kl
            have kb1 := iu.same _ _ kb
            obtain ⟨du, ku⟩ := iu.here.it
            refine ⟨_, _, _, rfl, ku, r5j _ _ _ _ _, _, rfl, _, _, _, _, _, rfl, kl1, T.CL_Rope, T.NA_Rope_right, r5b _ _ _ _ _, _, _, _, rfl, kb1, r5c _ _ _ _ _, _, rfl, _, rfl, _, _, rfl, rfl, by omega, b, 0, e - a.size, _, _, rfl, by omega, by omega, hb.same iu.same, .inr sb, by omega, by omega, by omega, by omega, fun v H2 iv => ?_⟩
            have lu : u.size = a.size - s := by
              rw [← RT.txt_len, iu.txt, List.length_drop, List.length_take]
              omega
            have lv : v.size = e - a.size := by
              rw [← RT.txt_len, iv.txt, List.length_drop, List.length_take]
              omega
            have bu := iu.ok.low (by omega)
            have bv := iv.ok.low (by omega)
            refine ⟨u, v, rfl, iu.here.same iv.same, iv.here, iu.ok, iv.ok, by omega, fun w H3 iw => ?_⟩
            obtain ⟨x, m, y, e1, e2, e3, e4, e5, e6, e7, e8⟩ := iu.lv
            obtain ⟨x', m', y', f1, f2, f3, f4, f5, f6, f7, f8⟩ := iv.lv
            have ey := e6 rfl
            have ex := f5 rfl
            subst ey
            subst ex
            refine q w H3 ⟨(iu.same.trans iv.same).trans iw.same, iw.here, iw.ok, ?_, x, m ++ m', y', ?_, ?_, e3, f4, e5, fun h => f6 (by omega), e7, fun z hz => free_of iu.same (f8 z hz)⟩
            · rw [(RT.size_lvs iw.lv).1, iu.txt, iv.txt, et, List.take_append, List.take_of_length_le (l := a.txt) (i := e) (by omega), List.take_of_length_le (l := a.txt) (i := a.size) (by omega), List.drop_zero, List.drop_append_of_le_length (by omega), ta]
            · rw [iw.lv, e1, f1]
              simp only [List.append_assoc, List.append_nil, List.nil_append]
            · intro z hz
              rcases List.mem_append.mp hz with h | h
              · exact inl (e2 z h)
              · exact inr (f2 z h)
theorem ok_Rope_cut (T : Txt K mg) : ∀ n : Nat, FnOk P w K mg base CX0 (n + 61) T.a_Rope_cut T.fd_Rope_cut ["self", "start", "end"] (spCut T.C_Rope n)
  | 0 => cut_step T 0 ⟨fun _ _ _ _ h => absurd h.1 (by decide), fun _ _ _ _ _ _ _ _ _ _ _ _ _ h => absurd h.1 (by decide)⟩
  | n + 1 => cut_step T (n + 1) ((ok_Rope_cut T n).imp fun _ _ _ _ h => h.2)

/-! ### edited -/
def FewNew (k : Nat) (old new : List (Addr × Str)) : Prop := ∃ g : List (Addr × Str), g.length ≤ k ∧ ∀ x ∈ new, x ∈ old ∨ x ∈ g
theorem FewNew.refl (a : List (Addr × Str)) : FewNew 0 a a := ⟨[], Nat.le_refl _, fun _ h => .inl h⟩
theorem FewNew.trans {j k : Nat} {a b c : List (Addr × Str)} (h1 : FewNew j a b) (h2 : FewNew k b c) : FewNew (j + k) a c := by
  obtain ⟨g, g1, g2⟩ := h1
  obtain ⟨h, h1, h2⟩ := h2
  refine ⟨g ++ h, by rw [List.length_append]; omega, fun x hx => ?_⟩
  rcases h2 x hx with h3 | h3
  · rcases g2 x h3 with h4 | h4
    · exact .inl h4
    · exact .inr (List.mem_append_left _ h4)
  · exact .inr (List.mem_append_right _ h3)
def edCost (e : Ed) : Nat := 2 + (e.len + 15) / 16
structure IsEd (C : Addr) (H H' : Hp) (t : RT) (es : List Ed) (u : RT) : Prop where
  same : Same H H'
  here : RopeAt C H' u
  ok : u.Ok
  txt : u.txt = appl t.txt es
  few : FewNew (es.map edCost).sum t.lvs u.lvs
def spEdited (C D : Addr) : Sp := fun vs H Q E => ∃ (t : RT) (l : Addr) (es : List Ed), vs = [.ref t.at, .ref l] ∧ RopeAt C H t ∧ t.Ok ∧ EdsAt H l es ∧ Sized es ∧ es.length ≤ 2000 ∧ (∀ e ∈ es, e.len ≤ 2000) ∧ (∀ k, fitsL t.size (es.take k) → (appl t.txt (es.take k)).length < 16384) ∧
  (fitsL t.size es → ∀ u H', IsEd C H H' t es u → Q (.ref u.at) H') ∧ (∀ k, unfit t.size es = some k → ErrAt D H E k)
theorem ok_Rope_edited (T : Txt K mg) : FnOk P w K mg base (L2.CX P w) 90 T.a_Rope_edited T.fd_Rope_edited ["self", "edits"] (spEdited T.C_Rope T.C_EditError) := by
  have G_check_fits : FnOk P w K mg base (L2.CX P w) 4 T.a_check_fits T.fd_check_fits ["length", "edits"] (spCheck T.C_EditError) := ok_check_fits T
  have G_Rope_of : FnOk P w K mg base CX0 11 T.a_Rope_of T.fd_Rope_of ["text"] (spOf T.C_Rope) := ok_Rope_of T
  have G_Rope_joined : FnOk P w K mg base CX0 60 T.a_Rope_joined T.fd_Rope_joined ["self", "other"] (spJoin T.C_Rope 56) := ok_Rope_joined T 56
  have G_Rope_cut : FnOk P w K mg base CX0 89 T.a_Rope_cut T.fd_Rope_cut ["self", "start", "end"] (spCut T.C_Rope 28) := ok_Rope_cut T 28
  refine T.F_Rope_edited.okX sc_Rope_edited (fun vs H Q E h => ?_) (fun cdv A outer s H vs Q E hr h => ?_)
  · obtain ⟨t, l, es, rfl, _⟩ := h
    rfl
  · have hr_check_fits : Room 4 _ := hr.mono (by decide)
    have hr_Rope_of : Room 11 _ := hr.mono (by decide)
    have hr_Rope_joined : Room 60 _ := hr.mono (by decide)
    have hr_Rope_cut : Room 89 _ := hr
    obtain ⟨t, l, es, rfl, ht, ot, hE, hS, hn, h20, hlim, q1, q2⟩ := h
    refine ⟨_, (pss_cons (ps_expr (pe_call G_check_fits hr_check_fits (by rfl) T.g_check_fits T.F_check_fits.kp T.b_check_fits .nil (passes_call (takes_of rfl rfl rfl rfl) (fun _ _ _ _ z => z)) (pa_cons (pe_fld (pv 0) rfl) (pa_cons (pv 1) pa_nil))))
      (pss_cons (ps_set (i := 2) sc_Rope_edited.nd rfl (.inl rfl) (pv 0))
      (pss_cons (ps_for (passes_of rfl) rfl (pi_list (pv 1)) (pg_tup (by rfl) (pgs_cons (pg_name (i := 3) sc_Rope_edited.nd rfl (.inl rfl)) (pgs_cons (pg_name (i := 4) sc_Rope_edited.nd rfl (.inl rfl)) (pgs_cons (pg_name (i := 5) sc_Rope_edited.nd rfl (.inl rfl)) pgs_nil)))) (pss_cons (ps_set (i := 6) sc_Rope_edited.nd rfl (.inl rfl) (pe_meth (pv 2) T.CL_Rope T.ME_Ropecut G_Rope_cut hr_Rope_cut T.b_Rope_cut .nil pass0 (pa_cons (pv 4) (pa_cons (pe_fld (pv 2) rfl) pa_nil))))
      (pss_one (ps_set (i := 2) sc_Rope_edited.nd rfl (.inl rfl) (pe_meth (pe_meth (pe_meth (pv 2) T.CL_Rope T.ME_Ropecut G_Rope_cut hr_Rope_cut T.b_Rope_cut .nil pass0 (pa_cons pe_int (pa_cons (pv 3) pa_nil))) T.CL_Rope T.ME_Ropejoined G_Rope_joined hr_Rope_joined T.b_Rope_joined .nil pass0 (pa_cons (OwnOp.pe_stat (pe_glob (v := .ref T.C_Rope) (by rfl) T.G_Rope rfl) T.ST_Ropeof G_Rope_of hr_Rope_of T.b_Rope_of .nil pass0 (pa_cons (pv 5) pa_nil)) pa_nil)) T.CL_Rope T.ME_Ropejoined G_Rope_joined hr_Rope_joined T.b_Rope_joined .nil pass0 (pa_cons (pv 6) pa_nil))))))
      (pss_one (ps_ret (pv 2)))))), ?_⟩
    obtain ⟨dt, kt⟩ := ht.it
    refine ⟨_, rfl, _, _, _, _, _, rfl, kt, T.CL_Rope, T.NA_Rope_size, r5n _ _ _ _ _, _, rfl, t.size, l, es, rfl, hE, hS, hn, fun hf H1 s1 => ?_, q2⟩
    obtain ⟨us, hus, hue⟩ := id hE
    have lu := paired_len hue
    have tl := t.txt_len
    refine ⟨_, rfl, ?_⟩
    refine ⟨_, rfl, l, rfl, ⟨_, SqL.of (s1 _ _ hus)⟩, ?_⟩
    refine for_list (K := K) (a := l) (xs := us) (fun i σ H' => Same H H' ∧ ∃ (u : RT) (y3 y4 y5 y6 : Option V), σ = [some (.ref t.at), some (.ref l), some (.ref u.at), y3, y4, y5, y6] ∧ IsEd T.C_Rope H H' t (es.take i) u)
      ⟨s1, t, none, none, none, none, rfl, s1, ht.same s1, ot, rfl, FewNew.refl _⟩ (fun i σ H' _ ⟨e, _⟩ => SqL.of (e _ _ hus)) ?_ ?_
    · rintro i x σ H2 hx ⟨s2, u, y3, y4, y5, y6, rfl, iu⟩
      obtain ⟨e, he⟩ : ∃ e, es[i]? = some e := ⟨_, List.getElem?_eq_getElem (by rw [← lu]; exact (List.getElem?_eq_some_iff.mp hx).1)⟩
      obtain ⟨x', hx', g, rfl, ht0⟩ := paired_get hue he
      rw [hx] at hx'
      have h1 := Option.some.inj hx'
      subst h1
      have hg := s2 _ _ ht0
      have hf1 := fitsL_get hf he
      have lt1 : (appl t.txt (es.take i)).length = u.size := by rw [← iu.txt, RT.txt_len]
      have hfi : fitsL t.txt.length (es.take i) := by rw [tl]; exact fitsL_take i hf
      rw [← tl, ← appl_len hfi, lt1] at hf1
      obtain ⟨a, b, hab, h2, h3⟩ := fit_nat hf1
      have lim1 := hlim (i + 1) (fitsL_take _ hf)
      have lim0 := hlim i (fitsL_take _ hf)
      rw [lt1] at lim0
      rw [take_more he, appl_snoc, ← iu.txt] at lim1
      have e20 := h20 e (List.mem_of_getElem? he)
      rw [hab] at hg lim1
      have hg : H2 g = some (.tup [.int (a : Int), .int (b : Int), .str e.2.2]) := hg
      have lim2 : (spliceL u.txt a b (cs e.2.2)).length < 16384 := lim1
      obtain ⟨du, ku⟩ := iu.here.it
      refine ⟨g, _, rfl, SqT.of hg, rfl, _, _, rfl, _, _, rfl, _, _, rfl, rfl, ?_⟩
      have lc : (spliceL u.txt a b (cs e.2.2)).length = a + e.len + (u.size - b) := by
        have := u.txt_len
        show (u.txt.take a ++ cs e.2.2 ++ u.txt.drop b).length = _
        rw [List.length_append, List.length_append, List.length_take, List.length_drop]
        show min a u.txt.length + e.len + _ = _
        omega
      have bu := iu.ok.low lim0
      refine ⟨_, rfl, _, _, _, rfl, ku, r5c _ _ _ _ _, _, rfl, _, rfl, _, _, _, _, _, rfl, ku, T.CL_Rope, T.NA_Rope_size, r5n _ _ _ _ _, u, b, u.size, _, _, rfl, rfl, rfl, iu.here, iu.ok, h3, Nat.le_refl _, lim0, bu, fun v H3 iv => ?_⟩
      have ku3 := iv.same _ _ ku
      refine ⟨_, rfl, _, _, _, rfl, ku3, r5c _ _ _ _ _, _, rfl, u, 0, a, _, _, rfl, rfl, rfl, iu.here.same iv.same, iu.ok, Nat.zero_le _, by omega, lim0, bu, fun c H4 ic => ?_⟩
      obtain ⟨dc, kc⟩ := ic.here.it
      refine ⟨_, _, _, rfl, kc, r5j _ _ _ _ _, rfl, _, rfl, e.2.2, rfl, e20, fun o H5 so ho oo xo no fo => ?_⟩
      have lv : v.size = u.size - b := by
        have := u.txt_len
        rw [← RT.txt_len, iv.txt, List.length_drop, List.length_take]
        omega
      have lcz : c.size = a := by
        have := u.txt_len
        rw [← RT.txt_len, ic.txt, List.length_drop, List.length_take]
        omega
      have lo : o.size = e.len := by rw [← RT.txt_len, xo]
      have bv := iv.ok.low (by omega)
      have bc := ic.ok.low (by omega)
      have bo := oo.low (by omega)
      refine ⟨c, o, rfl, ic.here.same so, ho, ic.ok, oo, by omega, fun m H6 im => ?_⟩
      have lm := (RT.size_lvs im.lv).2
      have bm := im.ok.low (by omega)
      obtain ⟨dm, km⟩ := im.here.it
      refine ⟨_, _, _, rfl, km, r5j _ _ _ _ _, _, rfl, m, v, rfl, im.here, iv.here.same ((ic.same.trans so).trans im.same), im.ok, iv.ok, by omega, fun n H7 iN => ?_⟩
      have s7 : Same H2 H7 := (((iv.same.trans ic.same).trans so).trans im.same).trans iN.same
      refine ⟨s2.trans s7, n, _, _, _, _, rfl, s2.trans s7, iN.here, iN.ok, ?_, ?_⟩
      · rw [take_more he, appl_snoc, ← iu.txt, (RT.size_lvs iN.lv).1, (RT.size_lvs im.lv).1, ic.txt, xo, iv.txt, hab]
        show (u.txt.take a).drop 0 ++ cs e.2.2 ++ (u.txt.take u.size).drop b = u.txt.take a ++ cs e.2.2 ++ u.txt.drop b
        rw [List.drop_zero, List.take_of_length_le (l := u.txt) (i := u.size) (by rw [RT.txt_len]; omega)]
      · rw [take_more he, List.map_append, List.sum_append]
        refine iu.few.trans ?_
        obtain ⟨x, p, y, e1, e2, e3, e4, e5, e6, e7, e8⟩ := iv.lv
        obtain ⟨x', p', y', f1, f2, f3, f4, f5, f6, f7, f8⟩ := ic.lv
        have ey := e6 rfl
        have ex := f5 rfl
        subst ey
        subst ex
        refine ⟨y' ++ o.lvs ++ x, ?_, fun z hz => ?_⟩
        · rw [List.length_append, List.length_append]
          show _ ≤ (2 + (e.len + 15) / 16) + 0
          have fo : 16 * o.lvs.length < e.len + 16 := fo
          omega
        · rw [iN.lv, im.lv, f1, e1] at hz
          simp only [List.mem_append, List.not_mem_nil, false_or, or_false] at hz ⊢
          rcases hz with ((h | h) | h) | h | h
          · exact .inl (f2 z h)
          · exact .inr (.inl (.inl h))
          · exact .inr (.inl (.inr h))
          · exact .inr (.inr h)
          · exact .inl (e2 z h)
    · rintro σ H2 ⟨s2, u, y3, y4, y5, y6, rfl, iu⟩
      rw [lu, List.take_length] at iu
      exact ⟨_, rfl, q1 hf u _ iu⟩

/-! ### shared by the laws of ropes -/
theorem itT {c : Bool} {A B : Prop} (h : c = true) (a : A) : if c = true then A else B := by
  rw [if_pos h]
  exact a
theorem itF {c : Bool} {A B : Prop} (h : c = false) (b : B) : if c = true then A else B := by
  rw [h]
  exact iteF b
theorem pe_fldK {X : Cx} {K : PySem.W.Frag} {e : Expr} {ta : TE} {f : Str} {pos : Pos} (h : X.K = K) (he : PE X e ta) (hb : attributeBase e f X.env (eval e X.env) = eval e X.env) : PE X (.Attribute e f pos) (tFld K ta f) := by
  subst h
  exact pe_fld he hb
def RT.nd : RT → Nat
  | .leaf _ _ => 1
  | .node _ l r => 1 + l.nd + r.nd
theorem RT.Sol.nd : ∀ {t : RT}, t.Sol → t.nd + 1 ≤ 2 * t.size
  | .leaf _ z, h => by
    have h1 := h.1
    show 1 + 1 ≤ 2 * (cs z).length
    omega
  | .node _ l r, h => by
    have h1 := RT.Sol.nd h.1
    have h2 := RT.Sol.nd h.2.1
    show 1 + l.nd + r.nd + 1 ≤ 2 * (l.size + r.size)
    omega
theorem RT.Ok.nd {t : RT} (h : t.Ok) : t.nd < 2 * t.size + 2 := by
  rcases h with ⟨p, z, hz, rfl⟩ | h
  · show 1 < _
    omega
  · have := h.nd
    omega
def atV (t : RT) : V := .ref t.at
def lvV (x : Addr × Str) : V := .ref x.1
theorem RopeAt.mutL {C : Addr} {H : Hp} {p : Addr} {xs : List V} (h0 : H p = some (.lst xs)) {o : HO} : ∀ {t : RT}, RopeAt C H t → RopeAt C (upd H p o) t := by
  have key : ∀ (q e : Addr) (fs : List (Str × V)), H q = some (.ins C e fs) → q ≠ p := fun q e fs h => by
    rintro rfl
    rw [h0] at h
    cases h
  intro t
  induction t with
  | leaf q z =>
    rintro ⟨e, h⟩
    exact ⟨e, by rw [upd_ne (key q _ _ h)]; exact h⟩
  | node q l r il ir =>
    rintro ⟨⟨e, h⟩, h1, h2⟩
    exact ⟨⟨e, by rw [upd_ne (key q _ _ h)]; exact h⟩, il h1, ir h2⟩
theorem RT.lvs_nd : ∀ t : RT, t.lvs.length ≤ t.nd
  | .leaf p z => by
    rw [leaf_lvs]
    show _ ≤ 1
    split
    · exact Nat.zero_le _
    · exact Nat.le_refl _
  | .node p l r => by
    have h1 := RT.lvs_nd l
    have h2 := RT.lvs_nd r
    show (l.lvs ++ r.lvs).length ≤ 1 + l.nd + r.nd
    rw [List.length_append]
    omega
theorem RT.nd_pos : ∀ t : RT, 1 ≤ t.nd
  | .leaf _ _ => Nat.le_refl _
  | .node _ l r => by
    show 1 ≤ 1 + l.nd + r.nd
    omega
theorem nds_len : ∀ S : List RT, S.length ≤ (S.map RT.nd).sum
  | [] => Nat.le_refl _
  | t :: S => by
    have h1 := t.nd_pos
    have h2 := nds_len S
    show S.length + 1 ≤ t.nd + (S.map RT.nd).sum
    omega
theorem RopeAt.but {C r : Addr} {H H' : Hp} (b : But r H H') (hr : ReelAt H r) : ∀ {t : RT}, RopeAt C H t → RopeAt C H' t := by
  have key : ∀ (q e : Addr) (fs : List (Str × V)), H q = some (.ins C e fs) → q ≠ r := fun q e fs h => by
    rintro rfl
    obtain ⟨z, c, h1, _⟩ := hr
    rw [h1] at h
    cases h
  intro t
  induction t with
  | leaf q z =>
    rintro ⟨e, h⟩
    exact ⟨e, b _ _ (key q _ _ h) h⟩
  | node q l r il ir =>
    rintro ⟨⟨e, h⟩, h1, h2⟩
    exact ⟨⟨e, b _ _ (key q _ _ h) h⟩, il h1, ir h2⟩
theorem ReelAt.sameR {H H' : Hp} {r : Addr} (h : ReelAt H r) (s : Same H H') : ReelAt H' r := by
  obtain ⟨z, c, h1, h2, h3⟩ := h
  exact ⟨z, c, s _ _ h1, h2, h3⟩
def RopeFor (C : Addr) (H : Hp) (t : RT) (z : Str) : Prop := RopeAt C H t ∧ t.Ok ∧ t.txt = cs z
abbrev tot (zs : List Str) : Nat := ((zs.map cs).flatten).length
theorem sum_cs : ∀ zs : List Str, (zs.map (·.length)).sum = tot zs
  | [] => rfl
  | z :: zs => by
    show z.length + (zs.map (·.length)).sum = (cs z ++ (zs.map cs).flatten).length
    rw [sum_cs zs, List.length_append, len_cs]
theorem tot_app (a b : List Str) : tot (a ++ b) = tot a + tot b := by
  unfold tot
  rw [List.map_append, List.flatten_append, List.length_append]
theorem tot_mem {zs : List Str} {z : Str} (h : z ∈ zs) : (cs z).length ≤ tot zs := by
  obtain ⟨a, b, rfl⟩ := List.append_of_mem h
  rw [tot_app]
  have : tot (z :: b) = (cs z).length + tot b := by
    show (cs z ++ (b.map cs).flatten).length = _
    rw [List.length_append]
  omega
theorem RopeFor.same {C : Addr} {H H' : Hp} {t : RT} {z : Str} (s : Same H H') (h : RopeFor C H t z) : RopeFor C H' t z := ⟨h.1.same s, h.2⟩
theorem paired_two {α β : Type} {F : α → β → Prop} : ∀ {xs : List α} {ys : List β} {i : Nat}, Paired F xs ys → i + 1 < ys.length → ∃ A a b B A' a' b' B', xs = A ++ a :: b :: B ∧ ys = A' ++ a' :: b' :: B' ∧ A.length = i ∧ A'.length = i ∧ Paired F A A' ∧ F a a' ∧ F b b' ∧ Paired F B B'
  | _, _, 0, .cons h (.cons k r), _ => ⟨[], _, _, _, [], _, _, _, rfl, rfl, rfl, rfl, .nil, h, k, r⟩
  | _, _, 0, .cons h .nil, l => absurd l (by show ¬ (0 + 1 < 0 + 1); omega)
  | _, _, 0, .nil, l => absurd l (by show ¬ (0 + 1 < 0); omega)
  | _, _, i + 1, .nil, l => absurd l (by show ¬ (i + 1 + 1 < 0); omega)
  | _, _, i + 1, .cons h r, l => by
    rename_i x y xs ys
    have l2 : i + 1 < ys.length := by
      have : i + 1 + 1 < ys.length + 1 := l
      omega
    obtain ⟨A, a, b, B, A', a', b', B', e1, e2, e3, e4, e5, e6, e7, e8⟩ := paired_two r l2
    exact ⟨x :: A, a, b, B, y :: A', a', b', B', by rw [e1]; rfl, by rw [e2]; rfl, by rw [List.length_cons, e3], by rw [List.length_cons, e4], .cons h e5, e6, e7, e8⟩
theorem cut_two {α : Type} (f : α → V) (A : List α) (a b c : α) (B : List α) {k : Int} (hk : k = (A.length : Int)) :
    cutV ((A ++ a :: b :: B).map f) none (some k) ++ [f c] ++ cutV ((A ++ a :: b :: B).map f) (some (k + 2)) none = (A ++ c :: B).map f := by
  subst hk
  rw [show ((A.length : Int) + 2) = ((A.length + 2 : Nat) : Int) by omega, cutV_pre, cutV_suf, ← List.map_take, ← List.map_drop, List.take_left, List.map_append, List.append_assoc]
  congr 1
  show f c :: _ = f c :: _
  congr 2
  rw [← List.drop_drop, List.drop_left]
  rfl
theorem at_mid {α : Type} (f : α → V) (A : List α) (a : α) (B : List α) {k : Int} (hk : k = (A.length : Int)) : atI ((A ++ a :: B).map f) k = some (f a) := at_of (j := A.length) hk (by
  rw [List.map_append, List.getElem?_append_right (by rw [List.length_map]; omega), List.length_map, Nat.sub_self]
  rfl)
theorem at_mid2 {α : Type} (f : α → V) (A : List α) (a b : α) (B : List α) {k : Int} (hk : k = (A.length : Int)) : atI ((A ++ a :: b :: B).map f) (k + 1) = some (f b) := at_of (j := A.length + 1) (by omega) (by
  rw [List.map_append, List.getElem?_append_right (by rw [List.length_map]; omega), List.length_map, Nat.add_sub_cancel_left]
  rfl)
theorem sorted_two {a b : Int} {ns : List Int} (h : ns.Perm [a, b]) (s : ns.Pairwise (· ≤ ·)) : ∃ x y, ns = [x, y] ∧ x ≤ y ∧ (x = a ∨ x = b) ∧ (y = a ∨ y = b) := by
  have hl := h.length_eq
  match ns, hl, h, s with
  | [x, y], _, h, s =>
    have hx : x ∈ [a, b] := h.mem_iff.mp List.mem_cons_self
    have hy : y ∈ [a, b] := h.mem_iff.mp (List.mem_cons_of_mem _ List.mem_cons_self)
    refine ⟨x, y, rfl, (List.pairwise_cons.mp s).1 y List.mem_cons_self, ?_, ?_⟩
    · simpa using hx
    · simpa using hy

/-! ### whole -/
def spWholeR (C : Addr) : Sp := fun vs H Q _ => ∃ t : RT, vs = [.ref t.at] ∧ RopeAt C H t ∧ t.Ok ∧ t.size ≤ 16384 ∧ ∀ z H', Same H H' → cs z = t.txt → Q (.str z) H'
theorem ok_Rope_whole (T : Txt K mg) : FnOk P w K mg base CX0 1 T.a_Rope_whole T.fd_Rope_whole ["self"] (spWholeR T.C_Rope) := by
  refine T.F_Rope_whole.ok sc_Rope_whole (fun vs H Q E h => ?_) (fun cdv A outer s H vs Q E hr h => ?_)
  · obtain ⟨t, rfl, _⟩ := h
    rfl
  · obtain ⟨t, rfl, ht, ot, lt, q⟩ := h
    refine ⟨_, (pss_cons (ps_set (i := 1) sc_Rope_whole.nd rfl (.inl rfl) (pe_lst pa_nil))
      (pss_cons (ps_set (i := 2) sc_Rope_whole.nd rfl (.inl rfl) (pe_lst (pa_cons (pv 0) pa_nil)))
      (pss_cons (ps_while PassesOwn.never (pt_truth (pv 2) (by intro _; rfl)) (pss_cons (ps_set (i := 3) sc_Rope_whole.nd rfl (.inl rfl) (pe_bm0 PySem.F.plainAttrs_list PySem.F.slot_list_pop PySem.F.type_list_pop mt_pop (pv 2)))
      (pss_cons (ps_expr (pe_bm PySem.F.plainAttrs_list PySem.F.slot_list_append PySem.F.type_list_append mt_append (pv 1) (pa_cons (pe_fld (pv 3) rfl) pa_nil)))
      (pss_one (ps_if (pt_cmpR op_notN (pe_fld (pv 3) rfl) pe_non (nomark _)) (pss_cons (ps_expr (pe_bm PySem.F.plainAttrs_list PySem.F.slot_list_append PySem.F.type_list_append mt_append (pv 2) (pa_cons (pe_fld (pv 3) rfl) pa_nil)))
      (pss_one (ps_expr (pe_bm PySem.F.plainAttrs_list PySem.F.slot_list_append PySem.F.type_list_append mt_append (pv 2) (pa_cons (pe_fld (pv 3) rfl) pa_nil))))) pss_nil)))))
      (pss_one (ps_ret (pe_join pe_str (pv 1))))))), ?_⟩
    refine ⟨by show 0 ≤ sizeLine; decide, fun f nf => ?_⟩
    have s1 : Same H (upd H f (.lst [])) := same_upd nf
    refine ⟨_, rfl, by show 1 ≤ sizeLine; decide, fun d nd => ?_⟩
    have s2 := s1.trans (same_upd (o := .lst [.ref t.at]) nd)
    have ndH : H d = none := free_of s1 nd
    have hdf : d ≠ f := fun e => by
      rw [e, upd_same] at nd
      cases nd
    have tn := ot.nd
    refine ⟨fun m σ H' => ∃ (zs : List Str) (S : List RT) (y : Option V), m = (S.map RT.nd).sum ∧ σ = [some (.ref t.at), some (.ref f), some (.ref d), y] ∧ Same H H' ∧ H' f = some (.lst (zs.map V.str)) ∧ H' d = some (.lst (S.reverse.map atV)) ∧
      (∀ u ∈ S, RopeAt T.C_Rope H' u) ∧ (zs.map cs).flatten ++ (S.map RT.txt).flatten = t.txt ∧ zs.length + (S.map RT.nd).sum = t.nd,
      ⟨_, [], [t], none, rfl, rfl, s2, by rw [upd_ne hdf.symm, upd_same]; rfl, upd_same, fun u hu => by rw [List.mem_singleton.mp hu]; exact ht.same s2, by simp, by show 0 + (t.nd + 0) = t.nd; omega⟩, ?_⟩
    rintro m σ H1 ⟨zs, S, y, rfl, rfl, sm, hf, hd, hS, tx, cn⟩
    have lS := nds_len S
    cases S with
    | nil =>
      refine ⟨_, rfl, false, .inl ⟨[], SqL.of hd, rfl⟩, iteF ?_⟩
      have tx : (zs.map cs).flatten = t.txt := by
        have : (zs.map cs).flatten ++ [] = t.txt := tx
        rwa [List.append_nil] at this
      have sz : (zs.map (·.length)).sum = t.size := by rw [sum_cs, ← RT.txt_len, ← tx]
      refine ⟨⟨_, rfl⟩, _, rfl, _, f, zs, rfl, rfl, .inl (SqL.of hf), ?_, ?_⟩
      · rw [sz]
        show _ + _ * 0 ≤ _
        omega
      · exact q _ H1 sm (by rw [cs_joinT rfl, tx])
    | cons u S =>
      rw [List.reverse_cons, List.map_append] at hd
      have dl : (S.reverse.map atV ++ [u].map atV).dropLast = S.reverse.map atV := List.dropLast_concat
      refine ⟨_, rfl, true, .inl ⟨_, SqL.of hd, by simp⟩, iteT ?_⟩
      have sl : (S.reverse.map atV).length = S.length := by rw [List.length_map, List.length_reverse]
      have cn : zs.length + (u.nd + (S.map RT.nd).sum) = t.nd := cn
      have lS1 : S.length + 1 ≤ t.nd := by
        have h1 : (u :: S).length = S.length + 1 := rfl
        have h2 : ((u :: S).map RT.nd).sum = u.nd + (S.map RT.nd).sum := rfl
        omega
      have tx : (zs.map cs).flatten ++ (u.txt ++ (S.map RT.txt).flatten) = t.txt := tx
      refine ⟨fun σ' H' => ∃ m', m' < ((u :: S).map RT.nd).sum ∧ ∃ (zs : List Str) (S : List RT) (y : Option V), m' = (S.map RT.nd).sum ∧ σ' = [some (.ref t.at), some (.ref f), some (.ref d), y] ∧ Same H H' ∧ H' f = some (.lst (zs.map V.str)) ∧ H' d = some (.lst (S.reverse.map atV)) ∧
        (∀ u ∈ S, RopeAt T.C_Rope H' u) ∧ (zs.map cs).flatten ++ (S.map RT.txt).flatten = t.txt ∧ zs.length + (S.map RT.nd).sum = t.nd, fun σ' H' h => h, ?_⟩
      refine ⟨_, rfl, .inl ⟨rfl, _, SqL.of hd⟩, d, _, atV u, rfl, rfl, hd, ?_, ?_⟩
      · show ((S.reverse.map atV) ++ [atV u])[((S.reverse.map atV) ++ [atV u]).length - 1]? = some (atV u)
        rw [List.length_append]
        show ((S.reverse.map atV) ++ [atV u])[(S.reverse.map atV).length]? = _
        rw [List.getElem?_append_right (Nat.le_refl _), Nat.sub_self]
        rfl
      rw [dl]
      have hu := hS u List.mem_cons_self
      have m1 : ∀ {v : RT} {o : HO}, RopeAt T.C_Rope H1 v → RopeAt T.C_Rope (upd H1 d o) v := fun h => h.mutL hd
      have hf1 : ∀ {o : HO}, (upd H1 d o) f = some (.lst (zs.map V.str)) := by
        intro o
        rw [upd_ne hdf.symm]
        exact hf
      have m2 : ∀ {v : RT} {o : HO}, RopeAt T.C_Rope (upd H1 d (.lst (S.reverse.map atV))) v → RopeAt T.C_Rope (upd (upd H1 d (.lst (S.reverse.map atV))) f o) v := fun h => h.mutL hf1
      obtain ⟨du, ku⟩ := (m1 (o := .lst (S.reverse.map atV)) hu).it
      refine ⟨_, rfl, .inl ⟨rfl, _, SqL.of hf1⟩, _, rfl, _, _, _, _, _, rfl, ku, T.CL_Rope, T.NA_Rope_piece, r5z _ _ _ _ _, f, _, _, rfl, rfl, hf1, sz2 (by rw [List.length_map]; omega), ?_⟩
      obtain ⟨dv, kv⟩ := (m2 (o := .lst (zs.map V.str ++ [.str u.pc])) (m1 (o := .lst (S.reverse.map atV)) hu)).it
      have hd2 : (upd (upd H1 d (.lst (S.reverse.map atV))) f (.lst (zs.map V.str ++ [.str u.pc]))) d = some (.lst (S.reverse.map atV)) := by rw [upd_ne hdf, upd_same]
      have hf2 : (upd (upd H1 d (.lst (S.reverse.map atV))) f (.lst (zs.map V.str ++ [.str u.pc]))) f = some (.lst ((zs ++ [u.pc]).map V.str)) := by
        rw [upd_same, List.map_append]
        rfl
      have s3 : Same H (upd (upd H1 d (.lst (S.reverse.map atV))) f (.lst (zs.map V.str ++ [.str u.pc]))) := same_mut (same_mut sm ndH) nf
      have fl : ((zs ++ [u.pc]).map cs).flatten = (zs.map cs).flatten ++ cs u.pc := by
        rw [List.map_append, List.flatten_append]
        show _ ++ (cs u.pc ++ []) = _
        rw [List.append_nil]
      have lzs : (zs ++ [u.pc]).length = zs.length + 1 := by rw [List.length_append]; rfl
      cases u with
      | leaf p y =>
        refine ⟨_, rfl, _, _, _, _, _, rfl, kv, T.CL_Rope, T.NA_Rope_left, r5a _ _ _ _ _, rfl, _, rfl, iteF ?_⟩
        refine ⟨(S.map RT.nd).sum, ?_, zs ++ [y], S, _, rfl, rfl, s3, hf2, hd2, fun v hv => m2 (m1 (hS v (List.mem_cons_of_mem _ hv))), ?_, ?_⟩
        · show _ < 1 + (S.map RT.nd).sum
          omega
        · have fl : ((zs ++ [y]).map cs).flatten = (zs.map cs).flatten ++ cs y := fl
          rw [fl, ← tx, List.append_assoc]
          rfl
        · have cn : zs.length + (1 + (S.map RT.nd).sum) = t.nd := cn
          have lzs : (zs ++ [y]).length = zs.length + 1 := lzs
          omega
      | node p a b =>
        refine ⟨_, rfl, _, _, _, _, _, rfl, kv, T.CL_Rope, T.NA_Rope_left, r5a _ _ _ _ _, rfl, _, rfl, iteT ?_⟩
        refine ⟨_, rfl, .inl ⟨rfl, _, SqL.of hd2⟩, _, rfl, _, _, _, _, _, rfl, kv, T.CL_Rope, T.NA_Rope_right, r5b _ _ _ _ _, d, _, _, rfl, rfl, hd2, sz2 (by omega), ?_⟩
        have m3 : ∀ {v : RT} {o : HO}, RopeAt T.C_Rope (upd (upd H1 d (.lst (S.reverse.map atV))) f (.lst (zs.map V.str ++ [.str (RT.node p a b).pc]))) v → RopeAt T.C_Rope (upd (upd (upd H1 d (.lst (S.reverse.map atV))) f (.lst (zs.map V.str ++ [.str (RT.node p a b).pc]))) d o) v := fun h => h.mutL hd2
        obtain ⟨dw, kw⟩ := (m3 (o := .lst (S.reverse.map atV ++ [.ref b.at])) (m2 (m1 hu))).it
        refine ⟨_, rfl, .inl ⟨rfl, _, SqL.of upd_same⟩, _, rfl, _, _, _, _, _, rfl, kw, T.CL_Rope, T.NA_Rope_left, r5a _ _ _ _ _, d, _, _, rfl, rfl, upd_same, sz2 (by rw [List.length_append, sl]; show S.length + 1 < _; omega), ?_⟩
        rw [upd_upd]
        refine ⟨a.nd + (b.nd + (S.map RT.nd).sum), ?_, zs ++ [(RT.node p a b).pc], a :: b :: S, _, rfl, rfl, same_mut s3 ndH, by rw [upd_ne hdf.symm]; exact hf2, ?_, fun v hv => ?_, ?_, ?_⟩
        · show _ < 1 + a.nd + b.nd + (S.map RT.nd).sum
          omega
        · rw [upd_same, List.reverse_cons, List.reverse_cons, List.map_append, List.map_append]
          rfl
        · rcases List.mem_cons.mp hv with rfl | hv
          · exact m3 (m2 (m1 hu)).l
          rcases List.mem_cons.mp hv with rfl | hv
          · exact m3 (m2 (m1 hu)).r
          · exact m3 (m2 (m1 (hS v (List.mem_cons_of_mem _ hv))))
        · rw [fl, ← tx, show cs (RT.node p a b).pc = [] from rfl, List.append_nil]
          show (zs.map cs).flatten ++ (a.txt ++ (b.txt ++ (S.map RT.txt).flatten)) = (zs.map cs).flatten ++ ((a.txt ++ b.txt) ++ (S.map RT.txt).flatten)
          rw [List.append_assoc]
        · have cn : zs.length + ((1 + a.nd + b.nd) + (S.map RT.nd).sum) = t.nd := cn
          rw [lzs]
          show zs.length + 1 + (a.nd + (b.nd + (S.map RT.nd).sum)) = t.nd
          omega

/-! ### the tags of the way back -/
theorem minOne_comp {t u : List Int} (h : MinOne t) : MinOne (compT t u) := fun x hx l => by
  unfold compT at hx
  obtain ⟨y, _, rfl⟩ := List.mem_map.mp hx
  by_cases c : 0 ≤ y
  · rw [if_pos c] at l ⊢
    cases e : t[y.toNat]? with
    | none => rfl
    | some v =>
      rw [e] at l
      exact h v (List.mem_of_getElem? e) l
  · rw [if_neg c]
theorem stay_get {b c k : Nat} : (stay b c)[k]? = if k < c then some ((b + k : Nat) : Int) else none := by
  unfold stay
  rw [List.getElem?_map]
  by_cases h : k < c
  · rw [if_pos h, List.getElem?_range h]
    rfl
  · rw [if_neg h, List.getElem?_eq_none (by rw [List.length_range]; omega)]
    rfl
theorem one_get {mid a b m k : Nat} {x : Int} (h : (oneT mid a b m)[k]? = some x) : (k < a ∧ x = (k : Int)) ∨ (a ≤ k ∧ k < a + m ∧ x = -1) ∨ (a + m ≤ k ∧ k < a + m + (mid + 1 - b) ∧ x = ((b + (k - (a + m)) : Nat) : Int)) := by
  unfold oneT at h
  have l1 : (stay 0 a ++ List.replicate m (-1 : Int)).length = a + m := by rw [List.length_append, stay_len, List.length_replicate]
  by_cases c : k < a + m
  · rw [List.getElem?_append_left (by omega)] at h
    by_cases c2 : k < a
    · rw [List.getElem?_append_left (by rw [stay_len]; exact c2), stay_get, if_pos c2] at h
      have := Option.some.inj h
      exact .inl ⟨c2, by omega⟩
    · rw [List.getElem?_append_right (by rw [stay_len]; omega), stay_len, List.getElem?_replicate] at h
      split at h
      · exact .inr (.inl ⟨by omega, c, (Option.some.inj h).symm⟩)
      · cases h
  · rw [List.getElem?_append_right (by omega), l1, stay_get] at h
    split at h
    · exact .inr (.inr ⟨by omega, by omega, (Option.some.inj h).symm⟩)
    · cases h
theorem ahead_one {mid a b m mid2 : Nat} (h1 : a ≤ b) (h2 : b ≤ mid) (h3 : mid2 = mid - (b - a) + m) : AheadL (tp 0 (oneT mid a b m)) mid (oneT mid2 a (a + m) (b - a)) := by
  refine ⟨by rw [oneT_len]; omega, fun k x hx => ?_⟩
  rw [tp_one]
  rcases one_get hx with ⟨c, rfl⟩ | ⟨c1, c2, rfl⟩ | ⟨c1, c2, rfl⟩
  · exact .inl ⟨(k, k), List.mem_append_left _ (mem_pairs1.mpr ⟨Nat.zero_le _, by simp only; omega, rfl⟩), rfl, rfl⟩
  · refine .inr ⟨fun q hq e => ?_, rfl⟩
    have e : q.1 = k := e
    rcases List.mem_append.mp hq with h | h
    · have := mem_pairs1.mp h
      simp only at this
      omega
    · have := mem_pairs1.mp h
      simp only at this
      omega
  · refine .inl ⟨(k, a + m + (k - (a + (b - a)))), List.mem_append_right _ (mem_pairs1.mpr ⟨by simp only; omega, by simp only; omega, by simp only; omega⟩), rfl, rfl⟩
theorem ahead_ex {t : List Int} {old : Nat} : ∃ al, AheadL (tp 0 t) old al := by
  have key : ∀ ps : List (Nat × Nat), ∃ al, AheadL ps old al := fun ps => by
    have go : ∀ k, k ≤ ps.length → ∃ al, AheadL (ps.take k) old al := fun k => by
      induction k with
      | zero => exact fun _ => ⟨_, ahead_start old⟩
      | succ k ih =>
        intro hk
        obtain ⟨al, h⟩ := ih (by omega)
        obtain ⟨q, hq⟩ : ∃ q, ps[k]? = some q := ⟨_, List.getElem?_eq_getElem (by omega)⟩
        rw [take_more hq]
        exact ⟨_, ahead_step h⟩
    have h := go ps.length (Nat.le_refl _)
    rw [List.take_length] at h
    exact h
  exact key _
theorem tp_both {t u al a b : List Int} {old mid : Nat} (h : Tagged old t) (hl : t.length = mid + 1) (g : Tagged mid u) (ha : AheadL (tp 0 t) old a) (hb : AheadL (tp 0 u) mid b) (hal : AheadL (tp 0 (compT t u)) old al) : tp 0 (compT b a) = tp 0 al := by
  have e : mid = t.length - 1 := by omega
  have hc : Tagged old (compT t u) := h.comp (by rw [← e]; exact g)
  refine up_eq (tp_snd 0 _) (tp_snd 0 _) fun p => ?_
  rw [mem_compT, tp_ahead hc hal, tp_ahead h ha, tp_ahead g hb, mem_swp, mem_compT]
  constructor
  · rintro ⟨m, h1, h2⟩
    exact ⟨m, mem_swp.mp h2, mem_swp.mp h1⟩
  · rintro ⟨m, h1, h2⟩
    exact ⟨m, mem_swp.mpr h2, mem_swp.mpr h1⟩
theorem ahead_same {ps : List (Nat × Nat)} {n : Nat} {al t : List Int} (h : AheadL ps n al) (hm : MinOne t) (hl : t.length = n + 1) (e : tp 0 t = tp 0 al) : AheadL ps n t := by
  have : t = al := minOne_ext hm (ahead_min h) (by rw [hl, h.1]) e
  rw [this]
  exact h
theorem back_tags {x : List Nat} : ∀ {es : List Ed}, fitsL x.length es → AheadL (tp 0 (tagsE x.length es)) x.length (tagsE (appl x es).length (backL x es)) := by
  intro es
  induction es using rev_ind with
  | h0 =>
    intro _
    have e : tagsE x.length [] = stay 0 (x.length + 1) := upTo_stay (x.length + 1)
    show AheadL (tp 0 (tagsE x.length [])) x.length (tagsE x.length [])
    rw [e, tp_stay]
    refine ⟨stay_len _ _, fun k y hy => ?_⟩
    rw [stay_get] at hy
    split at hy
    · rename_i c
      have := Option.some.inj hy
      exact .inl ⟨(k, k), mem_pairs1.mpr ⟨Nat.zero_le _, by simp only; omega, rfl⟩, rfl, by rw [← this]; show ((0 + k : Nat) : Int) = (k : Int); omega⟩
    · cases hy
  | h1 es e ih =>
    intro hf
    obtain ⟨f1, f2⟩ := (fitsL_snoc _ _ _).mp hf
    have ih := ih f1
    obtain ⟨tg1, tg2⟩ := tags_tagged f1
    rw [← appl_len f1] at f2
    obtain ⟨a, b, hab, h1, h2⟩ := fit_nat f2
    have ml : (appl x es).length = sizeL x.length es := appl_len f1
    have ha : e.1.toNat = a := by rw [hab]; rfl
    have hb : e.2.1.toNat = b := by rw [hab]; rfl
    obtain ⟨m, hm⟩ : ∃ m, m = e.len := ⟨_, rfl⟩
    have e1 : tagsE x.length (es ++ [e]) = compT (tagsE x.length es) (oneT (appl x es).length a b m) := by
      rw [tagsE_snoc, compT_one (by omega) h1 h2, ha, hb, hm]
    have l2 : (appl x (es ++ [e])).length = (appl x es).length - (b - a) + m := by
      rw [appl_snoc, spl1_len f2]
      show (appl x es).length - (e.2.1.toNat - e.1.toNat) + e.len = _
      rw [ha, hb, hm]
    obtain ⟨mid2, hmid2⟩ : ∃ mid2, mid2 = (appl x (es ++ [e])).length := ⟨_, rfl⟩
    obtain ⟨mid, hmid⟩ : ∃ mid, mid = (appl x es).length := ⟨_, rfl⟩
    rw [← hmid2, ← hmid] at l2
    rw [← hmid] at e1 ml h2
    have e2 : tagsE mid2 [back1 (appl x es) e] = oneT mid2 a (a + m) (b - a) := by
      have h3 : tagsE mid2 ([] ++ [back1 (appl x es) e]) = _ := tagsE_snoc mid2 [] (back1 (appl x es) e)
      have h4 : tagsE mid2 [] = stay 0 (mid2 + 1) := upTo_stay (mid2 + 1)
      have h5 : (back1 (appl x es) e).1.toNat = a := ha
      have h6 : (back1 (appl x es) e).2.1.toNat = a + m := by
        show (e.1 + (e.len : Int)).toNat = a + m
        rw [hab]
        show ((a : Int) + ((cs e.2.2).length : Int)).toNat = a + m
        have : m = (cs e.2.2).length := hm
        omega
      have h7 : (back1 (appl x es) e).len = b - a := by
        show (((appl x es).take e.2.1.toNat).drop e.1.toNat).length = b - a
        rw [List.length_drop, List.length_take, ha, hb]
        omega
      rw [List.nil_append, h4, h5, h6, h7] at h3
      rw [h3]
      unfold oneT
      have c1 := stay_cut (N := mid2 + 1) (a := 0) (c := a) (by omega)
      have c2 := stay_cut (N := mid2 + 1) (a := a + m) (c := mid2 + 1 - (a + m)) (by omega)
      rw [List.drop_zero] at c1
      rw [List.take_of_length_le (by rw [List.length_drop, stay_len]; omega)] at c2
      rw [c1, c2]
    have l1 : (tagsE mid2 [back1 (appl x es) e]).length = mid + 1 := by
      rw [e2, oneT_len]
      omega
    have e3 : tagsE mid2 (backL x (es ++ [e])) = compT (oneT mid2 a (a + m) (b - a)) (tagsE mid (backL x es)) := by
      rw [backL_snoc]
      have h8 := tagsE_app (n := mid2) (m := mid) (es := [back1 (appl x es) e]) l1 (fs := backL x es)
      rw [e2] at h8
      exact h8
    rw [← hmid] at ih
    have au := ahead_one (m := m) h1 h2 l2
    obtain ⟨al, hal⟩ := ahead_ex (t := compT (tagsE x.length es) (oneT mid a b m)) (old := x.length)
    have tb := tp_both tg1 (by omega) (one_tagged h1 h2) ih au hal
    rw [e1, ← hmid2, e3]
    refine ahead_same hal (minOne_comp ?_) (by rw [compT_len]; exact ih.1) tb
    rw [← e2]
    exact tagsE_min
/-- the edits that lead back, as a row of runs -/
theorem back_all {x : List Nat} {es : List Ed} (hf : fitsL x.length es) {al : List Int} (h : AheadL (tp 0 (tagsE x.length es)) x.length al) : tagsE (appl x es).length (backL x es) = al := by
  have h1 := back_tags hf
  have tg := (tags_tagged hf).1
  exact minOne_ext tagsE_min (ahead_min h) (by rw [h1.1, h.1]) (by rw [tp_ahead tg h1, tp_ahead tg h])
theorem both_kept {x : List Nat} {es : List Ed} (hf : fitsL x.length es) {al : List Int} (h : AheadL (tp 0 (tagsE x.length es)) x.length al) : tagsE x.length (es ++ backL x es) = keptL al al.length := by
  have tg := tags_tagged hf
  rw [tagsE_app (m := (appl x es).length) (by rw [tg.2, appl_len hf]), back_all hf h]
  exact comp_back tg.1 h
/-- counting -/
theorem runs_sum : ∀ rs : List Rn, (rs.map fun r => r.2.2).sum = (pairsOf rs).length
  | [] => rfl
  | r :: rs => by
    show r.2.2 + (rs.map fun r => r.2.2).sum = (pairs1 r ++ pairsOf rs).length
    rw [List.length_append, runs_sum rs]
    unfold pairs1
    rw [List.length_map, List.length_range]
theorem tp_count : ∀ (k : Nat) (t : List Int), (tp k t).length = (t.filter fun x => decide (0 ≤ x)).length
  | _, [] => rfl
  | k, x :: t => by
    have ih := tp_count (k + 1) t
    show (if 0 ≤ x then (x.toNat, k) :: tp (k + 1) t else tp (k + 1) t).length = _
    rw [List.filter_cons]
    by_cases c : 0 ≤ x
    · rw [if_pos c, if_pos (decide_eq_true c), List.length_cons, List.length_cons, ih]
    · rw [if_neg c, if_neg (by simp only [decide_eq_true_eq]; exact c), ih]

/-! ### the stretches between runs -/
def spGaps : Sp := fun vs H Q _ => ∃ (z : Str) (t : Addr) (rs : List Rn), vs = [.str z, .ref t] ∧ RnsT H t rs ∧ AscR rs ∧ rs.length < 4000000 ∧ (cs z).length ≤ 4000000 ∧ ∀ d H', Same H H' → EdsAt H' d (compE (cs z) rs) → Q (.ref d) H'
theorem ok_gaps (T : Txt K mg) : FnOk P w K mg base CX0 1 T.a_law_gaps T.fd_law_gaps ["after", "runs"] spGaps := by
  refine T.F_law_gaps.ok sc_law_gaps (fun vs H Q E h => ?_) (fun cdv A outer s H vs Q E hr h => ?_)
  · obtain ⟨z, t, rs, rfl, _⟩ := h
    rfl
  · obtain ⟨z, t, rs, rfl, ⟨us, ht, hu⟩, asc, lrs, lz, q⟩ := h
    refine ⟨_, (pss_cons (ps_set (i := 2) sc_law_gaps.nd rfl (.inl rfl) (pe_lst pa_nil))
      (pss_cons (ps_set (i := 3) sc_law_gaps.nd rfl (.inl rfl) pe_int)
      (pss_cons (ps_set (i := 4) sc_law_gaps.nd rfl (.inl rfl) pe_int)
      (pss_cons (ps_for PassesOwn.never rfl (pi_tup (pv 1)) (pg_name (i := 5) sc_law_gaps.nd rfl (.inl rfl)) (C8.pss_cut (ps_if (PW.pt (pw_or (pt_cmpR op_gt (pe_ix ix_tup (pv 5) pe_int (fun _ _ => rfl)) (pv 3) (nomark _)) (pw_or1 (pt_cmpR op_gt (pe_ix ix_tup (pv 5) pe_int (fun _ _ => rfl)) (pv 4) (nomark _))))) (pss_one (ps_set (i := 2) sc_law_gaps.nd rfl (.inl rfl) (pe_op op_cat (pe_lst (pa_cons (pe_tup (pa_cons (pv 3) (pa_cons (pe_ix ix_tup (pv 5) pe_int (fun _ _ => rfl)) (pa_cons (pe_slice sl_str (pv 0) (po_some (pv 4)) (po_some (pe_ix ix_tup (pv 5) pe_int (fun _ _ => rfl)))) pa_nil)))) pa_nil)) (pv 2)))) pss_nil)
      (pss_cons (ps_set (i := 3) sc_law_gaps.nd rfl (.inl rfl) (pe_op op_add (pe_ix ix_tup (pv 5) pe_int (fun _ _ => rfl)) (pe_ix ix_tup (pv 5) pe_int (fun _ _ => rfl))))
      (pss_one (ps_set (i := 4) sc_law_gaps.nd rfl (.inl rfl) (pe_op op_add (pe_ix ix_tup (pv 5) pe_int (fun _ _ => rfl)) (pe_ix ix_tup (pv 5) pe_int (fun _ _ => rfl))))))))
      (pss_one (ps_ret (pv 2))))))), ?_⟩
    have lus := paired_len hu
    have zl := len_cs z
    refine ⟨by show 0 ≤ sizeLine; decide, fun p np => ?_⟩
    have s1 : Same H (upd H p (.lst [])) := same_upd np
    refine ⟨_, rfl, t, rfl, ⟨_, SqT.of (s1 _ _ ht)⟩, ?_⟩
    refine for_tup (K := K) (a := t) (xs := us) (fun i σ H' => Same H H' ∧ ∃ (p : Addr) (o n : Nat) (gs : List Gp) (ws : List V) (y5 : Option V), σ = [some (.str z), some (.ref t), some (.ref p), some (.int (o : Int)), some (.int (n : Int)), y5] ∧
        H' p = some (.lst ws) ∧ EdsIn H' ws (gs.reverse.map (gapE (cs z))) ∧ GapSt rs i o n gs)
      ⟨s1, p, 0, 0, [], [], none, rfl, upd_same, .nil, GapSt.start asc⟩ (fun i σ H' _ ⟨s, _⟩ => SqT.of (s _ _ ht)) ?_ ?_
    · rintro i x σ H1 hx ⟨sm, p, o, n, gs, ws, y5, rfl, hp, hw, hg⟩
      obtain ⟨r, hr⟩ : ∃ e, rs[i]? = some e := ⟨_, List.getElem?_eq_getElem (by rw [← lus]; exact (List.getElem?_eq_some_iff.mp hx).1)⟩
      obtain ⟨x', hx', g, rfl, hgt0⟩ := paired_get hu hr
      rw [hx] at hx'
      obtain rfl := Option.some.inj hx'
      have hgt := sm _ _ hgt0
      obtain ⟨g1, k1, k2⟩ := hg.next hr
      have lgs : gs.length ≤ rs.length := by
        have e := gaps_len rs 0 0
        rw [hg.1, List.length_append] at e
        omega
      have lws := paired_len hw
      rw [List.length_map, List.length_reverse] at lws
      refine ⟨fun σ H' => Same H H' ∧ ∃ (p : Addr) (ws : List V), σ = [some (.str z), some (.ref t), some (.ref p), some (.int (o : Int)), some (.int (n : Int)), some (.ref g)] ∧ H' p = some (.lst ws) ∧
        EdsIn H' ws ((gs ++ if r.1 = o ∧ r.2.1 = n then [] else [(o, r.1, n, r.2.1)]).reverse.map (gapE (cs z))), ?_, ?_⟩
      · refine if_2 (fun H2 => H2 = H1) (¬ (r.1 = o ∧ r.2.1 = n)) (fun Qb qb => ?_) (fun c H2 e2 => ?_) (fun c H2 e2 => ?_)
        · refine ⟨_, rfl, g, _, _, _, rfl, rfl, SqT.of hgt, tup3 0 rfl, _, rfl, _, _, rfl, rfl, _, rfl, ite2 (fun c1 => ?_) (fun c1 => ?_)⟩
          · have c1 : (o : Int) < (r.1 : Int) := of_decide_eq_true c1
            exact qb _ _ rfl ⟨fun _ => by omega, fun _ => rfl⟩
          · have c1 : ¬ (o : Int) < (r.1 : Int) := fun z => c1 (decide_eq_true z)
            refine ⟨_, rfl, g, _, _, _, rfl, rfl, SqT.of hgt, tup3 1 rfl, _, rfl, _, _, rfl, rfl, _, rfl, qb _ _ rfl ?_⟩
            rw [decide_eq_true_eq]
            omega
        · cases e2
          rw [if_neg c]
          refine ⟨_, rfl, _, rfl, g, _, _, _, rfl, rfl, SqT.of hgt, tup3 0 rfl, _, rfl, _, rfl, _, rfl, _, rfl, g, _, _, _, rfl, rfl, SqT.of hgt, tup3 1 rfl, _, rfl, z, rfl, szM (by omega), ?_⟩
          rw [word_cut z rfl]
          refine ⟨by show 3 ≤ sizeLine; decide, fun a na => ⟨by show 1 ≤ sizeLine; decide, fun b nb => ?_⟩⟩
          have s2 := same_upd (o := .tup [.int (o : Int), .int (r.1 : Int), .str (⟨(wordN (cs z) n r.2.1).toArray⟩ : Str)]) na
          have s3 := same_upd (o := .lst [.ref a]) nb
          refine ⟨_, rfl, b, p, _, _, rfl, rfl, upd_same, s3 _ _ (s2 _ _ hp), szM (by show 1 + _ ≤ _; omega), fun d nd => ?_⟩
          have s4 := same_upd (o := .lst ([.ref a] ++ ws)) nd
          have s5 := (s2.trans s3).trans s4
          refine ⟨sm.trans s5, d, _, rfl, upd_same, ?_⟩
          rw [List.reverse_append, List.map_append]
          exact paired_app (.cons ⟨a, rfl, (s3.trans s4) _ _ upd_same⟩ .nil) (hw.mono fun b xs e => s5 b _ e)
        · cases e2
          rw [if_pos (Decidable.not_not.mp c), List.append_nil]
          exact ⟨sm, p, ws, rfl, hp, hw⟩
      · rintro σ H2 ⟨sm2, p, ws, rfl, hp, hw⟩
        have hgt := sm2 _ _ hgt0
        refine ⟨_, rfl, g, _, _, _, rfl, rfl, SqT.of hgt, tup3 0 rfl, _, rfl, g, _, 2, .int (r.2.2 : Int), rfl, rfl, SqT.of hgt, tup3 2 rfl, _, _, rfl, rfl, ?_⟩
        refine ⟨_, rfl, g, _, _, _, rfl, rfl, SqT.of hgt, tup3 1 rfl, _, rfl, g, _, 2, .int (r.2.2 : Int), rfl, rfl, SqT.of hgt, tup3 2 rfl, _, _, rfl, rfl, ?_⟩
        exact ⟨sm2, p, r.1 + r.2.2, r.2.1 + r.2.2, _, ws, _, by rw [Int.natCast_add, Int.natCast_add]; rfl, hp, hw, g1⟩
    · rintro σ H1 ⟨sm, p, o, n, gs, ws, y5, rfl, hp, hw, hg⟩
      rw [lus] at hg
      have hd := hg.done
      refine ⟨_, rfl, q p H1 sm ⟨ws, hp, ?_⟩⟩
      show EdsIn _ _ ((gapsL 0 0 rs).reverse.map (gapE (cs z)))
      rw [hd]
      exact hw
/-! ### a rope of a text -/
theorem r5w (z : Str) (a b : V) (n h : Nat) : (rfl5 z a b n h).lookup ("whole" : Str) = none := r5_no _ _ _ _ _ (by decide +kernel) (by decide +kernel) (by decide +kernel) (by decide +kernel) (by decide +kernel)
def spRopeIs (C : Addr) : Sp := fun vs H Q _ => ∃ (t : RT) (z : Str), vs = [.ref t.at, .str z] ∧ RopeFor C H t z ∧ (cs z).length ≤ 16384 ∧ ∀ H', Same H H' → Q (.bl true) H'
theorem ok_rope_is (T : Txt K mg) : FnOk P w K mg base CX0 2 T.a_law_rope_is T.fd_law_rope_is ["rope", "text"] (spRopeIs T.C_Rope) := by
  have G_law_number : FnOk P w K mg base CX0 1 T.a_law_number T.fd_law_number ["value"] spNumber := ok_number T
  have G_Rope_whole : FnOk P w K mg base CX0 1 T.a_Rope_whole T.fd_Rope_whole ["self"] (spWholeR T.C_Rope) := ok_Rope_whole T
  refine T.F_law_rope_is.ok sc_law_rope_is (fun vs H Q E h => ?_) (fun cdv A outer s H vs Q E hr h => ?_)
  · obtain ⟨t, z, rfl, _⟩ := h
    rfl
  · obtain ⟨t, z, rfl, ⟨ht, ot, tz⟩, lz, q⟩ := h
    have hr_law_number : Room 1 _ := hr
    have hr_Rope_whole : Room 1 _ := hr
    refine ⟨_, (pss_cons (ps_if (PW.pt (pw_or (pt_not (pt_val (pe_callB (C8.call_isC T.IC_Rope) (by rfl) T.m_isinstance (by decide +kernel) (pa_cons (pv 0) (pa_cons (pe_glob (v := .ref T.C_Rope) (by rfl) T.G_Rope rfl) pa_nil))))) (pw_or (pt_not (pt_val (pe_call G_law_number hr_law_number (by rfl) T.g_law_number T.F_law_number.kp T.b_law_number .nil pass0 (pa_cons (pe_fld (pv 0) rfl) pa_nil)))) (pw_or1 (pt_cmpR op_ne (pe_fld (pv 0) rfl) (pe_callB call_len_str (by rfl) T.m_len PySem.boot_len (pa_cons (pv 1) pa_nil)) (nomark _)))))) (pss_one (ps_ret pe_bl)) pss_nil)
      (pss_cons (ps_set (i := 2) sc_law_rope_is.nd rfl (.inl rfl) (pe_meth0 (pv 0) T.CL_Rope T.ME_Ropewhole G_Rope_whole hr_Rope_whole T.b_Rope_whole .nil pass0))
      (pss_one (ps_ret (pe_and (pe_callB call_isi (by rfl) T.m_isinstance (by decide +kernel) (pa_cons (pv 2) (pa_cons (pe_bltn (v := .ty "str") (by rfl) T.m_str (by decide +kernel) rfl) pa_nil))) (pe_one (pe_cmpR op_eq (pv 2) (pv 1) (nomark _)))))))), ?_⟩
    obtain ⟨dt, kt⟩ := ht.it
    have zl := len_cs z
    have tn : t.size = (cs z).length := by rw [← RT.txt_len, tz]
    refine ⟨_, rfl, _, _, _, rfl, kt, true, rfl, _, rfl, _, _, _, _, _, rfl, kt, T.CL_Rope, T.NA_Rope_size, r5n _ _ _ _ _, _, rfl, true, rfl, _, rfl, _, _, _, _, _, rfl, kt, T.CL_Rope, T.NA_Rope_size, r5n _ _ _ _ _, _, rfl, z, rfl, szM (by omega), rfl, _, rfl, itF (by rw [decide_eq_true (by rw [tn, zl])]; rfl) ?_⟩
    refine ⟨_, rfl, _, _, _, rfl, kt, r5w _ _ _ _ _, t, rfl, ht, ot, by omega, fun z' H1 s1 ez => ?_⟩
    obtain rfl : z' = z := cs_inj (by rw [ez, tz])
    refine ⟨_, rfl, _, _, _, _, true, rfl, .ty _, .base (.str _), kit_ty (by decide +kernel), true, rfl, iteT ?_⟩
    refine ⟨_, rfl, _, rfl, rfl, ?_⟩
    rw [show decide (V.str z' = V.str z') = true from decide_eq_true rfl]
    exact q _ s1

/-! ### sizes on the way -/
def lensL (es : List Ed) : Nat := (es.map fun e => e.len).sum
theorem size_lens : ∀ (es : List Ed) (n : Nat), sizeL n es ≤ n + lensL es
  | [], n => Nat.le_add_right _ _
  | e :: es, n => by
    have ih := size_lens es (size1 n e)
    have h1 : size1 n e = n - (e.2.1.toNat - e.1.toNat) + e.len := rfl
    show sizeL (size1 n e) es ≤ n + (e.len + lensL es)
    omega
theorem lens_take (es : List Ed) (k : Nat) : lensL (es.take k) ≤ lensL es := by
  have h : lensL es = lensL (es.take k) + lensL (es.drop k) := by
    unfold lensL
    rw [← List.sum_append, ← List.map_append, List.take_append_drop]
  omega
theorem gaps_lens {u : List Nat} : ∀ (rs : List Rn) (o n : Nat), (∀ r ∈ rs, n ≤ r.2.1) → AscR rs → ((gapsL o n rs).map fun g => (wordN u g.2.2.1 g.2.2.2).length).sum ≤ u.length - n
  | [], _, _, _, _ => Nat.zero_le _
  | r :: rs, o, n, h1, h2 => by
    obtain ⟨a1, a2⟩ := List.pairwise_cons.mp h2
    have k := h1 r List.mem_cons_self
    have ih := gaps_lens (u := u) rs (r.1 + r.2.2) (r.2.1 + r.2.2) (fun x hx => (a1 x hx).2) a2
    show (((if r.1 = o ∧ r.2.1 = n then [] else [(o, r.1, n, r.2.1)]) ++ gapsL (r.1 + r.2.2) (r.2.1 + r.2.2) rs).map fun g => (wordN u g.2.2.1 g.2.2.2).length).sum ≤ u.length - n
    rw [List.map_append, List.sum_append]
    by_cases c : r.1 = o ∧ r.2.1 = n
    · rw [if_pos c]
      show 0 + _ ≤ _
      omega
    · rw [if_neg c]
      have w : (wordN u n r.2.1).length = min (r.2.1 - n) (u.length - n) := by
        unfold wordN
        rw [List.length_take, List.length_drop]
      show ((wordN u n r.2.1).length + 0) + _ ≤ _
      omega
theorem comp_lens {u : List Nat} {rs : List Rn} (h : AscR rs) : lensL (compE u rs) ≤ u.length := by
  have h1 := gaps_lens (u := u) rs 0 0 (fun _ _ => Nat.zero_le _) h
  unfold lensL compE
  rw [List.map_map, List.map_reverse, List.sum_reverse]
  exact h1
theorem appl_toks : ∀ {es : List Ed} {t : List Nat}, (∀ e ∈ es, TOk e.2.2) → (∀ c ∈ t, c < 1114112) → ∀ c ∈ appl t es, c < 1114112
  | [], _, _, h2 => h2
  | e :: es, t, h1, h2 => appl_toks (es := es) (t := spl1 t e) (fun x hx => h1 x (List.mem_cons_of_mem _ hx)) (spl_tok h2 (h1 e List.mem_cons_self))
theorem back_short {t : List Nat} (ht : ∀ c ∈ t, c < 1114112) : ∀ {es : List Ed}, (∀ e ∈ es, TOk e.2.2) → (∀ e ∈ es, e.2.1.toNat ≤ 2000) → Short (backL t es) := by
  intro es
  induction es using rev_ind with
  | h0 => exact fun _ _ e he => absurd he List.not_mem_nil
  | h1 es e ih =>
    intro ho hl e' he'
    rw [backL_snoc] at he'
    have ho1 : ∀ x ∈ es, TOk x.2.2 := fun x hx => ho x (List.mem_append_left _ hx)
    rcases List.mem_cons.mp he' with rfl | h
    · have l0 := hl e (List.mem_append_right _ List.mem_cons_self)
      refine ⟨?_, ?_⟩
      · show (((appl t es).take e.2.1.toNat).drop e.1.toNat).length ≤ 2000
        rw [List.length_drop, List.length_take]
        omega
      · exact fun c hc => appl_toks ho1 ht c (List.mem_of_mem_take (List.mem_of_mem_drop hc))
    · exact ih ho1 (fun x hx => hl x (List.mem_append_left _ hx)) e' h
/-! ### rows of edits between short texts -/
structure Row (z y : Str) (es : List Ed) : Prop where
  lz : (cs z).length ≤ 2000
  ly : (cs y).length ≤ 2000
  oz : TOk z
  fit : fitsL (cs z).length es
  cy : cs y = appl (cs z) es
  sh : Short es
  len : es.length ≤ 100
  lim : ∀ k, (appl (cs z) (es.take k)).length ≤ 8000
theorem Row.oy {z y : Str} {es : List Ed} (r : Row z y es) : TOk y := by
  have h := appl_toks (t := cs z) (fun e he => (r.sh e he).2) r.oz
  rw [← r.cy] at h
  exact h
theorem Row.fitsQ {z y : Str} {es : List Ed} (r : Row z y es) {H : Hp} {Q : VK} {E : XK} {p : Addr} {n : Int} (hn : n = ((cs z).length : Int)) (h : EdsAt H p es) (q : ∀ H', Same H H' → Q (.bl true) H') : spFits [.int n, .ref p] H Q E := by
  subst hn
  refine ⟨_, p, es, rfl, h, r.sh.sized, by have := r.len; omega, by have := r.lz; omega, fun H' s => ?_⟩
  have e : fitsB (cs z).length es = true := by
    unfold fitsB
    rw [unfit_none.mpr r.fit]
    rfl
  rw [e]
  exact q H' s
theorem Row.lim2 {z y : Str} {es : List Ed} (r : Row z y es) : Lim2 (cs z) es := fun k _ => Nat.le_trans (r.lim k) (by decide)
theorem Row.applyQ {z y : Str} {es : List Ed} (r : Row z y es) {C : Addr} {H : Hp} {Q : VK} {E : XK} {p : Addr} (h : EdsAt H p es) (q : ∀ H', Same H H' → Q (.str y) H') : spApply C [.str z, .ref p] H Q E := by
  refine ⟨z, p, es, rfl, h, r.sh.sized, by have := r.len; omega, by have := r.lz; omega, r.oz, r.lim2, fun _ H' s => ?_, fun k hk => by rw [unfit_none.mpr r.fit] at hk; cases hk⟩
  have e := mkS_eq r.cy
  rw [← e]
  exact q H' s
theorem Row.editQ {z y : Str} {es : List Ed} (r : Row z y es) {C D : Addr} {H : Hp} {Q : VK} {E : XK} {p : Addr} {t : RT} (ht : RopeFor C H t z) (h : EdsAt H p es) (q : ∀ u H', Same H H' → RopeFor C H' u y → Q (.ref u.at) H') : spEdited C D [.ref t.at, .ref p] H Q E := by
  obtain ⟨h1, h2, h3⟩ := ht
  have tn : t.size = (cs z).length := by rw [← RT.txt_len, h3]
  refine ⟨t, p, es, rfl, h1, h2, h, r.sh.sized, by have := r.len; omega, fun e he => (r.sh e he).1, fun k _ => by rw [h3]; exact Nat.lt_of_le_of_lt (r.lim k) (by decide), fun _ u H' iu => ?_, fun k hk => by rw [tn, unfit_none.mpr r.fit] at hk; cases hk⟩
  exact q u H' iu.same ⟨iu.here, iu.ok, by rw [iu.txt, h3, r.cy]⟩
theorem Row.compactQ {z y : Str} {es : List Ed} (r : Row z y es) {C : Addr} {H : Hp} {Q : VK} {E : XK} {p : Addr} (h : EdsAt H p es) (q : ∀ d H', Same H H' → EdsAt H' d (compE (cs y) (canon (tp 0 (tagsE (cs z).length es)))) → Q (.ref d) H') : spCompact C [.str z, .ref p] H Q E := by
  refine ⟨z, p, es, rfl, h, r.sh, by have := r.len; omega, r.lz, r.oz, fun _ d H' s _ hd => q d H' s (by rw [r.cy]; exact hd), fun k hk => by rw [unfit_none.mpr r.fit] at hk; cases hk⟩
theorem Row.inverseQ {z y : Str} {es : List Ed} (r : Row z y es) {C : Addr} {H : Hp} {Q : VK} {E : XK} {p : Addr} (h : EdsAt H p es) (q : ∀ d H', Same H H' → EdsAt H' d (backL (cs z) es) → Q (.ref d) H') : spInverse C [.str z, .ref p] H Q E := by
  exact ⟨z, p, es, rfl, h, r.sh.sized, by have := r.len; omega, by have := r.lz; omega, r.oz, r.lim2, fun _ d H' s _ hd => q d H' s hd, fun k hk => by rw [unfit_none.mpr r.fit] at hk; cases hk⟩
theorem Row.carryQ {z y : Str} {es : List Ed} (r : Row z y es) {C D : Addr} {H : Hp} {Q : VK} {E : XK} {p : Addr} {n : Int} (hn : n = ((cs z).length : Int)) (h : EdsAt H p es) (q : ∀ x H', Same H H' → CarryR C H' x (cs z).length (cs y).length (canon (tp 0 (tagsE (cs z).length es))) → Q (.ref x) H') : spCarryOf C D [.int n, .ref p] H Q E := by
  subst hn
  have lz := r.lz
  have len := r.len
  refine ⟨(cs z).length, p, es, rfl, h, r.sh.sized, by omega, short_sizes r.sh (by omega) (by omega), fun hf x H' s _ hc => q x H' s ?_, fun k hk => by rw [unfit_none.mpr r.fit] at hk; cases hk⟩
  rw [r.cy, appl_len r.fit]
  exact hc
/-- the other rows -/
def shortE (z y : Str) (es : List Ed) : List Ed := compE (cs y) (canon (tp 0 (tagsE (cs z).length es)))
theorem Row.asc {z y : Str} {es : List Ed} (r : Row z y es) : AscR (canon (tp 0 (tagsE (cs z).length es))) := canon_asc (tags_tagged r.fit).1
theorem Row.short {z y : Str} {es : List Ed} (r : Row z y es) : Row z y (shortE z y es) := by
  have f : fitsL (cs z).length (shortE z y es) := comp_fits (u := cs y) r.fit
  refine ⟨r.lz, r.ly, r.oz, f, ?_, comp_short r.ly r.oy, Nat.le_trans (comp_len r.fit) r.len, fun k => ?_⟩
  · have := comp_text r.fit
    unfold shortE
    rw [r.cy, this]
  · rw [appl_len (fitsL_take k f)]
    have h1 := size_lens ((shortE z y es).take k) (cs z).length
    have h2 := lens_take (shortE z y es) k
    have h3 : lensL (shortE z y es) ≤ (cs y).length := comp_lens r.asc
    have := r.lz
    have := r.ly
    show sizeL (cs z).length ((shortE z y es).take k) ≤ 8000
    omega
theorem Row.back {z y : Str} {es : List Ed} (r : Row z y es) (hc : ∀ e ∈ es, e.2.1.toNat ≤ 2000) : Row y z (backL (cs z) es) := by
  have bl := backL_len (cs z) es
  have w := back_way es.length r.fit (Nat.le_refl _)
  rw [← bl, List.take_length, ← r.cy] at w
  refine ⟨r.ly, r.lz, r.oy, w.1, ?_, back_short r.oz (fun e he => (r.sh e he).2) hc, by have := r.len; omega, fun k => ?_⟩
  · rw [w.2, bl, Nat.sub_self]
    rfl
  · have h1 := back_way (min k es.length) r.fit (Nat.min_le_right _ _)
    have e : (backL (cs z) es).take k = (backL (cs z) es).take (min k es.length) := by
      by_cases c : k ≤ es.length
      · rw [Nat.min_eq_left c]
      · rw [Nat.min_eq_right (by omega), List.take_of_length_le (by omega), List.take_of_length_le (by omega)]
    rw [e, r.cy, h1.2]
    exact r.lim _
theorem Row.both {z y : Str} {es : List Ed} (r : Row z y es) (hc : ∀ e ∈ es, e.2.1.toNat ≤ 2000) (hl : es.length ≤ 50) : Row z z (es ++ backL (cs z) es) := by
  have b := r.back hc
  have bl := backL_len (cs z) es
  refine ⟨r.lz, r.lz, r.oz, fitsL_app.mpr ⟨r.fit, ?_⟩, ?_, fun e he => ?_, by rw [List.length_append]; omega, fun k => ?_⟩
  · rw [← appl_len r.fit, ← r.cy]
    exact b.fit
  · rw [appl_app, ← r.cy, ← b.cy]
  · rcases List.mem_append.mp he with h | h
    · exact r.sh e h
    · exact b.sh e h
  · by_cases c : k ≤ es.length
    · rw [List.take_append_of_le_length c]
      exact r.lim k
    · rw [List.take_append, List.take_of_length_le (by omega), appl_app, ← r.cy]
      exact b.lim _
theorem short_cut {z y : Str} {es : List Ed} (r : Row z y es) : ∀ e ∈ shortE z y es, e.2.1.toNat ≤ 2000 := by
  have tg := (tags_tagged r.fit).1
  have key : ∀ (rs : List Rn) (o n : Nat), (∀ r ∈ rs, r.1 ≤ 2000) → ∀ g ∈ gapsL o n rs, g.2.1 ≤ 2000 := fun rs => by
    induction rs with
    | nil => exact fun _ _ _ g hg => absurd hg List.not_mem_nil
    | cons x rs ih =>
      intro o n h g hg
      have hg : g ∈ (if x.1 = o ∧ x.2.1 = n then [] else [(o, x.1, n, x.2.1)]) ++ gapsL (x.1 + x.2.2) (x.2.1 + x.2.2) rs := hg
      rcases List.mem_append.mp hg with h1 | h1
      · split at h1
        · exact absurd h1 List.not_mem_nil
        · rw [List.mem_singleton.mp h1]
          exact h x List.mem_cons_self
      · exact ih _ _ (fun y hy => h y (List.mem_cons_of_mem _ hy)) g h1
  intro e he
  obtain ⟨g, hg, rfl⟩ := List.mem_map.mp he
  show (g.2.1 : Int).toNat ≤ 2000
  rw [Int.toNat_natCast]
  refine key _ 0 0 (fun x hx => ?_) g (List.mem_reverse.mp hg)
  have pos := canon_pos (tp 0 (tagsE (cs z).length es)) x hx
  have m := run_in hx (i := 0) pos
  have := (tg.le m).1
  have := r.lz
  simp only at *
  omega

/-! ### texts -/
structure Whole (H : Hp) (z y : Str) (l s b : Addr) (es : List Ed) : Prop where
  row : Row z y es
  cut : ∀ e ∈ es, e.2.1.toNat ≤ 2000
  few : es.length ≤ 50
  lim2 : ∀ k, (appl (cs z) (es.take k)).length ≤ 2000
  E : EdsAt H l es
  S : EdsAt H s (shortE z y es)
  B : EdsAt H b (backL (cs z) es)
theorem Whole.same {H H' : Hp} {z y : Str} {l s b : Addr} {es : List Ed} (w : Whole H z y l s b es) (t : Same H H') : Whole H' z y l s b es := ⟨w.row, w.cut, w.few, w.lim2, w.E.mono t, w.S.mono t, w.B.mono t⟩
theorem EdsIn.copy {H : Hp} {p : Addr} {us : List V} {es : List Ed} (e : EdsIn H us es) (np : H p = none) : EdsAt (upd H p (.lst us)) p es := ⟨us, upd_same, e.mono (Tups.new np)⟩
theorem Row.one {z y : Str} {es : List Ed} (r : Row z y es) (lim : ∀ k, (appl (cs z) (es.take k)).length ≤ 2000) {i : Nat} {e : Ed} (he : es[i]? = some e) {a : Str} (ha : cs a = appl (cs z) (es.take i)) : Row a ⟨(appl (cs z) (es.take (i + 1))).toArray⟩ [e] := by
  have hf := fitsL_get r.fit he
  have l0 := lim i
  have l1 := lim (i + 1)
  rw [← appl_len (fitsL_take i r.fit), ← ha] at hf
  have e1 : appl (cs z) (es.take (i + 1)) = spl1 (cs a) e := by rw [take_more he, appl_snoc, ← ha]
  rw [← ha] at l0
  refine ⟨l0, l1, fun c hc => ?_, ⟨hf, True.intro⟩, e1, fun x hx => ?_, by show 1 ≤ 100; decide, fun k => ?_⟩
  · rw [ha] at hc
    exact appl_toks (fun x hx => (r.sh x (List.mem_of_mem_take hx)).2) r.oz c hc
  · rw [List.mem_singleton.mp hx]
    exact r.sh e (List.mem_of_getElem? he)
  · cases k with
    | zero =>
      show (cs a).length ≤ 8000
      omega
    | succ k =>
      rw [List.take_of_length_le (by show 1 ≤ k + 1; omega)]
      show (spl1 (cs a) e).length ≤ 8000
      rw [← e1]
      omega
def spTexts : Sp := fun vs H Q _ => ∃ (z y : Str) (l s b : Addr) (es : List Ed), vs = [.str z, .ref l, .str y, .ref s, .ref b] ∧ Whole H z y l s b es ∧ ∀ H', Same H H' → Q (.bl true) H'
theorem ok_texts_ok (T : Txt K mg) : FnOk P w K mg base CX0 92 T.a_law_texts_ok T.fd_law_texts_ok ["text", "edits", "after", "short", "back"] spTexts := by
  have G_fits : FnOk P w K mg base CX0 8 T.a_fits T.fd_fits ["length", "edits"] spFits := ok_fits T
  have G_apply : FnOk P w K mg base (L2.CX P w) 5 T.a_apply T.fd_apply ["text", "edits"] (spApply T.C_EditError) := ok_apply T
  have G_Rope_of : FnOk P w K mg base CX0 11 T.a_Rope_of T.fd_Rope_of ["text"] (spOf T.C_Rope) := ok_Rope_of T
  have G_Rope_edited : FnOk P w K mg base (L2.CX P w) 90 T.a_Rope_edited T.fd_Rope_edited ["self", "edits"] (spEdited T.C_Rope T.C_EditError) := ok_Rope_edited T
  have G_law_rope_is : FnOk P w K mg base CX0 2 T.a_law_rope_is T.fd_law_rope_is ["rope", "text"] (spRopeIs T.C_Rope) := ok_rope_is T
  refine T.F_law_texts_ok.ok sc_law_texts_ok (fun vs H Q E h => ?_) (fun cdv A outer s H vs Q E hr h => ?_)
  · obtain ⟨z, y, l, s, b, es, rfl, _⟩ := h
    rfl
  · have hr_fits : Room 8 _ := hr.mono (by decide)
    have hr_apply : Room 5 _ := hr.mono (by decide)
    have hr_Rope_of : Room 11 _ := hr.mono (by decide)
    have hr_Rope_edited : Room 90 _ := hr.mono (by decide)
    have hr_law_rope_is : Room 2 _ := hr.mono (by decide)
    obtain ⟨z, y, l, s, b, es, rfl, W, q⟩ := h
    refine ⟨_, (pss_cons (ps_for PassesOwn.never rfl (pi_list (pe_lst (pa_cons (pv 1) (pa_cons (pv 3) pa_nil)))) (pg_name (i := 5) sc_law_texts_ok.nd rfl (.inl rfl)) (pss_cons (ps_if (PW.pt (pw_or (pt_not (pt_val (pe_call G_fits hr_fits (by rfl) T.g_fits T.F_fits.kp T.b_fits .nil pass0 (pa_cons (pe_callB call_len_str (by rfl) T.m_len PySem.boot_len (pa_cons (pv 0) pa_nil)) (pa_cons (pe_callTy call_list_of (by rfl) T.m_list (by decide +kernel) (pa_cons (pv 5) pa_nil)) pa_nil))))) (pw_or1 (pt_cmpR op_ne (pe_call G_apply hr_apply (by rfl) T.g_apply T.F_apply.kp T.b_apply .nil (passX0 rfl rfl) (pa_cons (pv 0) (pa_cons (pe_callTy call_list_of (by rfl) T.m_list (by decide +kernel) (pa_cons (pv 5) pa_nil)) pa_nil))) (pv 2) (nomark _))))) (pss_one (ps_ret pe_bl)) pss_nil)
      (pss_one (ps_if (pt_not (pt_val (pe_call G_law_rope_is hr_law_rope_is (by rfl) T.g_law_rope_is T.F_law_rope_is.kp T.b_law_rope_is .nil pass0 (pa_cons (pe_meth (OwnOp.pe_stat (pe_glob (v := .ref T.C_Rope) (by rfl) T.G_Rope rfl) T.ST_Ropeof G_Rope_of hr_Rope_of T.b_Rope_of .nil pass0 (pa_cons (pv 0) pa_nil)) T.CL_Rope T.ME_Ropeedited G_Rope_edited hr_Rope_edited T.b_Rope_edited .nil (passX0 rfl rfl) (pa_cons (pe_callTy call_list_of (by rfl) T.m_list (by decide +kernel) (pa_cons (pv 5) pa_nil)) pa_nil)) (pa_cons (pv 2) pa_nil))))) (pss_one (ps_ret pe_bl)) pss_nil))))
      (pss_cons (ps_if (PW.pt (pw_or (pt_not (pt_val (pe_call G_fits hr_fits (by rfl) T.g_fits T.F_fits.kp T.b_fits .nil pass0 (pa_cons (pe_callB call_len_str (by rfl) T.m_len PySem.boot_len (pa_cons (pv 2) pa_nil)) (pa_cons (pe_callTy call_list_of (by rfl) T.m_list (by decide +kernel) (pa_cons (pv 4) pa_nil)) pa_nil))))) (pw_or (pt_cmpR op_ne (pe_call G_apply hr_apply (by rfl) T.g_apply T.F_apply.kp T.b_apply .nil (passX0 rfl rfl) (pa_cons (pv 2) (pa_cons (pe_callTy call_list_of (by rfl) T.m_list (by decide +kernel) (pa_cons (pv 4) pa_nil)) pa_nil))) (pv 0) (nomark _)) (pw_or1 (pt_cmpR op_ne (pe_call G_apply hr_apply (by rfl) T.g_apply T.F_apply.kp T.b_apply .nil (passX0 rfl rfl) (pa_cons (pv 0) (pa_cons (pe_op op_cat (pv 1) (pv 4)) pa_nil))) (pv 0) (nomark _)))))) (pss_one (ps_ret pe_bl)) pss_nil)
      (pss_cons (ps_set (i := 6) sc_law_texts_ok.nd rfl (.inl rfl) (OwnOp.pe_stat (pe_glob (v := .ref T.C_Rope) (by rfl) T.G_Rope rfl) T.ST_Ropeof G_Rope_of hr_Rope_of T.b_Rope_of .nil pass0 (pa_cons (pv 0) pa_nil)))
      (pss_cons (ps_for PassesOwn.never rfl (pi_list (pv 1)) (pg_name (i := 7) sc_law_texts_ok.nd rfl (.inl rfl)) (pss_one (ps_set (i := 6) sc_law_texts_ok.nd rfl (.inl rfl) (pe_meth (pv 6) T.CL_Rope T.ME_Ropeedited G_Rope_edited hr_Rope_edited T.b_Rope_edited .nil (passX0 rfl rfl) (pa_cons (pe_lst (pa_cons (pv 7) pa_nil)) pa_nil)))))
      (pss_cons (ps_if (PW.pt (pw_or (pt_not (pt_val (pe_call G_law_rope_is hr_law_rope_is (by rfl) T.g_law_rope_is T.F_law_rope_is.kp T.b_law_rope_is .nil pass0 (pa_cons (pv 6) (pa_cons (pv 2) pa_nil))))) (pw_or1 (pt_not (pt_val (pe_call G_law_rope_is hr_law_rope_is (by rfl) T.g_law_rope_is T.F_law_rope_is.kp T.b_law_rope_is .nil pass0 (pa_cons (pe_meth (pv 6) T.CL_Rope T.ME_Ropeedited G_Rope_edited hr_Rope_edited T.b_Rope_edited .nil (passX0 rfl rfl) (pa_cons (pe_callTy call_list_of (by rfl) T.m_list (by decide +kernel) (pa_cons (pv 4) pa_nil)) pa_nil)) (pa_cons (pv 0) pa_nil)))))))) (pss_one (ps_ret pe_bl)) pss_nil)
      (pss_one (ps_ret (pe_call G_law_rope_is hr_law_rope_is (by rfl) T.g_law_rope_is T.F_law_rope_is.kp T.b_law_rope_is .nil pass0 (pa_cons (pe_meth (OwnOp.pe_stat (pe_glob (v := .ref T.C_Rope) (by rfl) T.G_Rope rfl) T.ST_Ropeof G_Rope_of hr_Rope_of T.b_Rope_of .nil pass0 (pa_cons (pv 0) pa_nil)) T.CL_Rope T.ME_Ropeedited G_Rope_edited hr_Rope_edited T.b_Rope_edited .nil (passX0 rfl rfl) (pa_cons (pe_op op_cat (pv 1) (pv 4)) pa_nil)) (pa_cons (pv 0) pa_nil)))))))))), ?_⟩
    have zl := len_cs z
    have yl := len_cs y
    have lz := W.row.lz
    have ly := W.row.ly
    refine ⟨_, rfl, _, rfl, by show 2 ≤ sizeLine; decide, fun x nx => ⟨x, rfl, ⟨_, SqL.of upd_same⟩, ?_⟩⟩
    have s0 : Same H (upd H x (.lst [.ref l, .ref s])) := same_upd nx
    refine for_list (K := K) (a := x) (xs := [.ref l, .ref s]) (fun i σ H' => Same (upd H x (.lst [.ref l, .ref s])) H' ∧ ∃ (y5 : Option V), σ = [some (.str z), some (.ref l), some (.str y), some (.ref s), some (.ref b), y5, none, none])
      ⟨Same.refl _, none, rfl⟩ (fun i σ H' _ ⟨e, _⟩ => SqL.of (e _ _ upd_same)) ?_ ?_
    · rintro i v σ H1 hv ⟨s1, y5, rfl⟩
      have W1 := W.same (s0.trans s1)
      obtain ⟨p, fs, rfl, rw, hp⟩ : ∃ p fs, v = .ref p ∧ Row z y fs ∧ EdsAt H1 p fs := by
        have hm := List.mem_of_getElem? hv
        rcases List.mem_cons.mp hm with h | h
        · exact ⟨l, es, h, W1.row, W1.E⟩
        · exact ⟨s, _, List.mem_singleton.mp h, W1.row.short, W1.S⟩
      obtain ⟨us, hus, hue⟩ := id hp
      refine ⟨_, rfl, z, rfl, szM (by omega), _, rfl, p, us, rfl, .inl (SqL.of hus), fun p1 np1 => ?_⟩
      dsimp only [tNil]
      refine rw.fitsQ (by omega) (hue.copy np1) fun H2 s2 => ⟨true, rfl, iteF ?_⟩
      have t2 := (same_upd np1).trans s2
      refine ⟨_, rfl, _, rfl, p, us, rfl, .inl (SqL.of (t2 _ _ hus)), fun p2 np2 => ?_⟩
      have hue2 := hue.mono (same_tups t2)
      dsimp only [tNil]
      refine rw.applyQ (hue2.copy np2) fun H3 s3 => ⟨_, rfl, rfl, _, rfl, itF (by rw [decide_eq_true rfl]; rfl) ?_⟩
      have t3 := t2.trans ((same_upd np2).trans s3)
      refine ⟨rfl, _, rfl, z, rfl, lz, fun t H4 s4 ht ot tt _ _ => ?_⟩
      have t4 := t3.trans s4
      obtain ⟨dt, kt⟩ := ht.it
      refine ⟨_, _, _, rfl, kt, r5e _ _ _ _ _, _, rfl, p, us, rfl, .inl (SqL.of (t4 _ _ hus)), fun p3 np3 => ?_⟩
      have hue4 := hue.mono (same_tups t4)
      have s5 := same_upd (o := .lst us) np3
      dsimp only [tNil]
      refine rw.editQ (RopeFor.same s5 ⟨ht, ot, tt⟩) (hue4.copy np3) fun u H5 s6 hu => ⟨_, rfl, u, y, rfl, hu, by omega, fun H6 s7 => ⟨true, rfl, iteF ?_⟩⟩
      exact ⟨s1.trans (((t4.trans s5).trans s6).trans s7), _, rfl⟩
    · rintro σ H1 ⟨s1, y5, rfl⟩
      have W1 := W.same (s0.trans s1)
      have rb := W.row.back W.cut
      have rab := W.row.both W.cut W.few
      obtain ⟨us, hus, hue⟩ := id W1.B
      obtain ⟨vs, hvs, hve⟩ := id W1.E
      have lus := paired_len hue
      have lvs := paired_len hve
      have bl := backL_len (cs z) es
      have few := W.few
      refine ⟨_, rfl, y, rfl, szM (by omega), _, rfl, b, us, rfl, .inl (SqL.of hus), fun p1 np1 => ?_⟩
      dsimp only [tNil]
      refine rb.fitsQ (by omega) (hue.copy np1) fun H2 s2 => ⟨true, rfl, iteF ?_⟩
      have t2 := (same_upd np1).trans s2
      refine ⟨_, rfl, _, rfl, b, us, rfl, .inl (SqL.of (t2 _ _ hus)), fun p2 np2 => ?_⟩
      have hue2 := hue.mono (same_tups t2)
      dsimp only [tNil]
      refine rb.applyQ (hue2.copy np2) fun H3 s3 => ⟨_, rfl, rfl, _, rfl, itF (by rw [decide_eq_true rfl]; rfl) ?_⟩
      have t3 := t2.trans ((same_upd np2).trans s3)
      refine ⟨_, rfl, _, rfl, _, rfl, l, b, _, _, rfl, rfl, t3 _ _ hvs, t3 _ _ hus, szM (by omega), fun p3 np3 => ?_⟩
      have s4 := same_upd (o := .lst (vs ++ us)) np3
      have cat3 : EdsAt (upd H3 p3 (.lst (vs ++ us))) p3 (es ++ backL (cs z) es) := ⟨_, upd_same, paired_app (hve.mono (same_tups (t3.trans s4))) (hue.mono (same_tups (t3.trans s4)))⟩
      dsimp only [tNil]
      refine rab.applyQ cat3 fun H4 s5 => ⟨_, rfl, rfl, _, rfl, itF (by rw [decide_eq_true rfl]; rfl) ?_⟩
      have t4 := (t3.trans s4).trans s5
      refine ⟨rfl, _, rfl, z, rfl, lz, fun t H5 s6 ht ot tt _ _ => ?_⟩
      have t5 := t4.trans s6
      refine ⟨_, rfl, l, rfl, ⟨_, SqL.of (t5 _ _ hvs)⟩, ?_⟩
      refine for_list (K := K) (a := l) (xs := vs) (fun i σ H' => Same H1 H' ∧ ∃ (u : RT) (a : Str) (y7 : Option V), σ = [some (.str z), some (.ref l), some (.str y), some (.ref s), some (.ref b), y5, some (.ref u.at), y7] ∧ RopeFor T.C_Rope H' u a ∧ cs a = appl (cs z) (es.take i))
        ⟨t5, t, z, none, rfl, ⟨ht, ot, tt⟩, rfl⟩ (fun i σ H' _ ⟨e, _⟩ => SqL.of (e _ _ hvs)) ?_ ?_
      · rintro i v σ H6 hv ⟨t6, u, a, y7, rfl, hu, ea⟩
        obtain ⟨e, he⟩ : ∃ e, es[i]? = some e := ⟨_, List.getElem?_eq_getElem (by rw [← lvs]; exact (List.getElem?_eq_some_iff.mp hv).1)⟩
        obtain ⟨x', hx', g, rfl, hg0⟩ := paired_get hve he
        rw [hv] at hx'
        obtain rfl := Option.some.inj hx'
        obtain ⟨du, ku⟩ := hu.1.it
        have ro := W.row.one W.lim2 he ea
        refine ⟨_, rfl, _, _, _, rfl, ku, r5e _ _ _ _ _, _, rfl, by show 1 ≤ sizeLine; decide, fun p4 np4 => ?_⟩
        have s7 := same_upd (o := .lst [.ref g]) np4
        have h1 : EdsAt (upd H6 p4 (.lst [.ref g])) p4 [e] := ⟨_, upd_same, .cons ⟨g, rfl, s7 _ _ (t6 _ _ hg0)⟩ .nil⟩
        dsimp only [tNil]
        refine ro.editQ (RopeFor.same s7 hu) h1 fun v H7 s8 hv2 => ?_
        exact ⟨(t6.trans s7).trans s8, v, _, _, rfl, hv2, rfl⟩
      · rintro σ H6 ⟨t6, u, a, y7, rfl, hu, ea⟩
        have ay : a = y := cs_inj (by rw [ea, lvs, List.take_length, W.row.cy])
        subst ay
        obtain ⟨du, ku⟩ := hu.1.it
        refine ⟨_, rfl, _, rfl, u, a, rfl, hu, by omega, fun H7 s7 => ⟨true, rfl, iteF ?_⟩⟩
        have t7 := t6.trans s7
        refine ⟨_, rfl, _, _, _, rfl, s7 _ _ ku, r5e _ _ _ _ _, _, rfl, b, us, rfl, .inl (SqL.of (t7 _ _ hus)), fun p4 np4 => ?_⟩
        have s8 := same_upd (o := .lst us) np4
        dsimp only [tNil]
        refine rb.editQ (RopeFor.same (s7.trans s8) hu) ((hue.mono (same_tups t7)).copy np4) fun v H8 s9 hv2 => ⟨_, rfl, v, z, rfl, hv2, by omega, fun H9 s10 => ⟨true, rfl, iteF ?_⟩⟩
        have t9 := ((t7.trans s8).trans s9).trans s10
        refine ⟨rfl, _, rfl, z, rfl, lz, fun t2 H10 s11 ht2 ot2 tt2 _ _ => ?_⟩
        have t10 := t9.trans s11
        obtain ⟨dt2, kt2⟩ := ht2.it
        refine ⟨_, _, _, rfl, kt2, r5e _ _ _ _ _, _, rfl, _, rfl, l, b, _, _, rfl, rfl, t10 _ _ hvs, t10 _ _ hus, szM (by omega), fun p5 np5 => ?_⟩
        have s12 := same_upd (o := .lst (vs ++ us)) np5
        have cat5 : EdsAt (upd H10 p5 (.lst (vs ++ us))) p5 (es ++ backL (cs z) es) := ⟨_, upd_same, paired_app (hve.mono (same_tups (t10.trans s12))) (hue.mono (same_tups (t10.trans s12)))⟩
        dsimp only [tNil]
        refine rab.editQ (RopeFor.same s12 ⟨ht2, ot2, tt2⟩) cat5 fun v2 H11 s13 hv3 => ⟨_, rfl, v2, z, rfl, hv3, by omega, fun H12 s14 => q H12 ?_⟩
        exact (s0.trans s1).trans (((t10.trans s12).trans s13).trans s14)

/-! ### carries -/
def spCarries : Sp := fun vs H Q _ => ∃ (z y : Str) (l s b tg : Addr) (es : List Ed), vs = [.str z, .ref l, .str y, .ref tg, .ref s, .ref b] ∧ Whole H z y l s b es ∧ H tg = some (.lst ((tagsE (cs z).length es).map V.int)) ∧ ∀ H', Same H H' → Q (.bl true) H'
theorem ok_carries_ok (T : Txt K mg) : FnOk P w K mg base CX0 6 T.a_law_carries_ok T.fd_law_carries_ok ["text", "edits", "after", "tags", "short", "back"] spCarries := by
  have G_carry_of : FnOk P w K mg base (L2.CX P w) 5 T.a_carry_of T.fd_carry_of ["length", "edits"] (spCarryOf T.C_Carry T.C_EditError) := ok_carry_of T
  have G_law_runs : FnOk P w K mg base CX0 1 T.a_law_runs T.fd_law_runs ["tags"] spRuns := ok_law_runs T
  have G_law_ahead : FnOk P w K mg base CX0 1 T.a_law_ahead T.fd_law_ahead ["tags", "size"] spAhead := ok_ahead T
  have G_law_carry_ok : FnOk P w K mg base CX0 4 T.a_law_carry_ok T.fd_law_carry_ok ["told", "old", "new", "runs"] (spCOk T.C_Carry) := ok_carry_ok T
  refine T.F_law_carries_ok.ok sc_law_carries_ok (fun vs H Q E h => ?_) (fun cdv A outer s H vs Q E hr h => ?_)
  · obtain ⟨z, y, l, s, b, tg, es, rfl, _⟩ := h
    rfl
  · have hr_carry_of : Room 5 _ := hr
    have hr_law_runs : Room 1 _ := hr.mono (by decide)
    have hr_law_ahead : Room 1 _ := hr.mono (by decide)
    have hr_law_carry_ok : Room 4 _ := hr.mono (by decide)
    obtain ⟨z, y, l, s, b, tg, es, rfl, W, htg, q⟩ := h
    refine ⟨_, (pss_cons (ps_set (i := 6) sc_law_carries_ok.nd rfl (.inl rfl) (pe_callB call_len_str (by rfl) T.m_len PySem.boot_len (pa_cons (pv 0) pa_nil)))
      (pss_cons (ps_set (i := 7) sc_law_carries_ok.nd rfl (.inr rfl) (pe_call G_law_ahead hr_law_ahead (by rfl) T.g_law_ahead T.F_law_ahead.kp T.b_law_ahead .nil pass0 (pa_cons (pv 3) (pa_cons (pv 6) pa_nil))))
      (pss_cons (ps_set (i := 8) sc_law_carries_ok.nd rfl (.inl rfl) (pe_call G_law_runs hr_law_runs (by rfl) T.g_law_runs T.F_law_runs.kp T.b_law_runs .nil pass0 (pa_cons (pv 3) pa_nil)))
      (pss_cons (ps_for PassesOwn.never rfl (pi_list (pe_lst (pa_cons (pv 1) (pa_cons (pv 4) pa_nil)))) (pg_name (i := 9) sc_law_carries_ok.nd rfl (.inl rfl)) (pss_one (ps_if (pt_not (pt_val (pe_call G_law_carry_ok hr_law_carry_ok (by rfl) T.g_law_carry_ok T.F_law_carry_ok.kp T.b_law_carry_ok .nil pass0 (pa_cons (pe_call G_carry_of hr_carry_of (by rfl) T.g_carry_of T.F_carry_of.kp T.b_carry_of .nil (passX0 rfl rfl) (pa_cons (pv 6) (pa_cons (pe_callTy call_list_of (by rfl) T.m_list (by decide +kernel) (pa_cons (pv 9) pa_nil)) pa_nil))) (pa_cons (pv 6) (pa_cons (pe_callB call_len_str (by rfl) T.m_len PySem.boot_len (pa_cons (pv 2) pa_nil)) (pa_cons (pv 8) pa_nil))))))) (pss_one (ps_ret pe_bl)) pss_nil)))
      (pss_cons (ps_if (pt_not (pt_val (pe_call G_law_carry_ok hr_law_carry_ok (by rfl) T.g_law_carry_ok T.F_law_carry_ok.kp T.b_law_carry_ok .nil pass0 (pa_cons (pe_call G_carry_of hr_carry_of (by rfl) T.g_carry_of T.F_carry_of.kp T.b_carry_of .nil (passX0 rfl rfl) (pa_cons (pe_callB call_len_str (by rfl) T.m_len PySem.boot_len (pa_cons (pv 2) pa_nil)) (pa_cons (pe_callTy call_list_of (by rfl) T.m_list (by decide +kernel) (pa_cons (pv 5) pa_nil)) pa_nil))) (pa_cons (pe_callB call_len_str (by rfl) T.m_len PySem.boot_len (pa_cons (pv 2) pa_nil)) (pa_cons (pv 6) (pa_cons (pe_call G_law_runs hr_law_runs (by rfl) T.g_law_runs T.F_law_runs.kp T.b_law_runs .nil pass0 (pa_cons (pv 7) pa_nil)) pa_nil))))))) (pss_one (ps_ret pe_bl)) pss_nil)
      (pss_cons (ps_set (i := 10) sc_law_carries_ok.nd rfl (.inl rfl) (pe_call G_law_runs hr_law_runs (by rfl) T.g_law_runs T.F_law_runs.kp T.b_law_runs .nil pass0 (pa_cons (pe_lc (own := [("k", 11)]) (g := gName 11) (by rfl) sc_law_carries_ok.nd (pi_range1 (by rfl) T.m_range (pa_cons (pe_op op_add (pv 6) pe_int) pa_nil)) (blkOk_by (own := [("k", 11)]) (N := ["text", "edits", "after", "tags", "short", "back", "size", "ahead", "runs", "row", "kept", "k"]) (sc := defScope s_law_carries_ok) (by decide +kernel)) (fun _ _ _ _ _ => pg_name (i := 11) sc_law_carries_ok.nd rfl (Or.inl rfl)) (fun _ _ _ _ _ => pts_nil) (fun _ _ _ _ _ => (pe_ifExp (pt_cmpR op_ge (pe_ix (ix_listK (K := K) rfl) (pv 7) (pv 11) (fun _ _ => rfl)) pe_int (nomark _)) (pv 11) (pe_un un_neg pe_int)))) pa_nil)))
      (pss_one (ps_ret (pe_call G_law_carry_ok hr_law_carry_ok (by rfl) T.g_law_carry_ok T.F_law_carry_ok.kp T.b_law_carry_ok .nil pass0 (pa_cons (pe_call G_carry_of hr_carry_of (by rfl) T.g_carry_of T.F_carry_of.kp T.b_carry_of .nil (passX0 rfl rfl) (pa_cons (pv 6) (pa_cons (pe_op op_cat (pv 1) (pv 5)) pa_nil))) (pa_cons (pv 6) (pa_cons (pv 6) (pa_cons (pv 10) pa_nil))))))))))))), ?_⟩
    have zl := len_cs z
    have yl := len_cs y
    have lz := W.row.lz
    have ly := W.row.ly
    have tgd := tags_tagged W.row.fit
    have few := W.few
    have tl : (tagsE (cs z).length es).length = (cs y).length + 1 := by rw [tgd.2, W.row.cy, appl_len W.row.fit]
    refine ⟨_, rfl, z, rfl, szM (by omega), ?_⟩
    refine ⟨_, rfl, _, rfl, tg, tagsE (cs z).length es, (cs z).length, by rw [zl]; rfl, htg, tgd.1, by omega, by omega, fun ah H1 al s1 nah hah hal => ?_⟩
    have htg1 := s1 _ _ htg
    refine ⟨_, rfl, tg, tagsE (cs z).length es, rfl, htg1, by omega, fun rn H2 s2 nrn hrn => ?_⟩
    have t2 := s1.trans s2
    refine ⟨_, rfl, _, rfl, by show 2 ≤ sizeLine; decide, fun x nx => ⟨x, rfl, ⟨_, SqL.of upd_same⟩, ?_⟩⟩
    have s3 : Same H2 (upd H2 x (.lst [.ref l, .ref s])) := same_upd nx
    have lrs := canon_len (tagsE (cs z).length es)
    refine for_list (K := K) (a := x) (xs := [.ref l, .ref s]) (fun i σ H' => Same (upd H2 x (.lst [.ref l, .ref s])) H' ∧ ∃ (y9 : Option V), σ = [some (.str z), some (.ref l), some (.str y), some (.ref tg), some (.ref s), some (.ref b), some (.int (z.length : Int)), some (.ref ah), some (.ref rn), y9, none, none])
      ⟨Same.refl _, none, rfl⟩ (fun i σ H' _ ⟨e, _⟩ => SqL.of (e _ _ upd_same)) ?_ ?_
    · rintro i v σ H3 hv ⟨s4, y9, rfl⟩
      have t3 := (t2.trans s3).trans s4
      have W3 := W.same t3
      obtain ⟨p, fs, rfl, rw, hp, eT⟩ : ∃ p fs, v = .ref p ∧ Row z y fs ∧ EdsAt H3 p fs ∧ tagsE (cs z).length fs = tagsE (cs z).length es := by
        have hm := List.mem_of_getElem? hv
        rcases List.mem_cons.mp hm with h | h
        · exact ⟨l, es, h, W3.row, W3.E, rfl⟩
        · refine ⟨s, _, List.mem_singleton.mp h, W3.row.short, W3.S, ?_⟩
          unfold shortE
          rw [W.row.cy]
          exact comp_tags W.row.fit
      obtain ⟨us, hus, hue⟩ := id hp
      refine ⟨_, rfl, _, rfl, p, us, rfl, .inl (SqL.of hus), fun p1 np1 => ?_⟩
      dsimp only [tNil]
      refine rw.carryQ (by omega) (hue.copy np1) fun c H4 s5 hc => ?_
      rw [eT] at hc
      have t4 := (same_upd np1).trans s5
      refine ⟨_, rfl, _, rfl, y, rfl, szM (by omega), _, rfl, c, rn, (cs z).length, (cs y).length, _, by rw [← zl, ← yl]; rfl, hc, hrn.mono (same_tups ((s3.trans s4).trans t4)), by omega, fun H5 s6 => ⟨true, rfl, iteF ?_⟩⟩
      exact ⟨s4.trans (t4.trans s6), _, rfl⟩
    · rintro σ H3 ⟨s4, y9, rfl⟩
      have t3 := (t2.trans s3).trans s4
      have W3 := W.same t3
      have rb := W.row.back W.cut
      have rab := W.row.both W.cut W.few
      have eB : tagsE (cs y).length (backL (cs z) es) = al := by rw [W.row.cy]; exact back_all W.row.fit hal
      have eK : tagsE (cs z).length (es ++ backL (cs z) es) = keptL al al.length := both_kept W.row.fit hal
      have lal : al.length = (cs z).length + 1 := hal.1
      obtain ⟨us, hus, hue⟩ := id W3.B
      obtain ⟨vs, hvs, hve⟩ := id W3.E
      have lus := paired_len hue
      have lvs := paired_len hve
      have bl := backL_len (cs z) es
      have hah3 := (s2.trans (s3.trans s4)) _ _ hah
      refine ⟨_, rfl, y, rfl, szM (by omega), _, rfl, b, us, rfl, .inl (SqL.of hus), fun p1 np1 => ?_⟩
      dsimp only [tNil]
      refine rb.carryQ (by omega) (hue.copy np1) fun c H4 s5 hc => ?_
      rw [eB] at hc
      have t4 := (same_upd np1).trans s5
      have lca := canon_len al
      refine ⟨_, rfl, y, rfl, szM (by omega), _, rfl, _, rfl, ah, al, rfl, t4 _ _ hah3, by omega, fun r2 H5 s6 nr2 hr2 => ?_⟩
      refine ⟨c, r2, (cs y).length, (cs z).length, _, by rw [← zl, ← yl]; rfl, hc.same s6, hr2, by omega, fun H6 s7 => ⟨true, rfl, iteF ?_⟩⟩
      have t6 := (t4.trans s6).trans s7
      have hah6 := t6 _ _ hah3
      refine ⟨_, rfl, _, _, rfl, rfl, _, rfl, by omega, by omega, fun D nD => ?_⟩
      have en : ((z.length : Int) + 1).toNat = (cs z).length + 1 := by omega
      refine lc_range (lo := 0) (n := ((z.length : Int) + 1).toNat) (fun i H' => Same H6 H' ∧ H' D = some (.lst ((keptL al i).map V.int))) ⟨same_upd nD, upd_same⟩ ?_ ?_
      · rintro i H' hi ⟨sm, hD⟩
        have ei : (0 : Int) + (i : Int) = (i : Int) := by omega
        rw [ei]
        obtain ⟨xa, hxa⟩ : ∃ x, al[i]? = some x := ⟨_, List.getElem?_eq_getElem (by omega)⟩
        have bd : ((keptL al i).map V.int).length < 4000002 := by rw [List.length_map, keptL_len]; omega
        have la' := sm _ _ hah6
        refine ⟨rfl, _, rfl, _, rfl, ah, _, _, _, rfl, rfl, SqL.of la', atI_nat (by rw [List.getElem?_map, hxa]; rfl), _, 0, rfl, rfl, _, rfl, ite2 (fun c => ?_) (fun c => ?_)⟩
        · have c0 : 0 ≤ xa := of_decide_eq_true c
          refine ⟨_, rfl, _, hD, Nat.lt_of_lt_of_le bd (by decide), same_mut sm nD, ?_⟩
          rw [upd_same, keptL_succ hxa, if_pos c0, List.map_append]
          rfl
        · have c0 : ¬ 0 ≤ xa := fun z => c (decide_eq_true z)
          refine ⟨1, rfl, _, hD, Nat.lt_of_lt_of_le bd (by decide), same_mut sm nD, ?_⟩
          rw [upd_same, keptL_succ hxa, if_neg c0, List.map_append]
          rfl
      · rintro H7 ⟨s8, hD⟩
        rw [en, ← lal] at hD
        have kl := keptL_len al al.length
        have lck := canon_len (keptL al al.length)
        refine ⟨D, keptL al al.length, rfl, hD, by omega, fun r3 H8 s9 nr3 hr3 => ?_⟩
        have t8 := (t6.trans s8).trans s9
        refine ⟨_, rfl, _, rfl, _, rfl, l, b, _, _, rfl, rfl, t8 _ _ hvs, t8 _ _ hus, szM (by omega), fun p5 np5 => ?_⟩
        have s12 := same_upd (o := .lst (vs ++ us)) np5
        have cat5 : EdsAt (upd H8 p5 (.lst (vs ++ us))) p5 (es ++ backL (cs z) es) := ⟨_, upd_same, paired_app (hve.mono (same_tups (t8.trans s12))) (hue.mono (same_tups (t8.trans s12)))⟩
        dsimp only [tNil]
        refine rab.carryQ (by omega) cat5 fun c2 H9 s13 hc2 => ?_
        rw [eK] at hc2
        refine ⟨_, rfl, _, rfl, _, rfl, c2, r3, (cs z).length, (cs z).length, _, by rw [← zl]; rfl, hc2, hr3.mono (same_tups (s12.trans s13)), by omega, fun H10 s14 => q H10 ?_⟩
        exact t3.trans (((t8.trans s12).trans s13).trans s14)

/-! ### characters -/
def cntR (n : Nat) (r : Rn) : Nat := min r.2.2 (n - r.1)
theorem cnt_sum {n m : Nat} {rs : List Rn} (R : RunsOf n m rs) (pos : PosR rs) : (rs.map (cntR n)).sum + 1 = (rs.map fun r => r.2.2).sum := by
  obtain ⟨rs', r, rfl, h1, h2⟩ := R.lst
  have pr := pos r (List.mem_append_right _ List.mem_cons_self)
  have ho := R.olds r (List.mem_append_right _ List.mem_cons_self)
  have hr : cntR n r + 1 = r.2.2 := by
    unfold cntR
    omega
  have asc := R.asc
  have key : ∀ l : List Rn, (∀ x ∈ l, x.1 + x.2.2 ≤ n) → l.map (cntR n) = l.map fun r => r.2.2 := fun l h => List.map_congr_left fun x hx => by
    have := h x hx
    unfold cntR
    omega
  rw [List.map_append, List.map_append, List.sum_append, List.sum_append, key rs' fun x hx => ?_]
  · show (rs'.map fun r => r.2.2).sum + (cntR n r + 0) + 1 = _ + (r.2.2 + 0)
    omega
  · have := ((List.pairwise_append.mp asc).2.2 x hx r List.mem_cons_self).1
    omega
theorem run_fits {n m : Nat} {t : List Int} (tg : Tagged n t) (tl : t.length = m + 1) {r : Rn} (hr : r ∈ canon (tp 0 t)) : r.1 + cntR n r ≤ n ∧ r.2.1 + cntR n r ≤ m := by
  have R := runs_of tg tl
  have ho := R.olds r hr
  have hn := R.news r hr
  have e1 : r.1 + cntR n r ≤ n := by
    unfold cntR
    omega
  refine ⟨e1, ?_⟩
  by_cases c0 : cntR n r = 0
  · omega
  have lt : cntR n r - 1 < r.2.2 := by
    unfold cntR at c0 ⊢
    omega
  have h1 := run_in hr lt
  have h2 := (tg.le h1).2
  have h3 := mem_tp0.mp h1
  have h4 := mem_tp0.mp tg.mem_last
  have h3 : t[r.2.1 + (cntR n r - 1)]? = some ((r.1 + (cntR n r - 1) : Nat) : Int) := h3
  have h4 : t[t.length - 1]? = some (n : Int) := h4
  by_cases c1 : r.2.1 + (cntR n r - 1) = t.length - 1
  · rw [c1, h4] at h3
    have := Option.some.inj h3
    omega
  · have h2 : r.2.1 + (cntR n r - 1) < t.length := h2
    omega
theorem run_text {x u : List Nat} {t : List Int} (hk : Kept x u t) {r : Rn} (hr : r ∈ canon (tp 0 t)) {n : Nat} : (u.drop r.2.1).take (cntR n r) = (x.drop r.1).take (cntR n r) := by
  refine List.ext_getElem? fun i => ?_
  rw [List.getElem?_take, List.getElem?_take]
  by_cases c : i < cntR n r
  · rw [if_pos c, if_pos c, List.getElem?_drop, List.getElem?_drop]
    have lt : i < r.2.2 := by
      unfold cntR at c
      omega
    exact hk _ _ (mem_tp0.mp (run_in hr lt))
  · rw [if_neg c, if_neg c]
theorem cut_as (z : Str) (a c : Nat) : cutS z (some (a : Int)) (some ((a : Int) + (c : Int))) = (⟨(((cs z).drop a).take c).toArray⟩ : Str) := by
  rw [show (a : Int) + (c : Int) = ((a + c : Nat) : Int) by omega]
  refine mkS_eq ?_
  rw [cut_mid, List.drop_take, Nat.add_sub_cancel_left]
def spChars : Sp := fun vs H Q _ => ∃ (z y : Str) (l s b : Addr) (es : List Ed), vs = [.str z, .ref l, .str y] ∧ Whole H z y l s b es ∧ ∀ H', Same H H' → Q (.bl true) H'
theorem ok_characters_ok (T : Txt K mg) : FnOk P w K mg base CX0 92 T.a_law_characters_ok T.fd_law_characters_ok ["text", "edits", "after"] spChars := by
  have G_carry_of : FnOk P w K mg base (L2.CX P w) 5 T.a_carry_of T.fd_carry_of ["length", "edits"] (spCarryOf T.C_Carry T.C_EditError) := ok_carry_of T
  have G_law_tags : FnOk P w K mg base CX0 1 T.a_law_tags T.fd_law_tags ["size", "edits"] spTags := ok_tags T
  have G_Rope_of : FnOk P w K mg base CX0 11 T.a_Rope_of T.fd_Rope_of ["text"] (spOf T.C_Rope) := ok_Rope_of T
  have G_Rope_cut : FnOk P w K mg base CX0 89 T.a_Rope_cut T.fd_Rope_cut ["self", "start", "end"] (spCut T.C_Rope 28) := ok_Rope_cut T 28
  have G_Rope_edited : FnOk P w K mg base (L2.CX P w) 90 T.a_Rope_edited T.fd_Rope_edited ["self", "edits"] (spEdited T.C_Rope T.C_EditError) := ok_Rope_edited T
  have G_law_rope_is : FnOk P w K mg base CX0 2 T.a_law_rope_is T.fd_law_rope_is ["rope", "text"] (spRopeIs T.C_Rope) := ok_rope_is T
  refine T.F_law_characters_ok.ok sc_law_characters_ok (fun vs H Q E h => ?_) (fun cdv A outer s H vs Q E hr h => ?_)
  · obtain ⟨z, y, l, s, b, es, rfl, _⟩ := h
    rfl
  · have hr_carry_of : Room 5 _ := hr.mono (by decide)
    have hr_Carry___iter__ : Room 1 _ := hr.mono (by decide)
    have hr_law_tags : Room 1 _ := hr.mono (by decide)
    have hr_Rope_of : Room 11 _ := hr.mono (by decide)
    have hr_Rope_cut : Room 89 _ := hr.mono (by decide)
    have hr_Rope_edited : Room 90 _ := hr.mono (by decide)
    have hr_law_rope_is : Room 2 _ := hr.mono (by decide)
    obtain ⟨z, y, l, s, b, es, rfl, W, q⟩ := h
    refine ⟨_, (pss_cons (ps_set (i := 3) sc_law_characters_ok.nd rfl (.inl rfl) (OwnOp.pe_stat (pe_glob (v := .ref T.C_Rope) (by rfl) T.G_Rope rfl) T.ST_Ropeof G_Rope_of hr_Rope_of T.b_Rope_of .nil pass0 (pa_cons (pv 0) pa_nil)))
      (pss_cons (ps_set (i := 4) sc_law_characters_ok.nd rfl (.inl rfl) (pe_meth (pv 3) T.CL_Rope T.ME_Ropeedited G_Rope_edited hr_Rope_edited T.b_Rope_edited .nil (passX0 rfl rfl) (pa_cons (pe_callTy call_list_of (by rfl) T.m_list (by decide +kernel) (pa_cons (pv 1) pa_nil)) pa_nil)))
      (pss_cons (ps_set (i := 5) sc_law_characters_ok.nd rfl (.inl rfl) pe_int)
      (pss_cons (ps_for PassesOwn.never rfl (OwnOp.pi_own (pe_call G_carry_of hr_carry_of (by rfl) T.g_carry_of T.F_carry_of.kp T.b_carry_of .nil (passX0 rfl rfl) (pa_cons (pe_callB call_len_str (by rfl) T.m_len PySem.boot_len (pa_cons (pv 0) pa_nil)) (pa_cons (pe_callTy call_list_of (by rfl) T.m_list (by decide +kernel) (pa_cons (pv 1) pa_nil)) pa_nil))) hr_Carry___iter__ T.IT_Carry T.F_Carry___iter__ sc_Carry___iter__ (it_Carry___iter__ T) T.b_Carry___iter__) (pg_name (i := 6) sc_law_characters_ok.nd rfl (.inl rfl)) (pss_cons (ps_set (i := 7) sc_law_characters_ok.nd rfl (.inl rfl) (pe_callB (call_min2 rfl) (by rfl) T.m_min (by decide +kernel) (pa_cons (pe_ix ix_tup (pv 6) pe_int (fun _ _ => rfl)) (pa_cons (pe_op op_sub (pe_callB call_len_str (by rfl) T.m_len PySem.boot_len (pa_cons (pv 0) pa_nil)) (pe_ix ix_tup (pv 6) pe_int (fun _ _ => rfl))) pa_nil))))
      (pss_cons (ps_set (i := 8) sc_law_characters_ok.nd rfl (.inl rfl) (pe_slice sl_str (pv 0) (po_some (pe_ix ix_tup (pv 6) pe_int (fun _ _ => rfl))) (po_some (pe_op op_add (pe_ix ix_tup (pv 6) pe_int (fun _ _ => rfl)) (pv 7)))))
      (pss_cons (ps_if (pt_cmpR op_ne (pe_slice sl_str (pv 2) (po_some (pe_ix ix_tup (pv 6) pe_int (fun _ _ => rfl))) (po_some (pe_op op_add (pe_ix ix_tup (pv 6) pe_int (fun _ _ => rfl)) (pv 7)))) (pv 8) (nomark _)) (pss_one (ps_ret pe_bl)) pss_nil)
      (pss_cons (ps_if (pt_not (pt_val (pe_call G_law_rope_is hr_law_rope_is (by rfl) T.g_law_rope_is T.F_law_rope_is.kp T.b_law_rope_is .nil pass0 (pa_cons (pe_meth (pv 3) T.CL_Rope T.ME_Ropecut G_Rope_cut hr_Rope_cut T.b_Rope_cut .nil pass0 (pa_cons (pe_ix ix_tup (pv 6) pe_int (fun _ _ => rfl)) (pa_cons (pe_op op_add (pe_ix ix_tup (pv 6) pe_int (fun _ _ => rfl)) (pv 7)) pa_nil))) (pa_cons (pv 8) pa_nil))))) (pss_one (ps_ret pe_bl)) pss_nil)
      (pss_cons (ps_if (pt_not (pt_val (pe_call G_law_rope_is hr_law_rope_is (by rfl) T.g_law_rope_is T.F_law_rope_is.kp T.b_law_rope_is .nil pass0 (pa_cons (pe_meth (pv 4) T.CL_Rope T.ME_Ropecut G_Rope_cut hr_Rope_cut T.b_Rope_cut .nil pass0 (pa_cons (pe_ix ix_tup (pv 6) pe_int (fun _ _ => rfl)) (pa_cons (pe_op op_add (pe_ix ix_tup (pv 6) pe_int (fun _ _ => rfl)) (pv 7)) pa_nil))) (pa_cons (pv 8) pa_nil))))) (pss_one (ps_ret pe_bl)) pss_nil)
      (pss_one (ps_set (i := 5) sc_law_characters_ok.nd rfl (.inl rfl) (pe_op op_add (pv 5) (pv 7))))))))))
      (pss_one (ps_ret (pe_cmpR op_eq (pv 5) (pe_op op_sub (pe_callB call_len_seq (by rfl) T.m_len PySem.boot_len (pa_cons (pe_lc (own := [("k", 9)]) (g := gName 9) (by rfl) sc_law_characters_ok.nd (pi_list (pe_call G_law_tags hr_law_tags (by rfl) T.g_law_tags T.F_law_tags.kp T.b_law_tags .nil pass0 (pa_cons (pe_callB call_len_str (by rfl) T.m_len PySem.boot_len (pa_cons (pv 0) pa_nil)) (pa_cons (pv 1) pa_nil)))) (blkOk_by (own := [("k", 9)]) (N := ["text", "edits", "after", "old_rope", "new_rope", "covered", "run", "count", "part", "k"]) (sc := defScope s_law_characters_ok) (by decide +kernel)) (fun _ _ _ _ _ => pg_name (i := 9) sc_law_characters_ok.nd rfl (Or.inl rfl)) (fun _ _ _ _ _ => (pts_one (pt_cmpR op_ge (pv 9) pe_int (nomark _)))) (fun _ _ _ _ _ => (pv 9))) pa_nil)) pe_int) (nomark _)))))))), ?_⟩
    have zl := len_cs z
    have yl := len_cs y
    have lz := W.row.lz
    have ly := W.row.ly
    have few := W.few
    obtain ⟨us, hus, hue⟩ := id W.E
    refine ⟨rfl, _, rfl, z, rfl, lz, fun t H1 s1 ht ot tt _ _ => ?_⟩
    obtain ⟨dt, kt⟩ := ht.it
    refine ⟨_, rfl, _, _, _, rfl, kt, r5e _ _ _ _ _, _, rfl, l, us, rfl, .inl (SqL.of (s1 _ _ hus)), fun p1 np1 => ?_⟩
    have s2 := same_upd (o := .lst us) np1
    dsimp only [tNil]
    refine W.row.editQ (RopeFor.same s2 ⟨ht, ot, tt⟩) ((hue.mono (same_tups s1)).copy np1) fun u H2 s3 hu => ?_
    have t2 := (s1.trans s2).trans s3
    have ht2 : RopeFor T.C_Rope H2 t z := RopeFor.same (s2.trans s3) ⟨ht, ot, tt⟩
    refine ⟨_, rfl, z, rfl, szM (by omega), _, rfl, l, us, rfl, .inl (SqL.of (t2 _ _ hus)), fun p2 np2 => ?_⟩
    refine ⟨(cs z).length, p2, es, by rw [zl]; rfl, (hue.mono (same_tups t2)).copy np2, W.row.sh.sized, by omega, short_sizes W.row.sh (by omega) (by omega), fun hf c H3 s4 _ hc => ?_, fun k hk => by rw [unfit_none.mpr W.row.fit] at hk; cases hk⟩
    have t3 := t2.trans ((same_upd np2).trans s4)
    obtain ⟨tt', ⟨dx, hcc⟩, ws, hws, hwe⟩ := hc
    obtain ⟨rs, ers⟩ : ∃ rs, rs = canon (tp 0 (tagsE (cs z).length es)) := ⟨_, rfl⟩
    have tg := tags_tagged W.row.fit
    have tl : (tagsE (cs z).length es).length = (cs y).length + 1 := by rw [tg.2, W.row.cy, appl_len W.row.fit]
    have R := runs_of tg.1 tl
    have pos := canon_pos (tp 0 (tagsE (cs z).length es))
    have kept := kept_edits W.row.fit
    rw [← W.row.cy] at kept
    have sumR := cnt_sum R pos
    rw [runs_sum, pairsOf_canon, tp_count] at sumR
    rw [← ers] at hwe sumR
    have lws := paired_len hwe
    refine ⟨c, dx, _, tt', ws, rfl, hcc, ⟨dx, _, _, hcc⟩, SqT.of hws, ?_⟩
    refine for_tup (K := K) (a := tt') (xs := ws) (fun i σ H' => Same H3 H' ∧ ∃ (y6 y7 y8 : Option V), σ = [some (.str z), some (.ref l), some (.str y), some (.ref t.at), some (.ref u.at), some (.int ((((rs.take i).map (cntR (cs z).length)).sum : Nat) : Int)), y6, y7, y8, none])
      ⟨Same.refl _, none, none, none, rfl⟩ (fun i σ H' _ ⟨e, _⟩ => SqT.of (e _ _ hws)) ?_ ?_
    · rintro i x σ H4 hx ⟨s5, y6, y7, y8, rfl⟩
      obtain ⟨r, hr0⟩ : ∃ e, rs[i]? = some e := ⟨_, List.getElem?_eq_getElem (by rw [← lws]; exact (List.getElem?_eq_some_iff.mp hx).1)⟩
      obtain ⟨x', hx', g, rfl, hg0⟩ := paired_get hwe hr0
      rw [hx] at hx'
      obtain rfl := Option.some.inj hx'
      have hg := s5 _ _ hg0
      have hrm : r ∈ canon (tp 0 (tagsE (cs z).length es)) := by rw [← ers]; exact List.mem_of_getElem? hr0
      obtain ⟨f1, f2⟩ := run_fits tg.1 tl hrm
      have rt := run_text kept hrm (n := (cs z).length)
      have ol := R.olds r hrm
      obtain ⟨k, hk⟩ : ∃ k, k = cntR (cs z).length r := ⟨_, rfl⟩
      have ek : (if (z.length : Int) - (r.1 : Int) < (r.2.2 : Int) then (z.length : Int) - (r.1 : Int) else (r.2.2 : Int)) = (k : Int) := by
        rw [hk]
        unfold cntR
        split <;> omega
      rw [← hk] at f1 f2 rt
      obtain ⟨P, hP⟩ : ∃ P : Str, P = ⟨(((cs z).drop r.1).take k).toArray⟩ := ⟨_, rfl⟩
      have cP : cs P = ((cs z).drop r.1).take k := by rw [hP]
      have lP : (cs P).length ≤ 2000 := by
        rw [cP, List.length_take, List.length_drop]
        omega
      refine ⟨_, rfl, g, _, _, _, rfl, rfl, SqT.of hg, tup3 2 rfl, _, rfl, z, rfl, szM (by omega), _, rfl, g, _, _, _, rfl, rfl, SqT.of hg, tup3 0 rfl, _, _, rfl, rfl, _, _, rfl, ?_⟩
      rw [ek]
      refine ⟨_, rfl, _, rfl, g, _, _, _, rfl, rfl, SqT.of hg, tup3 0 rfl, _, rfl, _, rfl, g, _, _, _, rfl, rfl, SqT.of hg, tup3 0 rfl, _, rfl, _, _, rfl, rfl, _, rfl, z, rfl, szM (by omega), ?_⟩
      rw [cut_as, ← hP]
      refine ⟨_, rfl, _, rfl, g, _, _, _, rfl, rfl, SqT.of hg, tup3 1 rfl, _, rfl, _, rfl, g, _, _, _, rfl, rfl, SqT.of hg, tup3 1 rfl, _, rfl, _, _, rfl, rfl, _, rfl, y, rfl, szM (by omega), ?_⟩
      rw [cut_as, rt, ← hP]
      refine ⟨_, rfl, rfl, _, rfl, itF (by rw [decide_eq_true rfl]; rfl) ?_⟩
      have s25 := (same_upd np2).trans (s4.trans s5)
      have ht4 := RopeFor.same s25 ht2
      obtain ⟨d4, k4⟩ := ht4.1.it
      have tn : t.size = (cs z).length := by rw [← RT.txt_len, tt]
      have bt := ot.low (by omega)
      refine ⟨_, rfl, _, _, _, rfl, k4, r5c _ _ _ _ _, _, rfl, g, _, _, _, rfl, rfl, SqT.of hg, tup3 0 rfl, _, rfl, g, _, _, _, rfl, rfl, SqT.of hg, tup3 0 rfl, _, rfl, _, _, rfl, rfl, t, r.1, r.1 + k, _, _, rfl, rfl, by omega, ht4.1, ot, by omega, by omega, by omega, bt, fun v H5 iv => ?_⟩
      refine ⟨_, rfl, v, P, rfl, ⟨iv.here, iv.ok, ?_⟩, by omega, fun H6 s6 => ⟨true, rfl, iteF ?_⟩⟩
      · rw [iv.txt, tt, cP, List.drop_take, Nat.add_sub_cancel_left]
      have s56 := iv.same.trans s6
      have hg6 := s56 _ _ hg
      have hu6 := RopeFor.same (s25.trans s56) hu
      obtain ⟨d6, k6⟩ := hu6.1.it
      have un : u.size = (cs y).length := by rw [← RT.txt_len, hu.2.2]
      have bu := hu.2.1.low (by omega)
      refine ⟨_, rfl, _, _, _, rfl, k6, r5c _ _ _ _ _, _, rfl, g, _, _, _, rfl, rfl, SqT.of hg6, tup3 1 rfl, _, rfl, g, _, _, _, rfl, rfl, SqT.of hg6, tup3 1 rfl, _, rfl, _, _, rfl, rfl, u, r.2.1, r.2.1 + k, _, _, rfl, rfl, by omega, hu6.1, hu.2.1, by omega, by omega, by omega, bu, fun v2 H7 iv2 => ?_⟩
      refine ⟨_, rfl, v2, P, rfl, ⟨iv2.here, iv2.ok, ?_⟩, by omega, fun H8 s8 => ⟨true, rfl, iteF ?_⟩⟩
      · rw [iv2.txt, hu.2.2, cP, List.drop_take, Nat.add_sub_cancel_left, rt]
      refine ⟨_, rfl, _, rfl, _, _, rfl, rfl, ?_⟩
      have e9 : (fun i j : Int => V.int (i + j)) ((((rs.take i).map (cntR (cs z).length)).sum : Nat) : Int) (k : Int) = V.int ((((rs.take (i + 1)).map (cntR (cs z).length)).sum : Nat) : Int) := by
        rw [take_more hr0, List.map_append, List.sum_append]
        show V.int (_ + (k : Int)) = V.int ((_ + (cntR (cs z).length r + 0) : Nat) : Int)
        rw [hk]
        congr 1
      rw [e9]
      exact ⟨s5.trans ((s56.trans iv2.same).trans s8), _, _, _, rfl⟩
    · rintro σ H4 ⟨s5, y6, y7, y8, rfl⟩
      rw [lws, List.take_length]
      have t4 := t3.trans s5
      have W4 := W.same t4
      refine ⟨_, rfl, _, rfl, z, rfl, szM (by omega), _, rfl, (cs z).length, l, es, by rw [← zl]; rfl, W4.E, fitsL_le W.row.fit, W.row.sh, by omega, by omega, fun tg2 H5 s6 htg => ?_⟩
      have htg : H5 tg2 = some (.lst ((tagsE (cs z).length es).map V.int)) := htg
      have t5 := t4.trans s6
      obtain ⟨tv, etv⟩ : ∃ tv, tv = tagsE (cs z).length es := ⟨_, rfl⟩
      rw [← etv] at htg tl sumR
      refine ⟨tg2, rfl, ⟨_, SqL.of htg⟩, fun D nD => ?_⟩
      refine lc_it (walk_list (K := K) (a := tg2) (xs := tv.map V.int)) (fun j H' => Same H5 H' ∧ H' D = some (.lst (((tv.take j).filter fun x => decide (0 ≤ x)).map V.int))) ⟨same_upd nD, upd_same⟩ (fun j H' _ ⟨s, _⟩ => SqL.of (s _ _ htg)) ?_ ?_
      · rintro j x H6 H7 hj ⟨s7, hD⟩ ⟨rfl, hx⟩
        rw [List.length_map] at hj
        have hx2 : tv[j]? = some tv[j] := List.getElem?_eq_getElem hj
        have hx : (tv.map V.int)[j]? = some x := hx
        rw [List.getElem?_map, hx2] at hx
        obtain rfl : V.int tv[j] = x := Option.some.inj hx
        have lf : ((tv.take j).filter fun x => decide (0 ≤ x)).length ≤ j := Nat.le_trans (List.length_filter_le _ _) (by rw [List.length_take]; omega)
        refine ⟨rfl, _, rfl, _, _, rfl, rfl, _, rfl, ite2 (fun c => ?_) (fun c => ?_)⟩
        · have c0 : 0 ≤ tv[j] := of_decide_eq_true c
          refine ⟨_, rfl, _, hD, sz2 (by rw [List.length_map]; omega), same_mut s7 nD, ?_⟩
          rw [upd_same, take_more hx2, List.filter_append, List.map_append, List.filter_cons, if_pos (decide_eq_true c0)]
          rfl
        · have c0 : ¬ 0 ≤ tv[j] := fun z => c (decide_eq_true z)
          refine ⟨s7, ?_⟩
          rw [take_more hx2, List.filter_append, List.filter_cons, if_neg (by simp only [decide_eq_true_eq]; exact c0), List.filter_nil, List.append_nil]
          exact hD
      · rintro H6 ⟨s7, hD⟩
        rw [List.length_map, List.take_length] at hD
        have lf : (tv.filter fun x => decide (0 ≤ x)).length ≤ tv.length := List.length_filter_le _ _
        refine ⟨D, _, rfl, .inl (SqL.of hD), _, _, rfl, rfl, rfl, ?_⟩
        have e : decide (V.int ((((rs.map (cntR (cs z).length)).sum : Nat) : Int)) = (fun i j : Int => V.int (i - j)) (((tv.filter fun x => decide (0 ≤ x)).map V.int).length : Int) 1) = true := decide_eq_true (congrArg V.int (by rw [List.length_map]; omega))
        rw [e]
        exact q _ ((t5.trans s7))

/-! ### the law -/
theorem EdsAt.copyAt {H : Hp} {p q : Addr} {us : List V} {es : List Ed} (h : H p = some (.lst us)) (e : EdsAt H p es) (np : H q = none) : EdsAt (upd H q (.lst us)) q es := by
  obtain ⟨vs, hv, he⟩ := e
  rw [h] at hv
  obtain rfl : us = vs := by injection hv with h; injection h
  exact he.copy np
def spLaw (K : PySem.W.Frag) : Sp := fun vs H Q _ => ∃ (scr : Addr) (row : List Int), vs = [.ref scr] ∧ SqL K H scr (row.map V.int) ∧ row.length ≤ 63 ∧ ∀ H', Q (.bl true) H'
theorem ok_law (T : Txt K mg) : FnOk P w K mg base CX0 100 T.a_law T.fd_law ["script"] (spLaw K) := by
  have G_law_reel : FnOk P w K mg base CX0 1 T.a_law_reel T.fd_law_reel ["script"] (spReel K) := ok_reel T
  have G_law_draw : FnOk P w K mg base CX0 1 T.a_law_draw T.fd_law_draw ["reel", "size"] spDraw := ok_draw T
  have G_law_pick : FnOk P w K mg base CX0 2 T.a_law_pick T.fd_law_pick ["reel", "row"] (spPick K) := ok_pick T
  have G_law_text : FnOk P w K mg base CX0 4 T.a_law_text T.fd_law_text ["reel"] (spText 2000) := ok_text T
  have G_law_edit_row : FnOk P w K mg base CX0 5 T.a_law_edit_row T.fd_law_edit_row ["reel", "text", "count"] spRow3 := ok_edit_row3 T
  have G_law_splice : FnOk P w K mg base CX0 1 T.a_law_splice T.fd_law_splice ["text", "edits"] spSplice := ok_splice T
  have G_law_tags : FnOk P w K mg base CX0 1 T.a_law_tags T.fd_law_tags ["size", "edits"] spTags := ok_tags T
  have G_compact : FnOk P w K mg base (L2.CX P w) 6 T.a_compact T.fd_compact ["text", "edits"] (spCompact T.C_EditError) := ok_compact T
  have G_inverse : FnOk P w K mg base (L2.CX P w) 8 T.a_inverse T.fd_inverse ["text", "edits"] (spInverse T.C_EditError) := ok_inverse T
  have G_law_runs : FnOk P w K mg base CX0 1 T.a_law_runs T.fd_law_runs ["tags"] spRuns := ok_law_runs T
  have G_law_ahead : FnOk P w K mg base CX0 1 T.a_law_ahead T.fd_law_ahead ["tags", "size"] spAhead := ok_ahead T
  have G_law_gaps : FnOk P w K mg base CX0 1 T.a_law_gaps T.fd_law_gaps ["after", "runs"] spGaps := ok_gaps T
  have G_law_back : FnOk P w K mg base CX0 1 T.a_law_back T.fd_law_back ["text", "edits"] spBack := ok_back T
  have G_law_same_edits : FnOk P w K mg base CX0 3 T.a_law_same_edits T.fd_law_same_edits ["told", "due"] spSames := ok_sames T
  have G_law_texts_ok : FnOk P w K mg base CX0 92 T.a_law_texts_ok T.fd_law_texts_ok ["text", "edits", "after", "short", "back"] spTexts := ok_texts_ok T
  have G_law_carries_ok : FnOk P w K mg base CX0 6 T.a_law_carries_ok T.fd_law_carries_ok ["text", "edits", "after", "tags", "short", "back"] spCarries := ok_carries_ok T
  have G_law_characters_ok : FnOk P w K mg base CX0 92 T.a_law_characters_ok T.fd_law_characters_ok ["text", "edits", "after"] spChars := ok_characters_ok T
  refine T.F_law.ok sc_law (fun vs H Q E h => ?_) (fun cdv A outer s H vs Q E hr h => ?_)
  · obtain ⟨scr, row, rfl, _⟩ := h
    rfl
  · obtain ⟨scr, row, rfl, hs, hl, q⟩ := h
    have hr_law_reel : Room 1 _ := hr.mono (by decide)
    have hr_law_draw : Room 1 _ := hr.mono (by decide)
    have hr_law_pick : Room 2 _ := hr.mono (by decide)
    have hr_law_text : Room 4 _ := hr.mono (by decide)
    have hr_law_edit_row : Room 5 _ := hr.mono (by decide)
    have hr_law_splice : Room 1 _ := hr.mono (by decide)
    have hr_law_tags : Room 1 _ := hr.mono (by decide)
    have hr_compact : Room 6 _ := hr.mono (by decide)
    have hr_inverse : Room 8 _ := hr.mono (by decide)
    have hr_law_runs : Room 1 _ := hr.mono (by decide)
    have hr_law_ahead : Room 1 _ := hr.mono (by decide)
    have hr_law_gaps : Room 1 _ := hr.mono (by decide)
    have hr_law_back : Room 1 _ := hr.mono (by decide)
    have hr_law_same_edits : Room 3 _ := hr.mono (by decide)
    have hr_law_texts_ok : Room 92 _ := hr.mono (by decide)
    have hr_law_carries_ok : Room 6 _ := hr.mono (by decide)
    have hr_law_characters_ok : Room 92 _ := hr.mono (by decide)
    refine ⟨_, (pss_cons (ps_set (i := 1) sc_law.nd rfl (.inl rfl) (pe_call G_law_reel hr_law_reel (by rfl) T.g_law_reel T.F_law_reel.kp T.b_law_reel .nil pass0 (pa_cons (pv 0) pa_nil)))
      (pss_cons (ps_set (i := 2) sc_law.nd rfl (.inl rfl) (pe_call G_law_pick hr_law_pick (by rfl) T.g_law_pick T.F_law_pick.kp T.b_law_pick .nil pass0 (pa_cons (pv 1) (pa_cons (pe_lst (pa_cons pe_int (pa_cons pe_int (pa_cons pe_int (pa_cons pe_int (pa_cons pe_int (pa_cons pe_int (pa_cons pe_int pa_nil)))))))) pa_nil))))
      (C8.pss_cut (ps_if (pt_cmpR op_eq (pe_call G_law_draw hr_law_draw (by rfl) T.g_law_draw T.F_law_draw.kp T.b_law_draw .nil pass0 (pa_cons (pv 1) (pa_cons pe_int pa_nil))) pe_int (nomark _)) (pss_one (ps_set (i := 2) sc_law.nd rfl (.inl rfl) (pe_op op_add pe_int (pe_call G_law_draw hr_law_draw (by rfl) T.g_law_draw T.F_law_draw.kp T.b_law_draw .nil pass0 (pa_cons (pv 1) (pa_cons pe_int pa_nil)))))) pss_nil)
      (pss_cons (ps_set (i := 3) sc_law.nd rfl (.inl rfl) (pe_call G_law_text hr_law_text (by rfl) T.g_law_text T.F_law_text.kp T.b_law_text .nil pass0 (pa_cons (pv 1) pa_nil)))
      (pss_cons (ps_set (i := 4) sc_law.nd rfl (.inl rfl) (pe_call G_law_edit_row hr_law_edit_row (by rfl) T.g_law_edit_row T.F_law_edit_row.kp T.b_law_edit_row .nil pass0 (pa_cons (pv 1) (pa_cons (pv 3) (pa_cons (pv 2) pa_nil)))))
      (pss_cons (ps_set (i := 5) sc_law.nd rfl (.inl rfl) (pe_call G_law_splice hr_law_splice (by rfl) T.g_law_splice T.F_law_splice.kp T.b_law_splice .nil pass0 (pa_cons (pv 3) (pa_cons (pv 4) pa_nil))))
      (pss_cons (ps_set (i := 6) sc_law.nd rfl (.inl rfl) (pe_call G_law_tags hr_law_tags (by rfl) T.g_law_tags T.F_law_tags.kp T.b_law_tags .nil pass0 (pa_cons (pe_callB call_len_str (by rfl) T.m_len PySem.boot_len (pa_cons (pv 3) pa_nil)) (pa_cons (pv 4) pa_nil))))
      (pss_cons (ps_set (i := 7) sc_law.nd rfl (.inl rfl) (pe_call G_compact hr_compact (by rfl) T.g_compact T.F_compact.kp T.b_compact .nil (passX0 rfl rfl) (pa_cons (pv 3) (pa_cons (pe_callTy call_list_of (by rfl) T.m_list (by decide +kernel) (pa_cons (pv 4) pa_nil)) pa_nil))))
      (pss_cons (ps_set (i := 8) sc_law.nd rfl (.inl rfl) (pe_call G_inverse hr_inverse (by rfl) T.g_inverse T.F_inverse.kp T.b_inverse .nil (passX0 rfl rfl) (pa_cons (pv 3) (pa_cons (pe_callTy call_list_of (by rfl) T.m_list (by decide +kernel) (pa_cons (pv 4) pa_nil)) pa_nil))))
      (pss_cons (ps_if (pt_not (pt_val (pe_call G_law_same_edits hr_law_same_edits (by rfl) T.g_law_same_edits T.F_law_same_edits.kp T.b_law_same_edits .nil pass0 (pa_cons (pv 7) (pa_cons (pe_call G_law_gaps hr_law_gaps (by rfl) T.g_law_gaps T.F_law_gaps.kp T.b_law_gaps .nil pass0 (pa_cons (pv 5) (pa_cons (pe_call G_law_runs hr_law_runs (by rfl) T.g_law_runs T.F_law_runs.kp T.b_law_runs .nil pass0 (pa_cons (pv 6) pa_nil)) pa_nil))) pa_nil))))) (pss_one (ps_ret pe_bl)) pss_nil)
      (pss_cons (ps_if (PW.pt (pw_or (pt_not (pt_val (pe_call G_law_same_edits hr_law_same_edits (by rfl) T.g_law_same_edits T.F_law_same_edits.kp T.b_law_same_edits .nil pass0 (pa_cons (pv 8) (pa_cons (pe_call G_law_back hr_law_back (by rfl) T.g_law_back T.F_law_back.kp T.b_law_back .nil pass0 (pa_cons (pv 3) (pa_cons (pv 4) pa_nil))) pa_nil))))) (pw_or1 (pt_not (pt_val (pe_call G_law_same_edits hr_law_same_edits (by rfl) T.g_law_same_edits T.F_law_same_edits.kp T.b_law_same_edits .nil pass0 (pa_cons (pe_call G_inverse hr_inverse (by rfl) T.g_inverse T.F_inverse.kp T.b_inverse .nil (passX0 rfl rfl) (pa_cons (pv 5) (pa_cons (pe_callTy call_list_of (by rfl) T.m_list (by decide +kernel) (pa_cons (pv 8) pa_nil)) pa_nil))) (pa_cons (pv 4) pa_nil)))))))) (pss_one (ps_ret pe_bl)) pss_nil)
      (pss_cons (ps_if (pt_not (pt_val (pe_call G_law_texts_ok hr_law_texts_ok (by rfl) T.g_law_texts_ok T.F_law_texts_ok.kp T.b_law_texts_ok .nil pass0 (pa_cons (pv 3) (pa_cons (pv 4) (pa_cons (pv 5) (pa_cons (pv 7) (pa_cons (pv 8) pa_nil)))))))) (pss_one (ps_ret pe_bl)) pss_nil)
      (pss_cons (ps_if (pt_not (pt_val (pe_call G_law_carries_ok hr_law_carries_ok (by rfl) T.g_law_carries_ok T.F_law_carries_ok.kp T.b_law_carries_ok .nil pass0 (pa_cons (pv 3) (pa_cons (pv 4) (pa_cons (pv 5) (pa_cons (pv 6) (pa_cons (pv 7) (pa_cons (pv 8) pa_nil))))))))) (pss_one (ps_ret pe_bl)) pss_nil)
      (pss_cons (ps_set (i := 9) sc_law.nd rfl (.inl rfl) (pe_call G_compact hr_compact (by rfl) T.g_compact T.F_compact.kp T.b_compact .nil (passX0 rfl rfl) (pa_cons (pv 5) (pa_cons (pe_callTy call_list_of (by rfl) T.m_list (by decide +kernel) (pa_cons (pv 8) pa_nil)) pa_nil))))
      (pss_cons (ps_if (pt_not (pt_val (pe_call G_law_same_edits hr_law_same_edits (by rfl) T.g_law_same_edits T.F_law_same_edits.kp T.b_law_same_edits .nil pass0 (pa_cons (pv 9) (pa_cons (pe_call G_law_gaps hr_law_gaps (by rfl) T.g_law_gaps T.F_law_gaps.kp T.b_law_gaps .nil pass0 (pa_cons (pv 3) (pa_cons (pe_call G_law_runs hr_law_runs (by rfl) T.g_law_runs T.F_law_runs.kp T.b_law_runs .nil pass0 (pa_cons (pe_call G_law_ahead hr_law_ahead (by rfl) T.g_law_ahead T.F_law_ahead.kp T.b_law_ahead .nil pass0 (pa_cons (pv 6) (pa_cons (pe_callB call_len_str (by rfl) T.m_len PySem.boot_len (pa_cons (pv 3) pa_nil)) pa_nil))) pa_nil)) pa_nil))) pa_nil))))) (pss_one (ps_ret pe_bl)) pss_nil)
      (pss_cons (ps_if (pt_not (pt_val (pe_call G_law_same_edits hr_law_same_edits (by rfl) T.g_law_same_edits T.F_law_same_edits.kp T.b_law_same_edits .nil pass0 (pa_cons (pe_call G_compact hr_compact (by rfl) T.g_compact T.F_compact.kp T.b_compact .nil (passX0 rfl rfl) (pa_cons (pv 5) (pa_cons (pe_call G_inverse hr_inverse (by rfl) T.g_inverse T.F_inverse.kp T.b_inverse .nil (passX0 rfl rfl) (pa_cons (pv 3) (pa_cons (pe_callTy call_list_of (by rfl) T.m_list (by decide +kernel) (pa_cons (pv 7) pa_nil)) pa_nil))) pa_nil))) (pa_cons (pv 9) pa_nil))))) (pss_one (ps_ret pe_bl)) pss_nil)
      (pss_one (ps_ret (pe_call G_law_characters_ok hr_law_characters_ok (by rfl) T.g_law_characters_ok T.F_law_characters_ok.kp T.b_law_characters_ok .nil pass0 (pa_cons (pv 3) (pa_cons (pv 4) (pa_cons (pv 5) pa_nil)))))))))))))))))))))), ?_⟩
    refine ⟨_, rfl, scr, row, rfl, hs, fun H1 r s1 nr R1 => ?_⟩
    refine ⟨_, rfl, by show 7 ≤ sizeLine; decide, fun p np => ?_⟩
    refine ⟨r, _, rfl, R1.new np, .inr ⟨p, _, rfl, (R1.ne np).symm, SqL.of upd_same, by show 0 < 7; decide, fun v H2 hv b2 R2 => ?_⟩⟩
    obtain ⟨n0, rfl, n1, n2⟩ := intsIn_mem (lo := 0) (hi := 12) (by decide +kernel) v hv
    refine ⟨fun σ H' => ReelAt H' r ∧ ∃ n : Int, σ = [some (.ref scr), some (.ref r), some (.int n), none, none, none, none, none, none, none] ∧ 0 ≤ n ∧ n ≤ 40, ?_, ?_⟩
    · refine ⟨_, rfl, r, 16, rfl, R2, by decide, fun w H3 w0 w1 b3 R3 => ?_⟩
      refine ⟨rfl, _, rfl, ite2 (fun _ => ?_) (fun _ => ?_)⟩
      · refine ⟨_, rfl, r, 28, rfl, R3, by decide, fun w2 H4 w2a w2b b4 R4 => ⟨_, _, rfl, rfl, ?_⟩⟩
        exact ⟨R4, _, rfl, by omega, by omega⟩
      · exact ⟨R3, _, rfl, by omega, by omega⟩
    · rintro σ H3 ⟨R3, n, rfl, n3, n4⟩
      refine ⟨_, rfl, r, rfl, R3, fun z H4 lz oz b4 R4 => ?_⟩
      refine ⟨_, rfl, _, rfl, _, rfl, r, z, n, rfl, R4, lz, oz, n3, by omega, fun l H5 us es nl hl he le bd ft lim b5 R5 => ?_⟩
      have E : EdsAt H5 l es := ⟨us, hl, he⟩
      have sh : Short es := fun e h => ⟨(bd e h).2.2.1, (bd e h).2.2.2⟩
      have few : es.length ≤ 50 := by omega
      refine ⟨_, rfl, _, rfl, z, l, es, rfl, E, ft, fun k => Nat.le_trans (lim k) (by decide), ?_⟩
      obtain ⟨y, ey⟩ : ∃ y : Str, y = ⟨(appl (cs z) es).toArray⟩ := ⟨_, rfl⟩
      have cy : cs y = appl (cs z) es := by rw [ey]
      rw [← ey]
      have zl := len_cs z
      have yl := len_cs y
      have ly : (cs y).length ≤ 2000 := by
        have := lim es.length
        rw [List.take_length] at this
        rw [cy]
        exact this
      have row : Row z y es := ⟨lz, ly, oz, ft, cy, sh, by omega, fun k => Nat.le_trans (lim k) (by decide)⟩
      have tgd := tags_tagged ft
      have tl : (tagsE (cs z).length es).length = (cs y).length + 1 := by rw [tgd.2, cy, appl_len ft]
      refine ⟨_, rfl, z, rfl, szM (by omega), _, rfl, (cs z).length, l, es, by rw [zl]; rfl, E, fun e h => ⟨(bd e h).1, (bd e h).2.1⟩, sh, by omega, by omega, fun tg H6 s6 htg => ?_⟩
      have htg : H6 tg = some (.lst ((tagsE (cs z).length es).map V.int)) := htg
      have E6 := E.mono s6
      have hl6 := s6 _ _ hl
      refine ⟨_, rfl, _, rfl, l, us, rfl, .inl (SqL.of hl6), fun p7 np7 => ?_⟩
      have s7 := same_upd (o := .lst us) np7
      dsimp only [tNil]
      refine row.compactQ (E6.copyAt hl6 np7) fun sd H7 s8 hS => ?_
      have hS : EdsAt H7 sd (shortE z y es) := hS
      have t8 := s7.trans s8
      refine ⟨_, rfl, _, rfl, l, us, rfl, .inl (SqL.of (t8 _ _ hl6)), fun p9 np9 => ?_⟩
      have s9 := same_upd (o := .lst us) np9
      dsimp only [tNil]
      refine row.inverseQ ((E6.mono t8).copyAt (t8 _ _ hl6) np9) fun bk H8 s10 hB => ?_
      have t10 := (t8.trans s9).trans s10
      have S10 := hS.mono (s9.trans s10)
      have E10 := E6.mono t10
      have htg10 := t10 _ _ htg
      have hl10 := t10 _ _ hl6
      -- the row of the whole against the stretches
      have lcn := canon_len (tagsE (cs z).length es)
      have shS : Short (shortE z y es) := row.short.sh
      have lnS : (shortE z y es).length ≤ 100 := row.short.len
      refine ⟨_, rfl, _, rfl, _, rfl, tg, tagsE (cs z).length es, rfl, htg10, by omega, fun rn H9 s11 nrn hrn => ?_⟩
      refine ⟨y, rn, _, rfl, hrn, row.asc, by omega, by omega, fun gd H10 s12 hG => ?_⟩
      have t12 := s11.trans s12
      refine ⟨sd, gd, shortE z y es, rfl, S10.mono t12, hG, fun e he => (shS e he).2, by omega, true, rfl, iteF ?_⟩
      have B10 := hB.mono t12
      have E12 := E10.mono t12
      have hcut : ∀ e ∈ es, e.2.1.toNat ≤ 2000 := fun e he => by
        obtain ⟨i, hi⟩ := List.getElem?_of_mem he
        have hf := fitsL_get ft hi
        rw [← appl_len (fitsL_take i ft)] at hf
        have l0 := lim i
        obtain ⟨a, b, hab, h1, h2⟩ := fit_nat hf
        rw [hab]
        show b ≤ 2000
        omega
      have rb := row.back hcut
      have lB : (backL (cs z) es).length = es.length := backL_len (cs z) es
      refine ⟨_, rfl, _, rfl, _, rfl, z, l, es, rfl, E12, ft, fun k => Nat.le_trans (lim k) (by decide), by omega, fun bb H11 s13 nbb hbb => ?_⟩
      refine ⟨bk, bb, backL (cs z) es, rfl, B10.mono s13, hbb, fun e he => (rb.sh e he).2, by omega, true, rfl, iteF ?_⟩
      have t13 := t12.trans s13
      obtain ⟨ws, hws, hwe⟩ := hB
      have B13 : EdsAt H11 bk (backL (cs z) es) := B10.mono s13
      refine ⟨_, rfl, _, rfl, bk, ws, rfl, .inl (SqL.of (t13 _ _ hws)), fun p14 np14 => ?_⟩
      have s14 := same_upd (o := .lst ws) np14
      dsimp only [tNil]
      refine rb.inverseQ (B13.copyAt (t13 _ _ hws) np14) fun b2 H12 s15 hb2 => ?_
      have ebb : backL (cs y) (backL (cs z) es) = es := by rw [cy]; exact back_back ft
      rw [ebb] at hb2
      have t15 := (t13.trans s14).trans s15
      refine ⟨_, rfl, b2, l, es, rfl, hb2, E10.mono t15, fun e he => (sh e he).2, by omega, true, rfl, iteF ?_⟩
      have W15 : Whole H12 z y l sd bk es := ⟨row, hcut, few, lim, E10.mono t15, S10.mono t15, B13.mono (s14.trans s15)⟩
      refine ⟨_, rfl, _, rfl, _, rfl, _, rfl, _, rfl, z, y, l, sd, bk, es, rfl, W15, fun H13 s16 => ⟨true, rfl, iteF ?_⟩⟩
      have W16 := W15.same s16
      have t16 := t15.trans s16
      refine ⟨_, rfl, _, rfl, _, rfl, _, rfl, _, rfl, _, rfl, z, y, l, sd, bk, tg, es, rfl, W16, t16 _ _ htg10, fun H14 s17 => ⟨true, rfl, iteF ?_⟩⟩
      have t17 := t16.trans s17
      have W17 := W16.same s17
      have hws17 : H14 bk = some (.lst ws) := t17 _ _ hws
      refine ⟨_, rfl, _, rfl, bk, ws, rfl, .inl (SqL.of hws17), fun p18 np18 => ?_⟩
      have s18 := same_upd (o := .lst ws) np18
      dsimp only [tNil]
      refine rb.compactQ (W17.B.copyAt hws17 np18) fun aw H15 s19 hA => ?_
      have t19 := s18.trans s19
      have W19 := W17.same t19
      have htg19 := (t17.trans t19) _ _ htg10
      have oz2 : ∀ e ∈ compE (cs z) (canon (tp 0 (tagsE (cs y).length (backL (cs z) es)))), TOk e.2.2 := fun e he => (rb.short.sh e he).2
      have lA : (compE (cs z) (canon (tp 0 (tagsE (cs y).length (backL (cs z) es))))).length ≤ 100 := rb.short.len
      refine ⟨_, rfl, _, rfl, _, rfl, _, rfl, z, rfl, szM (by omega), tg, tagsE (cs z).length es, (cs z).length, by rw [zl]; rfl, htg19, tgd.1, by omega, by omega, fun ah H16 al s20 nah hah hal => ?_⟩
      have eB : tagsE (cs y).length (backL (cs z) es) = al := by rw [cy]; exact back_all ft hal
      rw [← eB] at hah
      have lal : (tagsE (cs y).length (backL (cs z) es)).length = (cs z).length + 1 := by rw [eB]; exact hal.1
      have lcn2 := canon_len (tagsE (cs y).length (backL (cs z) es))
      refine ⟨ah, _, rfl, hah, by omega, fun rn2 H17 s21 nrn2 hrn2 => ?_⟩
      refine ⟨z, rn2, _, rfl, hrn2, rb.asc, by omega, by omega, fun gd2 H18 s22 hG2 => ?_⟩
      have t22 := (s20.trans s21).trans s22
      have hA22 := hA.mono t22
      refine ⟨aw, gd2, _, rfl, hA22, hG2, oz2, by omega, true, rfl, iteF ?_⟩
      -- the shortened row's way back
      have W22 := W19.same t22
      obtain ⟨xs, hxs, hxe⟩ := id W22.S
      refine ⟨_, rfl, _, rfl, _, rfl, sd, xs, rfl, .inl (SqL.of hxs), fun p23 np23 => ?_⟩
      have s23 := same_upd (o := .lst xs) np23
      dsimp only [tNil]
      refine row.short.inverseQ (hxe.copy np23) fun b3 H19 s24 hb3 => ?_
      have rs := row.short.back (short_cut row)
      refine rs.compactQ hb3 fun aw2 H20 s25 hA2 => ?_
      have eS : tagsE (cs y).length (backL (cs z) (shortE z y es)) = tagsE (cs y).length (backL (cs z) es) := by
        have h1 : AheadL (tp 0 (tagsE (cs z).length (shortE z y es))) (cs z).length al := by
          unfold shortE
          rw [cy, comp_tags ft]
          exact hal
        have h2 := back_all row.short.fit h1
        rw [← row.short.cy] at h2
        rw [h2, eB]
      rw [eS] at hA2
      have t25 := (s23.trans s24).trans s25
      refine ⟨_, rfl, aw2, aw, _, rfl, hA2, hA22.mono t25, oz2, by omega, true, rfl, iteF ?_⟩
      have W25 := W22.same t25
      exact ⟨_, rfl, _, rfl, _, rfl, z, y, l, sd, bk, es, rfl, W25, fun H21 s26 => q H21⟩

theorem ok_top (T : Txt K mg) : FnOk P w K mg base CX0 100 T.a_law T.fd_law ["script"] (spLaw K) := ok_law T
end
theorem all_mk {l : PySem.W.OpenLaw} {w : World} {K : PySem.W.Frag} {h : Heap} {mg : Str → Option Value} {fa : Addr} (X : K.In h) (G : h.Ns mainGlobals mg) (hfa : mg "law" = some (.ref fa))
    {C_MendedError : Addr} (g_MendedError : PySem.W.nsIn K mainGlobals "MendedError" = some (some (.ref C_MendedError)))
    {C_EditError : Addr} (g_EditError : PySem.W.nsIn K mainGlobals "EditError" = some (some (.ref C_EditError)))
    {C_Rope : Addr} (g_Rope : PySem.W.nsIn K mainGlobals "Rope" = some (some (.ref C_Rope)))
    {C_Carry : Addr} (g_Carry : PySem.W.nsIn K mainGlobals "Carry" = some (some (.ref C_Carry)))
    {f0 : Addr} {od0 an0 : Option Addr} {sl0 : Array (Option Value)} {oc0 kV0 dc0 pm0 cd0 ct0 : Value}
    {f1 : Addr} {od1 an1 : Option Addr} {sl1 : Array (Option Value)} {oc1 kV1 dc1 pm1 cd1 ct1 : Value}
    {f2 : Addr} {od2 an2 : Option Addr} {sl2 : Array (Option Value)} {oc2 kV2 dc2 pm2 cd2 ct2 : Value}
    {f3 : Addr} {od3 an3 : Option Addr} {sl3 : Array (Option Value)} {oc3 kV3 dc3 pm3 cd3 ct3 : Value}
    {f4 : Addr} {od4 an4 : Option Addr} {sl4 : Array (Option Value)} {oc4 kV4 dc4 pm4 cd4 ct4 : Value}
    {f5 : Addr} {od5 an5 : Option Addr} {sl5 : Array (Option Value)} {oc5 kV5 dc5 pm5 cd5 ct5 : Value}
    {f6 : Addr} {od6 an6 : Option Addr} {sl6 : Array (Option Value)} {oc6 kV6 dc6 pm6 cd6 ct6 : Value}
    {f7 : Addr} {od7 an7 : Option Addr} {sl7 : Array (Option Value)} {oc7 kV7 dc7 pm7 cd7 ct7 : Value}
    {f8 : Addr} {od8 an8 : Option Addr} {sl8 : Array (Option Value)} {oc8 kV8 dc8 pm8 cd8 ct8 : Value}
    {f9 : Addr} {od9 an9 : Option Addr} {sl9 : Array (Option Value)} {oc9 kV9 dc9 pm9 cd9 ct9 : Value}
    {f10 : Addr} {od10 an10 : Option Addr} {sl10 : Array (Option Value)} {oc10 kV10 dc10 pm10 cd10 ct10 : Value}
    {f11 : Addr} {od11 an11 : Option Addr} {sl11 : Array (Option Value)} {oc11 kV11 dc11 pm11 cd11 ct11 : Value}
    {f12 : Addr} {od12 an12 : Option Addr} {sl12 : Array (Option Value)} {oc12 kV12 dc12 pm12 cd12 ct12 : Value}
    {f13 : Addr} {od13 an13 : Option Addr} {sl13 : Array (Option Value)} {oc13 kV13 dc13 pm13 cd13 ct13 : Value}
    {f14 : Addr} {od14 an14 : Option Addr} {sl14 : Array (Option Value)} {oc14 kV14 dc14 pm14 cd14 ct14 : Value}
    {f15 : Addr} {od15 an15 : Option Addr} {sl15 : Array (Option Value)} {oc15 kV15 dc15 pm15 cd15 ct15 : Value}
    {f16 : Addr} {od16 an16 : Option Addr} {sl16 : Array (Option Value)} {oc16 kV16 dc16 pm16 cd16 ct16 : Value}
    {f17 : Addr} {od17 an17 : Option Addr} {sl17 : Array (Option Value)} {oc17 kV17 dc17 pm17 cd17 ct17 : Value}
    {f18 : Addr} {od18 an18 : Option Addr} {sl18 : Array (Option Value)} {oc18 kV18 dc18 pm18 cd18 ct18 : Value}
    {f19 : Addr} {od19 an19 : Option Addr} {sl19 : Array (Option Value)} {oc19 kV19 dc19 pm19 cd19 ct19 : Value}
    {f20 : Addr} {od20 an20 : Option Addr} {sl20 : Array (Option Value)} {oc20 kV20 dc20 pm20 cd20 ct20 : Value}
    {f21 : Addr} {od21 an21 : Option Addr} {sl21 : Array (Option Value)} {oc21 kV21 dc21 pm21 cd21 ct21 : Value}
    {f22 : Addr} {od22 an22 : Option Addr} {sl22 : Array (Option Value)} {oc22 kV22 dc22 pm22 cd22 ct22 : Value}
    {f23 : Addr} {od23 an23 : Option Addr} {sl23 : Array (Option Value)} {oc23 kV23 dc23 pm23 cd23 ct23 : Value}
    {f24 : Addr} {od24 an24 : Option Addr} {sl24 : Array (Option Value)} {oc24 kV24 dc24 pm24 cd24 ct24 : Value}
    {f25 : Addr} {od25 an25 : Option Addr} {sl25 : Array (Option Value)} {oc25 kV25 dc25 pm25 cd25 ct25 : Value}
    {f26 : Addr} {od26 an26 : Option Addr} {sl26 : Array (Option Value)} {oc26 kV26 dc26 pm26 cd26 ct26 : Value}
    {f27 : Addr} {od27 an27 : Option Addr} {sl27 : Array (Option Value)} {oc27 kV27 dc27 pm27 cd27 ct27 : Value}
    {f28 : Addr} {od28 an28 : Option Addr} {sl28 : Array (Option Value)} {oc28 kV28 dc28 pm28 cd28 ct28 : Value}
    {f29 : Addr} {od29 an29 : Option Addr} {sl29 : Array (Option Value)} {oc29 kV29 dc29 pm29 cd29 ct29 : Value}
    {f30 : Addr} {od30 an30 : Option Addr} {sl30 : Array (Option Value)} {oc30 kV30 dc30 pm30 cd30 ct30 : Value}
    {f31 : Addr} {od31 an31 : Option Addr} {sl31 : Array (Option Value)} {oc31 kV31 dc31 pm31 cd31 ct31 : Value}
    {f32 : Addr} {od32 an32 : Option Addr} {sl32 : Array (Option Value)} {oc32 kV32 dc32 pm32 cd32 ct32 : Value}
    {f33 : Addr} {od33 an33 : Option Addr} {sl33 : Array (Option Value)} {oc33 kV33 dc33 pm33 cd33 ct33 : Value}
    {f34 : Addr} {od34 an34 : Option Addr} {sl34 : Array (Option Value)} {oc34 kV34 dc34 pm34 cd34 ct34 : Value}
    {f35 : Addr} {od35 an35 : Option Addr} {sl35 : Array (Option Value)} {oc35 kV35 dc35 pm35 cd35 ct35 : Value}
    {f36 : Addr} {od36 an36 : Option Addr} {sl36 : Array (Option Value)} {oc36 kV36 dc36 pm36 cd36 ct36 : Value}
    {f37 : Addr} {od37 an37 : Option Addr} {sl37 : Array (Option Value)} {oc37 kV37 dc37 pm37 cd37 ct37 : Value}
    {f38 : Addr} {od38 an38 : Option Addr} {sl38 : Array (Option Value)} {oc38 kV38 dc38 pm38 cd38 ct38 : Value}
    {f39 : Addr} {od39 an39 : Option Addr} {sl39 : Array (Option Value)} {oc39 kV39 dc39 pm39 cd39 ct39 : Value}
    {f40 : Addr} {od40 an40 : Option Addr} {sl40 : Array (Option Value)} {oc40 kV40 dc40 pm40 cd40 ct40 : Value}
    {f41 : Addr} {od41 an41 : Option Addr} {sl41 : Array (Option Value)} {oc41 kV41 dc41 pm41 cd41 ct41 : Value}
    {f42 : Addr} {od42 an42 : Option Addr} {sl42 : Array (Option Value)} {oc42 kV42 dc42 pm42 cd42 ct42 : Value}
    {f43 : Addr} {od43 an43 : Option Addr} {sl43 : Array (Option Value)} {oc43 kV43 dc43 pm43 cd43 ct43 : Value}
    {f44 : Addr} {od44 an44 : Option Addr} {sl44 : Array (Option Value)} {oc44 kV44 dc44 pm44 cd44 ct44 : Value}
    {f45 : Addr} {od45 an45 : Option Addr} {sl45 : Array (Option Value)} {oc45 kV45 dc45 pm45 cd45 ct45 : Value}
    (a0 : PySem.W.findIn K (.ref C_EditError) "__init__" = some (some (.ref f0)))
    (l0 : K.lookup f0 = some ⟨oc0, od0, .func (PySem.W.fnOf "__init__" "EditError.__init__" (defArgs s_EditError_init) (defBody s_EditError_init) (defScope s_EditError_init) .none kV0 dc0 pm0 an0 cd0 ct0), sl0⟩) (c0 : PySem.W.codeIn K cd0 "EditError.__init__" = true) (k0 : PySem.W.keepIn K (.ref f0) = true)
    (a1 : PySem.W.nsIn K mainGlobals "fits" = some (some (.ref f1)))
    (l1 : K.lookup f1 = some ⟨oc1, od1, .func (PySem.W.fnOf "fits" "fits" (defArgs s_fits) (defBody s_fits) (defScope s_fits) .none kV1 dc1 pm1 an1 cd1 ct1), sl1⟩) (c1 : PySem.W.codeIn K cd1 "fits" = true) (k1 : PySem.W.keepIn K (.ref f1) = true)
    (a2 : PySem.W.nsIn K mainGlobals "_first_misfit" = some (some (.ref f2)))
    (l2 : K.lookup f2 = some ⟨oc2, od2, .func (PySem.W.fnOf "_first_misfit" "_first_misfit" (defArgs s_first_misfit) (defBody s_first_misfit) (defScope s_first_misfit) .none kV2 dc2 pm2 an2 cd2 ct2), sl2⟩) (c2 : PySem.W.codeIn K cd2 "_first_misfit" = true) (k2 : PySem.W.keepIn K (.ref f2) = true)
    (a3 : PySem.W.nsIn K mainGlobals "check_fits" = some (some (.ref f3)))
    (l3 : K.lookup f3 = some ⟨oc3, od3, .func (PySem.W.fnOf "check_fits" "check_fits" (defArgs s_check_fits) (defBody s_check_fits) (defScope s_check_fits) .none kV3 dc3 pm3 an3 cd3 ct3), sl3⟩) (c3 : PySem.W.codeIn K cd3 "check_fits" = true) (k3 : PySem.W.keepIn K (.ref f3) = true)
    (a4 : PySem.W.nsIn K mainGlobals "apply" = some (some (.ref f4)))
    (l4 : K.lookup f4 = some ⟨oc4, od4, .func (PySem.W.fnOf "apply" "apply" (defArgs s_apply) (defBody s_apply) (defScope s_apply) .none kV4 dc4 pm4 an4 cd4 ct4), sl4⟩) (c4 : PySem.W.codeIn K cd4 "apply" = true) (k4 : PySem.W.keepIn K (.ref f4) = true)
    (a5 : PySem.W.nsIn K mainGlobals "inverse" = some (some (.ref f5)))
    (l5 : K.lookup f5 = some ⟨oc5, od5, .func (PySem.W.fnOf "inverse" "inverse" (defArgs s_inverse) (defBody s_inverse) (defScope s_inverse) .none kV5 dc5 pm5 an5 cd5 ct5), sl5⟩) (c5 : PySem.W.codeIn K cd5 "inverse" = true) (k5 : PySem.W.keepIn K (.ref f5) = true)
    (a6 : PySem.W.findIn K (.ref C_Rope) "__init__" = some (some (.ref f6)))
    (l6 : K.lookup f6 = some ⟨oc6, od6, .func (PySem.W.fnOf "__init__" "Rope.__init__" (defArgs s_Rope_init) (defBody s_Rope_init) (defScope s_Rope_init) .none kV6 dc6 pm6 an6 cd6 ct6), sl6⟩) (c6 : PySem.W.codeIn K cd6 "Rope.__init__" = true) (k6 : PySem.W.keepIn K (.ref f6) = true)
    {pp7 : Addr} {rr7 : List Value} (ac7 : PySem.W.findCls K (.ref C_Rope) (.type "type") "of" = some (.get (.builtin "staticmethod.__get__") (.ref pp7) .none (.ref C_Rope))) (a7 : PySem.W.recIn K pp7 "staticmethod" = some (.ref f7 :: rr7))
    (l7 : K.lookup f7 = some ⟨oc7, od7, .func (PySem.W.fnOf "of" "Rope.of" (defArgs s_Rope_of) (defBody s_Rope_of) (defScope s_Rope_of) .none kV7 dc7 pm7 an7 cd7 ct7), sl7⟩) (c7 : PySem.W.codeIn K cd7 "Rope.of" = true) (k7 : PySem.W.keepIn K (.ref f7) = true)
    (a8 : PySem.W.findIn K (.ref C_Rope) "whole" = some (some (.ref f8)))
    (l8 : K.lookup f8 = some ⟨oc8, od8, .func (PySem.W.fnOf "whole" "Rope.whole" (defArgs s_Rope_whole) (defBody s_Rope_whole) (defScope s_Rope_whole) .none kV8 dc8 pm8 an8 cd8 ct8), sl8⟩) (c8 : PySem.W.codeIn K cd8 "Rope.whole" = true) (k8 : PySem.W.keepIn K (.ref f8) = true)
    (a9 : PySem.W.findIn K (.ref C_Rope) "cut" = some (some (.ref f9)))
    (l9 : K.lookup f9 = some ⟨oc9, od9, .func (PySem.W.fnOf "cut" "Rope.cut" (defArgs s_Rope_cut) (defBody s_Rope_cut) (defScope s_Rope_cut) .none kV9 dc9 pm9 an9 cd9 ct9), sl9⟩) (c9 : PySem.W.codeIn K cd9 "Rope.cut" = true) (k9 : PySem.W.keepIn K (.ref f9) = true)
    (a10 : PySem.W.findIn K (.ref C_Rope) "joined" = some (some (.ref f10)))
    (l10 : K.lookup f10 = some ⟨oc10, od10, .func (PySem.W.fnOf "joined" "Rope.joined" (defArgs s_Rope_joined) (defBody s_Rope_joined) (defScope s_Rope_joined) .none kV10 dc10 pm10 an10 cd10 ct10), sl10⟩) (c10 : PySem.W.codeIn K cd10 "Rope.joined" = true) (k10 : PySem.W.keepIn K (.ref f10) = true)
    (a11 : PySem.W.findIn K (.ref C_Rope) "edited" = some (some (.ref f11)))
    (l11 : K.lookup f11 = some ⟨oc11, od11, .func (PySem.W.fnOf "edited" "Rope.edited" (defArgs s_Rope_edited) (defBody s_Rope_edited) (defScope s_Rope_edited) .none kV11 dc11 pm11 an11 cd11 ct11), sl11⟩) (c11 : PySem.W.codeIn K cd11 "Rope.edited" = true) (k11 : PySem.W.keepIn K (.ref f11) = true)
    (a12 : PySem.W.nsIn K mainGlobals "_tree" = some (some (.ref f12)))
    (l12 : K.lookup f12 = some ⟨oc12, od12, .func (PySem.W.fnOf "_tree" "_tree" (defArgs s_tree) (defBody s_tree) (defScope s_tree) .none kV12 dc12 pm12 an12 cd12 ct12), sl12⟩) (c12 : PySem.W.codeIn K cd12 "_tree" = true) (k12 : PySem.W.keepIn K (.ref f12) = true)
    (a13 : PySem.W.nsIn K mainGlobals "_balanced" = some (some (.ref f13)))
    (l13 : K.lookup f13 = some ⟨oc13, od13, .func (PySem.W.fnOf "_balanced" "_balanced" (defArgs s_balanced) (defBody s_balanced) (defScope s_balanced) .none kV13 dc13 pm13 an13 cd13 ct13), sl13⟩) (c13 : PySem.W.codeIn K cd13 "_balanced" = true) (k13 : PySem.W.keepIn K (.ref f13) = true)
    (a14 : PySem.W.findIn K (.ref C_Carry) "__init__" = some (some (.ref f14)))
    (l14 : K.lookup f14 = some ⟨oc14, od14, .func (PySem.W.fnOf "__init__" "Carry.__init__" (defArgs s_Carry_init) (defBody s_Carry_init) (defScope s_Carry_init) .none kV14 dc14 pm14 an14 cd14 ct14), sl14⟩) (c14 : PySem.W.codeIn K cd14 "Carry.__init__" = true) (k14 : PySem.W.keepIn K (.ref f14) = true)
    (a15 : PySem.W.findIn K (.ref C_Carry) "__iter__" = some (some (.ref f15)))
    (l15 : K.lookup f15 = some ⟨oc15, od15, .func (PySem.W.fnOf "__iter__" "Carry.__iter__" (defArgs s_Carry___iter__) (defBody s_Carry___iter__) (defScope s_Carry___iter__) .none kV15 dc15 pm15 an15 cd15 ct15), sl15⟩) (c15 : PySem.W.codeIn K cd15 "Carry.__iter__" = true) (k15 : PySem.W.keepIn K (.ref f15) = true)
    (a16 : PySem.W.findIn K (.ref C_Carry) "__add__" = some (some (.ref f16)))
    (l16 : K.lookup f16 = some ⟨oc16, od16, .func (PySem.W.fnOf "__add__" "Carry.__add__" (defArgs s_Carry___add__) (defBody s_Carry___add__) (defScope s_Carry___add__) .none kV16 dc16 pm16 an16 cd16 ct16), sl16⟩) (c16 : PySem.W.codeIn K cd16 "Carry.__add__" = true) (k16 : PySem.W.keepIn K (.ref f16) = true)
    (a17 : PySem.W.nsIn K mainGlobals "_through" = some (some (.ref f17)))
    (l17 : K.lookup f17 = some ⟨oc17, od17, .func (PySem.W.fnOf "_through" "_through" (defArgs s_through) (defBody s_through) (defScope s_through) .none kV17 dc17 pm17 an17 cd17 ct17), sl17⟩) (c17 : PySem.W.codeIn K cd17 "_through" = true) (k17 : PySem.W.keepIn K (.ref f17) = true)
    (a18 : PySem.W.nsIn K mainGlobals "joined_runs" = some (some (.ref f18)))
    (l18 : K.lookup f18 = some ⟨oc18, od18, .func (PySem.W.fnOf "joined_runs" "joined_runs" (defArgs s_joined_runs) (defBody s_joined_runs) (defScope s_joined_runs) .none kV18 dc18 pm18 an18 cd18 ct18), sl18⟩) (c18 : PySem.W.codeIn K cd18 "joined_runs" = true) (k18 : PySem.W.keepIn K (.ref f18) = true)
    (a19 : PySem.W.nsIn K mainGlobals "carry_of" = some (some (.ref f19)))
    (l19 : K.lookup f19 = some ⟨oc19, od19, .func (PySem.W.fnOf "carry_of" "carry_of" (defArgs s_carry_of) (defBody s_carry_of) (defScope s_carry_of) .none kV19 dc19 pm19 an19 cd19 ct19), sl19⟩) (c19 : PySem.W.codeIn K cd19 "carry_of" = true) (k19 : PySem.W.keepIn K (.ref f19) = true)
    (a20 : PySem.W.nsIn K mainGlobals "_carry_of_one" = some (some (.ref f20)))
    (l20 : K.lookup f20 = some ⟨oc20, od20, .func (PySem.W.fnOf "_carry_of_one" "_carry_of_one" (defArgs s_carry_of_one) (defBody s_carry_of_one) (defScope s_carry_of_one) .none kV20 dc20 pm20 an20 cd20 ct20), sl20⟩) (c20 : PySem.W.codeIn K cd20 "_carry_of_one" = true) (k20 : PySem.W.keepIn K (.ref f20) = true)
    (a21 : PySem.W.nsIn K mainGlobals "compact" = some (some (.ref f21)))
    (l21 : K.lookup f21 = some ⟨oc21, od21, .func (PySem.W.fnOf "compact" "compact" (defArgs s_compact) (defBody s_compact) (defScope s_compact) .none kV21 dc21 pm21 an21 cd21 ct21), sl21⟩) (c21 : PySem.W.codeIn K cd21 "compact" = true) (k21 : PySem.W.keepIn K (.ref f21) = true)
    (a22 : PySem.W.nsIn K mainGlobals "_law_reel" = some (some (.ref f22)))
    (l22 : K.lookup f22 = some ⟨oc22, od22, .func (PySem.W.fnOf "_law_reel" "_law_reel" (defArgs s_law_reel) (defBody s_law_reel) (defScope s_law_reel) .none kV22 dc22 pm22 an22 cd22 ct22), sl22⟩) (c22 : PySem.W.codeIn K cd22 "_law_reel" = true) (k22 : PySem.W.keepIn K (.ref f22) = true)
    (a23 : PySem.W.nsIn K mainGlobals "_law_draw" = some (some (.ref f23)))
    (l23 : K.lookup f23 = some ⟨oc23, od23, .func (PySem.W.fnOf "_law_draw" "_law_draw" (defArgs s_law_draw) (defBody s_law_draw) (defScope s_law_draw) .none kV23 dc23 pm23 an23 cd23 ct23), sl23⟩) (c23 : PySem.W.codeIn K cd23 "_law_draw" = true) (k23 : PySem.W.keepIn K (.ref f23) = true)
    (a24 : PySem.W.nsIn K mainGlobals "_law_pick" = some (some (.ref f24)))
    (l24 : K.lookup f24 = some ⟨oc24, od24, .func (PySem.W.fnOf "_law_pick" "_law_pick" (defArgs s_law_pick) (defBody s_law_pick) (defScope s_law_pick) .none kV24 dc24 pm24 an24 cd24 ct24), sl24⟩) (c24 : PySem.W.codeIn K cd24 "_law_pick" = true) (k24 : PySem.W.keepIn K (.ref f24) = true)
    (a25 : PySem.W.nsIn K mainGlobals "_law_word" = some (some (.ref f25)))
    (l25 : K.lookup f25 = some ⟨oc25, od25, .func (PySem.W.fnOf "_law_word" "_law_word" (defArgs s_law_word) (defBody s_law_word) (defScope s_law_word) .none kV25 dc25 pm25 an25 cd25 ct25), sl25⟩) (c25 : PySem.W.codeIn K cd25 "_law_word" = true) (k25 : PySem.W.keepIn K (.ref f25) = true)
    (a26 : PySem.W.nsIn K mainGlobals "_law_number" = some (some (.ref f26)))
    (l26 : K.lookup f26 = some ⟨oc26, od26, .func (PySem.W.fnOf "_law_number" "_law_number" (defArgs s_law_number) (defBody s_law_number) (defScope s_law_number) .none kV26 dc26 pm26 an26 cd26 ct26), sl26⟩) (c26 : PySem.W.codeIn K cd26 "_law_number" = true) (k26 : PySem.W.keepIn K (.ref f26) = true)
    (a27 : PySem.W.nsIn K mainGlobals "_law_signs" = some (some (.ref f27)))
    (l27 : K.lookup f27 = some ⟨oc27, od27, .func (PySem.W.fnOf "_law_signs" "_law_signs" (defArgs s_law_signs) (defBody s_law_signs) (defScope s_law_signs) .none kV27 dc27 pm27 an27 cd27 ct27), sl27⟩) (c27 : PySem.W.codeIn K cd27 "_law_signs" = true) (k27 : PySem.W.keepIn K (.ref f27) = true)
    (a28 : PySem.W.nsIn K mainGlobals "_law_stepped" = some (some (.ref f28)))
    (l28 : K.lookup f28 = some ⟨oc28, od28, .func (PySem.W.fnOf "_law_stepped" "_law_stepped" (defArgs s_law_stepped) (defBody s_law_stepped) (defScope s_law_stepped) .none kV28 dc28 pm28 an28 cd28 ct28), sl28⟩) (c28 : PySem.W.codeIn K cd28 "_law_stepped" = true) (k28 : PySem.W.keepIn K (.ref f28) = true)
    (a29 : PySem.W.nsIn K mainGlobals "_law_text" = some (some (.ref f29)))
    (l29 : K.lookup f29 = some ⟨oc29, od29, .func (PySem.W.fnOf "_law_text" "_law_text" (defArgs s_law_text) (defBody s_law_text) (defScope s_law_text) .none kV29 dc29 pm29 an29 cd29 ct29), sl29⟩) (c29 : PySem.W.codeIn K cd29 "_law_text" = true) (k29 : PySem.W.keepIn K (.ref f29) = true)
    (a30 : PySem.W.nsIn K mainGlobals "_law_new" = some (some (.ref f30)))
    (l30 : K.lookup f30 = some ⟨oc30, od30, .func (PySem.W.fnOf "_law_new" "_law_new" (defArgs s_law_new) (defBody s_law_new) (defScope s_law_new) .none kV30 dc30 pm30 an30 cd30 ct30), sl30⟩) (c30 : PySem.W.codeIn K cd30 "_law_new" = true) (k30 : PySem.W.keepIn K (.ref f30) = true)
    (a31 : PySem.W.nsIn K mainGlobals "_law_edit_row" = some (some (.ref f31)))
    (l31 : K.lookup f31 = some ⟨oc31, od31, .func (PySem.W.fnOf "_law_edit_row" "_law_edit_row" (defArgs s_law_edit_row) (defBody s_law_edit_row) (defScope s_law_edit_row) .none kV31 dc31 pm31 an31 cd31 ct31), sl31⟩) (c31 : PySem.W.codeIn K cd31 "_law_edit_row" = true) (k31 : PySem.W.keepIn K (.ref f31) = true)
    (a32 : PySem.W.nsIn K mainGlobals "_law_splice" = some (some (.ref f32)))
    (l32 : K.lookup f32 = some ⟨oc32, od32, .func (PySem.W.fnOf "_law_splice" "_law_splice" (defArgs s_law_splice) (defBody s_law_splice) (defScope s_law_splice) .none kV32 dc32 pm32 an32 cd32 ct32), sl32⟩) (c32 : PySem.W.codeIn K cd32 "_law_splice" = true) (k32 : PySem.W.keepIn K (.ref f32) = true)
    (a33 : PySem.W.nsIn K mainGlobals "_law_tags" = some (some (.ref f33)))
    (l33 : K.lookup f33 = some ⟨oc33, od33, .func (PySem.W.fnOf "_law_tags" "_law_tags" (defArgs s_law_tags) (defBody s_law_tags) (defScope s_law_tags) .none kV33 dc33 pm33 an33 cd33 ct33), sl33⟩) (c33 : PySem.W.codeIn K cd33 "_law_tags" = true) (k33 : PySem.W.keepIn K (.ref f33) = true)
    (a34 : PySem.W.nsIn K mainGlobals "_law_runs" = some (some (.ref f34)))
    (l34 : K.lookup f34 = some ⟨oc34, od34, .func (PySem.W.fnOf "_law_runs" "_law_runs" (defArgs s_law_runs) (defBody s_law_runs) (defScope s_law_runs) .none kV34 dc34 pm34 an34 cd34 ct34), sl34⟩) (c34 : PySem.W.codeIn K cd34 "_law_runs" = true) (k34 : PySem.W.keepIn K (.ref f34) = true)
    (a35 : PySem.W.nsIn K mainGlobals "_law_ahead" = some (some (.ref f35)))
    (l35 : K.lookup f35 = some ⟨oc35, od35, .func (PySem.W.fnOf "_law_ahead" "_law_ahead" (defArgs s_law_ahead) (defBody s_law_ahead) (defScope s_law_ahead) .none kV35 dc35 pm35 an35 cd35 ct35), sl35⟩) (c35 : PySem.W.codeIn K cd35 "_law_ahead" = true) (k35 : PySem.W.keepIn K (.ref f35) = true)
    (a36 : PySem.W.nsIn K mainGlobals "_law_same_edit" = some (some (.ref f36)))
    (l36 : K.lookup f36 = some ⟨oc36, od36, .func (PySem.W.fnOf "_law_same_edit" "_law_same_edit" (defArgs s_law_same_edit) (defBody s_law_same_edit) (defScope s_law_same_edit) .none kV36 dc36 pm36 an36 cd36 ct36), sl36⟩) (c36 : PySem.W.codeIn K cd36 "_law_same_edit" = true) (k36 : PySem.W.keepIn K (.ref f36) = true)
    (a37 : PySem.W.nsIn K mainGlobals "_law_same_edits" = some (some (.ref f37)))
    (l37 : K.lookup f37 = some ⟨oc37, od37, .func (PySem.W.fnOf "_law_same_edits" "_law_same_edits" (defArgs s_law_same_edits) (defBody s_law_same_edits) (defScope s_law_same_edits) .none kV37 dc37 pm37 an37 cd37 ct37), sl37⟩) (c37 : PySem.W.codeIn K cd37 "_law_same_edits" = true) (k37 : PySem.W.keepIn K (.ref f37) = true)
    (a38 : PySem.W.nsIn K mainGlobals "_law_carry_ok" = some (some (.ref f38)))
    (l38 : K.lookup f38 = some ⟨oc38, od38, .func (PySem.W.fnOf "_law_carry_ok" "_law_carry_ok" (defArgs s_law_carry_ok) (defBody s_law_carry_ok) (defScope s_law_carry_ok) .none kV38 dc38 pm38 an38 cd38 ct38), sl38⟩) (c38 : PySem.W.codeIn K cd38 "_law_carry_ok" = true) (k38 : PySem.W.keepIn K (.ref f38) = true)
    (a39 : PySem.W.nsIn K mainGlobals "_law_gaps" = some (some (.ref f39)))
    (l39 : K.lookup f39 = some ⟨oc39, od39, .func (PySem.W.fnOf "_law_gaps" "_law_gaps" (defArgs s_law_gaps) (defBody s_law_gaps) (defScope s_law_gaps) .none kV39 dc39 pm39 an39 cd39 ct39), sl39⟩) (c39 : PySem.W.codeIn K cd39 "_law_gaps" = true) (k39 : PySem.W.keepIn K (.ref f39) = true)
    (a40 : PySem.W.nsIn K mainGlobals "_law_back" = some (some (.ref f40)))
    (l40 : K.lookup f40 = some ⟨oc40, od40, .func (PySem.W.fnOf "_law_back" "_law_back" (defArgs s_law_back) (defBody s_law_back) (defScope s_law_back) .none kV40 dc40 pm40 an40 cd40 ct40), sl40⟩) (c40 : PySem.W.codeIn K cd40 "_law_back" = true) (k40 : PySem.W.keepIn K (.ref f40) = true)
    (a41 : PySem.W.nsIn K mainGlobals "_law_rope_is" = some (some (.ref f41)))
    (l41 : K.lookup f41 = some ⟨oc41, od41, .func (PySem.W.fnOf "_law_rope_is" "_law_rope_is" (defArgs s_law_rope_is) (defBody s_law_rope_is) (defScope s_law_rope_is) .none kV41 dc41 pm41 an41 cd41 ct41), sl41⟩) (c41 : PySem.W.codeIn K cd41 "_law_rope_is" = true) (k41 : PySem.W.keepIn K (.ref f41) = true)
    (a42 : PySem.W.nsIn K mainGlobals "_law_texts_ok" = some (some (.ref f42)))
    (l42 : K.lookup f42 = some ⟨oc42, od42, .func (PySem.W.fnOf "_law_texts_ok" "_law_texts_ok" (defArgs s_law_texts_ok) (defBody s_law_texts_ok) (defScope s_law_texts_ok) .none kV42 dc42 pm42 an42 cd42 ct42), sl42⟩) (c42 : PySem.W.codeIn K cd42 "_law_texts_ok" = true) (k42 : PySem.W.keepIn K (.ref f42) = true)
    (a43 : PySem.W.nsIn K mainGlobals "_law_carries_ok" = some (some (.ref f43)))
    (l43 : K.lookup f43 = some ⟨oc43, od43, .func (PySem.W.fnOf "_law_carries_ok" "_law_carries_ok" (defArgs s_law_carries_ok) (defBody s_law_carries_ok) (defScope s_law_carries_ok) .none kV43 dc43 pm43 an43 cd43 ct43), sl43⟩) (c43 : PySem.W.codeIn K cd43 "_law_carries_ok" = true) (k43 : PySem.W.keepIn K (.ref f43) = true)
    (a44 : PySem.W.nsIn K mainGlobals "_law_characters_ok" = some (some (.ref f44)))
    (l44 : K.lookup f44 = some ⟨oc44, od44, .func (PySem.W.fnOf "_law_characters_ok" "_law_characters_ok" (defArgs s_law_characters_ok) (defBody s_law_characters_ok) (defScope s_law_characters_ok) .none kV44 dc44 pm44 an44 cd44 ct44), sl44⟩) (c44 : PySem.W.codeIn K cd44 "_law_characters_ok" = true) (k44 : PySem.W.keepIn K (.ref f44) = true)
    (a45 : PySem.W.nsIn K mainGlobals "law" = some (some (.ref f45)))
    (l45 : K.lookup f45 = some ⟨oc45, od45, .func (PySem.W.fnOf "law" "law" (defArgs s_law) (defBody s_law) (defScope s_law) .none kV45 dc45 pm45 an45 cd45 ct45), sl45⟩) (c45 : PySem.W.codeIn K cd45 "law" = true) (k45 : PySem.W.keepIn K (.ref f45) = true)
    (bga_MendedError : PySem.W.specialIn K (.ref C_MendedError) "__getattribute__" = some (some (.builtin "type.__getattribute__"))) (brd_MendedError : PySem.W.readsIn K C_MendedError (.type "type") = true) (bfi_MendedError : PySem.W.findCls K (.ref C_MendedError) (.type "type") "__init__" = some (.val (.builtin "ValueError.__init__")))
    {nm_EditError q_EditError : Str} {N_EditError : Addr} {bs_EditError : List Value} {sn_EditError : List Str} {sub_EditError : List Value} {ab_EditError : Bool} {col_EditError : Option Bool} {dd_EditError : Option Addr} {m0_EditError m1_EditError m2_EditError m3_EditError m5_EditError : Option Value}
    (xL_EditError : K.lookup C_EditError = some (excClassObj nm_EditError q_EditError C_EditError N_EditError bs_EditError (.ref C_MendedError :: [.type "ValueError", .type "Exception", .type "BaseException", .type "object"]) true sn_EditError sub_EditError ab_EditError col_EditError dd_EditError m0_EditError m1_EditError m2_EditError m3_EditError m5_EditError "ValueError.__new__"))
    (sa_EditError : PySem.W.findIn K (.ref C_EditError) "__setattr__" = some (some (.builtin "object.__setattr__")))
    (ga_EditError : PySem.W.findIn K (.ref C_EditError) "__getattribute__" = some (some (.builtin "BaseException.__getattribute__")))
    (gg_EditError : PySem.W.findIn K (.ref C_EditError) "__getattr__" = some none)
    (kC_EditError : PySem.W.keepIn K (.ref C_EditError) = true)
    (eC_EditError : PySem.W.subIn K (.ref C_EditError) (.type "BaseException") = some true)
    (tC_EditError : PySem.W.typeIn K (.ref C_EditError) = some (.type "type"))
    (hd_EditError : PySem.W.hasDictIn K C_EditError = true)
    (ha_EditError : PySem.W.findIn K (.ref C_EditError) "__class__" = some (some (.builtin "object.__class__")))
    (hm_EditError : PySem.W.mroIn K C_EditError (.type "object") = some true)
    (sC_EditError : PySem.W.subIn K (.ref C_EditError) (.ref C_EditError) = some true)
    (tI_EditError : PySem.W.typeIn K (.ref f0) = some (.type "function"))
    (n_EditError_index : PySem.W.findIn K (.ref C_EditError) "index" = some none)
    (hn : PySem.W.specialIn K (.builtin "object.__class__") "__get__" = some (some (.builtin "getset_descriptor.__get__"))) (ht : PySem.W.takesIn K (.builtin "object.__class__") = some true)
    (pg_Rope : PySem.W.plainGet K C_Rope Str.empty = true)
    (hdo_Rope : PySem.W.hasDictIn K C_Rope = true)
    (po_Rope : PySem.W.plainOver K C_Rope = true)
    (sao_Rope : PySem.W.findIn K (.ref C_Rope) "__setattr__" = some (some (.builtin "object.__setattr__")))
    (mkC_Rope : PySem.W.makesIn K C_Rope = true)
    (kcC_Rope : PySem.W.keepIn K (.ref C_Rope) = true)
    (ha_Rope : PySem.W.findIn K (.ref C_Rope) "__class__" = some (some (.builtin "object.__class__")))
    (hm_Rope : PySem.W.mroIn K C_Rope (.type "object") = some true)
    (sC_Rope : PySem.W.subIn K (.ref C_Rope) (.ref C_Rope) = some true)
    (iC_Rope : PySem.W.isClsIn K C_Rope = true)
    (tY_Rope : PySem.W.typeIn K (.ref C_Rope) = some (.type "type"))
    (na_Rope_piece : PySem.W.findIn K (.ref C_Rope) "piece" = some none)
    (na_Rope_left : PySem.W.findIn K (.ref C_Rope) "left" = some none)
    (na_Rope_right : PySem.W.findIn K (.ref C_Rope) "right" = some none)
    (na_Rope_size : PySem.W.findIn K (.ref C_Rope) "size" = some none)
    (na_Rope_height : PySem.W.findIn K (.ref C_Rope) "height" = some none)
    (if_Rope__init__ : PySem.W.isFn K (.ref f6) = true)
    (if_Ropewhole : PySem.W.isFn K (.ref f8) = true)
    (if_Ropecut : PySem.W.isFn K (.ref f9) = true)
    (if_Ropejoined : PySem.W.isFn K (.ref f10) = true)
    (if_Ropeedited : PySem.W.isFn K (.ref f11) = true)
    (sga_Rope : PySem.W.specialIn K (.ref C_Rope) "__getattribute__" = some (some (.builtin "type.__getattribute__"))) (srd_Rope : PySem.W.readsIn K C_Rope (.type "type") = true)
    (pg_Carry : PySem.W.plainGet K C_Carry Str.empty = true)
    (hdo_Carry : PySem.W.hasDictIn K C_Carry = true)
    (po_Carry : PySem.W.plainOver K C_Carry = true)
    (sao_Carry : PySem.W.findIn K (.ref C_Carry) "__setattr__" = some (some (.builtin "object.__setattr__")))
    (mkC_Carry : PySem.W.makesIn K C_Carry = true)
    (kcC_Carry : PySem.W.keepIn K (.ref C_Carry) = true)
    (ha_Carry : PySem.W.findIn K (.ref C_Carry) "__class__" = some (some (.builtin "object.__class__")))
    (hm_Carry : PySem.W.mroIn K C_Carry (.type "object") = some true)
    (sC_Carry : PySem.W.subIn K (.ref C_Carry) (.ref C_Carry) = some true)
    (iC_Carry : PySem.W.isClsIn K C_Carry = true)
    (tY_Carry : PySem.W.typeIn K (.ref C_Carry) = some (.type "type"))
    (na_Carry_old : PySem.W.findIn K (.ref C_Carry) "old" = some none)
    (na_Carry_new : PySem.W.findIn K (.ref C_Carry) "new" = some none)
    (na_Carry_runs : PySem.W.findIn K (.ref C_Carry) "runs" = some none)
    (if_Carry__init__ : PySem.W.isFn K (.ref f14) = true)
    (if_Carry__add__ : PySem.W.isFn K (.ref f16) = true)
    (if_Carry__iter__ : PySem.W.isFn K (.ref f15) = true)
    (sf_Carry : PySem.W.selfFirst K C_Carry = true)
    (nl_Carry : PySem.W.findIn K (.ref C_Carry) "__len__" = some none) (nh_Carry : PySem.W.findIn K (.ref C_Carry) "__length_hint__" = some none)
    (z0 : PySem.W.nsIn K mainGlobals "range" = some none)
    (z1 : PySem.W.nsIn K mainGlobals "min" = some none)
    (z2 : PySem.W.nsIn K mainGlobals "max" = some none)
    (z3 : PySem.W.nsIn K mainGlobals "len" = some none)
    (z4 : PySem.W.nsIn K mainGlobals "abs" = some none)
    (z5 : PySem.W.nsIn K mainGlobals "int" = some none)
    (z6 : PySem.W.nsIn K mainGlobals "sum" = some none)
    (z7 : PySem.W.nsIn K mainGlobals "isinstance" = some none)
    (z8 : PySem.W.nsIn K mainGlobals "bool" = some none)
    (z9 : PySem.W.nsIn K mainGlobals "list" = some none)
    (z10 : PySem.W.nsIn K mainGlobals "tuple" = some none)
    (z11 : PySem.W.nsIn K mainGlobals "str" = some none)
    (z12 : PySem.W.nsIn K mainGlobals "enumerate" = some none)
    (z13 : PySem.W.nsIn K mainGlobals "ValueError" = some none)
    (z14 : PySem.W.nsIn K mainGlobals "iter" = some none)
    {t0 : Tok} (y0 : PySem.W.nsIn K mainGlobals "LONGEST" = some (some (Value.int 16 t0)))
    : ∃ fd : FuncData, (∀ (s : Shared) (v : Value), BindsTo s fd ⟨[v], []⟩ [("script", v)]) ∧ ∀ base : Heap, K.In base → base.Ns mainGlobals mg → FnOk l.prog w K mg base CX0 100 fa fd ["script"] (spLaw K) := by
  have e := hfa.symm.trans (PySem.W.mg_of X G a45)
  cases e
  have F0 := fun_mk (st := s_EditError_init) l0 c0 k0
  have b0 := F0.binds (ps := ["self", "index"]) fun _ _ _ _ _ _ us hl => match us, hl with | [_, _], _ => rfl
  have F1 := fun_mk (st := s_fits) l1 c1 k1
  have b1 := F1.binds (ps := ["length", "edits"]) fun _ _ _ _ _ _ us hl => match us, hl with | [_, _], _ => rfl
  have F2 := fun_mk (st := s_first_misfit) l2 c2 k2
  have b2 := F2.binds (ps := ["length", "edits"]) fun _ _ _ _ _ _ us hl => match us, hl with | [_, _], _ => rfl
  have F3 := fun_mk (st := s_check_fits) l3 c3 k3
  have b3 := F3.binds (ps := ["length", "edits"]) fun _ _ _ _ _ _ us hl => match us, hl with | [_, _], _ => rfl
  have F4 := fun_mk (st := s_apply) l4 c4 k4
  have b4 := F4.binds (ps := ["text", "edits"]) fun _ _ _ _ _ _ us hl => match us, hl with | [_, _], _ => rfl
  have F5 := fun_mk (st := s_inverse) l5 c5 k5
  have b5 := F5.binds (ps := ["text", "edits"]) fun _ _ _ _ _ _ us hl => match us, hl with | [_, _], _ => rfl
  have F6 := fun_mk (st := s_Rope_init) l6 c6 k6
  have b6 := F6.binds (ps := ["self", "piece", "left", "right"]) fun _ _ _ _ _ _ us hl => match us, hl with | [_, _, _, _], _ => rfl
  have F7 := fun_mk (st := s_Rope_of) l7 c7 k7
  have b7 := F7.binds (ps := ["text"]) fun _ _ _ _ _ _ us hl => match us, hl with | [_], _ => rfl
  have F8 := fun_mk (st := s_Rope_whole) l8 c8 k8
  have b8 := F8.binds (ps := ["self"]) fun _ _ _ _ _ _ us hl => match us, hl with | [_], _ => rfl
  have F9 := fun_mk (st := s_Rope_cut) l9 c9 k9
  have b9 := F9.binds (ps := ["self", "start", "end"]) fun _ _ _ _ _ _ us hl => match us, hl with | [_, _, _], _ => rfl
  have F10 := fun_mk (st := s_Rope_joined) l10 c10 k10
  have b10 := F10.binds (ps := ["self", "other"]) fun _ _ _ _ _ _ us hl => match us, hl with | [_, _], _ => rfl
  have F11 := fun_mk (st := s_Rope_edited) l11 c11 k11
  have b11 := F11.binds (ps := ["self", "edits"]) fun _ _ _ _ _ _ us hl => match us, hl with | [_, _], _ => rfl
  have F12 := fun_mk (st := s_tree) l12 c12 k12
  have b12 := F12.binds (ps := ["pieces"]) fun _ _ _ _ _ _ us hl => match us, hl with | [_], _ => rfl
  have F13 := fun_mk (st := s_balanced) l13 c13 k13
  have b13 := F13.binds (ps := ["left", "right"]) fun _ _ _ _ _ _ us hl => match us, hl with | [_, _], _ => rfl
  have F14 := fun_mk (st := s_Carry_init) l14 c14 k14
  have b14 := F14.binds (ps := ["self", "old", "new", "runs"]) fun _ _ _ _ _ _ us hl => match us, hl with | [_, _, _, _], _ => rfl
  have F15 := fun_mk (st := s_Carry___iter__) l15 c15 k15
  have b15 := F15.binds (ps := ["self"]) fun _ _ _ _ _ _ us hl => match us, hl with | [_], _ => rfl
  have F16 := fun_mk (st := s_Carry___add__) l16 c16 k16
  have b16 := F16.binds (ps := ["self", "other"]) fun _ _ _ _ _ _ us hl => match us, hl with | [_, _], _ => rfl
  have F17 := fun_mk (st := s_through) l17 c17 k17
  have b17 := F17.binds (ps := ["first", "second"]) fun _ _ _ _ _ _ us hl => match us, hl with | [_, _], _ => rfl
  have F18 := fun_mk (st := s_joined_runs) l18 c18 k18
  have b18 := F18.binds (ps := ["pieces"]) fun _ _ _ _ _ _ us hl => match us, hl with | [_], _ => rfl
  have F19 := fun_mk (st := s_carry_of) l19 c19 k19
  have b19 := F19.binds (ps := ["length", "edits"]) fun _ _ _ _ _ _ us hl => match us, hl with | [_, _], _ => rfl
  have F20 := fun_mk (st := s_carry_of_one) l20 c20 k20
  have b20 := F20.binds (ps := ["length", "start", "end", "count"]) fun _ _ _ _ _ _ us hl => match us, hl with | [_, _, _, _], _ => rfl
  have F21 := fun_mk (st := s_compact) l21 c21 k21
  have b21 := F21.binds (ps := ["text", "edits"]) fun _ _ _ _ _ _ us hl => match us, hl with | [_, _], _ => rfl
  have F22 := fun_mk (st := s_law_reel) l22 c22 k22
  have b22 := F22.binds (ps := ["script"]) fun _ _ _ _ _ _ us hl => match us, hl with | [_], _ => rfl
  have F23 := fun_mk (st := s_law_draw) l23 c23 k23
  have b23 := F23.binds (ps := ["reel", "size"]) fun _ _ _ _ _ _ us hl => match us, hl with | [_, _], _ => rfl
  have F24 := fun_mk (st := s_law_pick) l24 c24 k24
  have b24 := F24.binds (ps := ["reel", "row"]) fun _ _ _ _ _ _ us hl => match us, hl with | [_, _], _ => rfl
  have F25 := fun_mk (st := s_law_word) l25 c25 k25
  have b25 := F25.binds (ps := ["reel", "letters", "least", "most"]) fun _ _ _ _ _ _ us hl => match us, hl with | [_, _, _, _], _ => rfl
  have F26 := fun_mk (st := s_law_number) l26 c26 k26
  have b26 := F26.binds (ps := ["value"]) fun _ _ _ _ _ _ us hl => match us, hl with | [_], _ => rfl
  have F27 := fun_mk (st := s_law_signs) l27 c27 k27
  have b27 := F27.binds (ps := []) fun _ _ _ _ _ _ us hl => match us, hl with | [], _ => rfl
  have F28 := fun_mk (st := s_law_stepped) l28 c28 k28
  have b28 := F28.binds (ps := ["reel", "size"]) fun _ _ _ _ _ _ us hl => match us, hl with | [_, _], _ => rfl
  have F29 := fun_mk (st := s_law_text) l29 c29 k29
  have b29 := F29.binds (ps := ["reel"]) fun _ _ _ _ _ _ us hl => match us, hl with | [_], _ => rfl
  have F30 := fun_mk (st := s_law_new) l30 c30 k30
  have b30 := F30.binds (ps := ["reel"]) fun _ _ _ _ _ _ us hl => match us, hl with | [_], _ => rfl
  have F31 := fun_mk (st := s_law_edit_row) l31 c31 k31
  have b31 := F31.binds (ps := ["reel", "text", "count"]) fun _ _ _ _ _ _ us hl => match us, hl with | [_, _, _], _ => rfl
  have F32 := fun_mk (st := s_law_splice) l32 c32 k32
  have b32 := F32.binds (ps := ["text", "edits"]) fun _ _ _ _ _ _ us hl => match us, hl with | [_, _], _ => rfl
  have F33 := fun_mk (st := s_law_tags) l33 c33 k33
  have b33 := F33.binds (ps := ["size", "edits"]) fun _ _ _ _ _ _ us hl => match us, hl with | [_, _], _ => rfl
  have F34 := fun_mk (st := s_law_runs) l34 c34 k34
  have b34 := F34.binds (ps := ["tags"]) fun _ _ _ _ _ _ us hl => match us, hl with | [_], _ => rfl
  have F35 := fun_mk (st := s_law_ahead) l35 c35 k35
  have b35 := F35.binds (ps := ["tags", "size"]) fun _ _ _ _ _ _ us hl => match us, hl with | [_, _], _ => rfl
  have F36 := fun_mk (st := s_law_same_edit) l36 c36 k36
  have b36 := F36.binds (ps := ["told", "due"]) fun _ _ _ _ _ _ us hl => match us, hl with | [_, _], _ => rfl
  have F37 := fun_mk (st := s_law_same_edits) l37 c37 k37
  have b37 := F37.binds (ps := ["told", "due"]) fun _ _ _ _ _ _ us hl => match us, hl with | [_, _], _ => rfl
  have F38 := fun_mk (st := s_law_carry_ok) l38 c38 k38
  have b38 := F38.binds (ps := ["told", "old", "new", "runs"]) fun _ _ _ _ _ _ us hl => match us, hl with | [_, _, _, _], _ => rfl
  have F39 := fun_mk (st := s_law_gaps) l39 c39 k39
  have b39 := F39.binds (ps := ["after", "runs"]) fun _ _ _ _ _ _ us hl => match us, hl with | [_, _], _ => rfl
  have F40 := fun_mk (st := s_law_back) l40 c40 k40
  have b40 := F40.binds (ps := ["text", "edits"]) fun _ _ _ _ _ _ us hl => match us, hl with | [_, _], _ => rfl
  have F41 := fun_mk (st := s_law_rope_is) l41 c41 k41
  have b41 := F41.binds (ps := ["rope", "text"]) fun _ _ _ _ _ _ us hl => match us, hl with | [_, _], _ => rfl
  have F42 := fun_mk (st := s_law_texts_ok) l42 c42 k42
  have b42 := F42.binds (ps := ["text", "edits", "after", "short", "back"]) fun _ _ _ _ _ _ us hl => match us, hl with | [_, _, _, _, _], _ => rfl
  have F43 := fun_mk (st := s_law_carries_ok) l43 c43 k43
  have b43 := F43.binds (ps := ["text", "edits", "after", "tags", "short", "back"]) fun _ _ _ _ _ _ us hl => match us, hl with | [_, _, _, _, _, _], _ => rfl
  have F44 := fun_mk (st := s_law_characters_ok) l44 c44 k44
  have b44 := F44.binds (ps := ["text", "edits", "after"]) fun _ _ _ _ _ _ us hl => match us, hl with | [_, _, _], _ => rfl
  have F45 := fun_mk (st := s_law) l45 c45 k45
  have b45 := F45.binds (ps := ["script"]) fun _ _ _ _ _ _ us hl => match us, hl with | [_], _ => rfl
  let T : Txt K mg :=
    { C_MendedError := C_MendedError,
      G_MendedError := PySem.W.mg_of X G g_MendedError,
      C_EditError := C_EditError,
      G_EditError := PySem.W.mg_of X G g_EditError,
      C_Rope := C_Rope,
      G_Rope := PySem.W.mg_of X G g_Rope,
      C_Carry := C_Carry,
      G_Carry := PySem.W.mg_of X G g_Carry,
      a_EditError_init := _, fd_EditError_init := _, F_EditError_init := F0, b_EditError_init := b0,
      a_fits := _, fd_fits := _, F_fits := F1, b_fits := b1, g_fits := PySem.W.mg_of X G a1,
      a_first_misfit := _, fd_first_misfit := _, F_first_misfit := F2, b_first_misfit := b2, g_first_misfit := PySem.W.mg_of X G a2,
      a_check_fits := _, fd_check_fits := _, F_check_fits := F3, b_check_fits := b3, g_check_fits := PySem.W.mg_of X G a3,
      a_apply := _, fd_apply := _, F_apply := F4, b_apply := b4, g_apply := PySem.W.mg_of X G a4,
      a_inverse := _, fd_inverse := _, F_inverse := F5, b_inverse := b5, g_inverse := PySem.W.mg_of X G a5,
      a_Rope_init := _, fd_Rope_init := _, F_Rope_init := F6, b_Rope_init := b6,
      a_Rope_of := _, fd_Rope_of := _, F_Rope_of := F7, b_Rope_of := b7,
      a_Rope_whole := _, fd_Rope_whole := _, F_Rope_whole := F8, b_Rope_whole := b8,
      a_Rope_cut := _, fd_Rope_cut := _, F_Rope_cut := F9, b_Rope_cut := b9,
      a_Rope_joined := _, fd_Rope_joined := _, F_Rope_joined := F10, b_Rope_joined := b10,
      a_Rope_edited := _, fd_Rope_edited := _, F_Rope_edited := F11, b_Rope_edited := b11,
      a_tree := _, fd_tree := _, F_tree := F12, b_tree := b12, g_tree := PySem.W.mg_of X G a12,
      a_balanced := _, fd_balanced := _, F_balanced := F13, b_balanced := b13, g_balanced := PySem.W.mg_of X G a13,
      a_Carry_init := _, fd_Carry_init := _, F_Carry_init := F14, b_Carry_init := b14,
      a_Carry___iter__ := _, fd_Carry___iter__ := _, F_Carry___iter__ := F15, b_Carry___iter__ := b15,
      a_Carry___add__ := _, fd_Carry___add__ := _, F_Carry___add__ := F16, b_Carry___add__ := b16,
      a_through := _, fd_through := _, F_through := F17, b_through := b17, g_through := PySem.W.mg_of X G a17,
      a_joined_runs := _, fd_joined_runs := _, F_joined_runs := F18, b_joined_runs := b18, g_joined_runs := PySem.W.mg_of X G a18,
      a_carry_of := _, fd_carry_of := _, F_carry_of := F19, b_carry_of := b19, g_carry_of := PySem.W.mg_of X G a19,
      a_carry_of_one := _, fd_carry_of_one := _, F_carry_of_one := F20, b_carry_of_one := b20, g_carry_of_one := PySem.W.mg_of X G a20,
      a_compact := _, fd_compact := _, F_compact := F21, b_compact := b21, g_compact := PySem.W.mg_of X G a21,
      a_law_reel := _, fd_law_reel := _, F_law_reel := F22, b_law_reel := b22, g_law_reel := PySem.W.mg_of X G a22,
      a_law_draw := _, fd_law_draw := _, F_law_draw := F23, b_law_draw := b23, g_law_draw := PySem.W.mg_of X G a23,
      a_law_pick := _, fd_law_pick := _, F_law_pick := F24, b_law_pick := b24, g_law_pick := PySem.W.mg_of X G a24,
      a_law_word := _, fd_law_word := _, F_law_word := F25, b_law_word := b25, g_law_word := PySem.W.mg_of X G a25,
      a_law_number := _, fd_law_number := _, F_law_number := F26, b_law_number := b26, g_law_number := PySem.W.mg_of X G a26,
      a_law_signs := _, fd_law_signs := _, F_law_signs := F27, b_law_signs := b27, g_law_signs := PySem.W.mg_of X G a27,
      a_law_stepped := _, fd_law_stepped := _, F_law_stepped := F28, b_law_stepped := b28, g_law_stepped := PySem.W.mg_of X G a28,
      a_law_text := _, fd_law_text := _, F_law_text := F29, b_law_text := b29, g_law_text := PySem.W.mg_of X G a29,
      a_law_new := _, fd_law_new := _, F_law_new := F30, b_law_new := b30, g_law_new := PySem.W.mg_of X G a30,
      a_law_edit_row := _, fd_law_edit_row := _, F_law_edit_row := F31, b_law_edit_row := b31, g_law_edit_row := PySem.W.mg_of X G a31,
      a_law_splice := _, fd_law_splice := _, F_law_splice := F32, b_law_splice := b32, g_law_splice := PySem.W.mg_of X G a32,
      a_law_tags := _, fd_law_tags := _, F_law_tags := F33, b_law_tags := b33, g_law_tags := PySem.W.mg_of X G a33,
      a_law_runs := _, fd_law_runs := _, F_law_runs := F34, b_law_runs := b34, g_law_runs := PySem.W.mg_of X G a34,
      a_law_ahead := _, fd_law_ahead := _, F_law_ahead := F35, b_law_ahead := b35, g_law_ahead := PySem.W.mg_of X G a35,
      a_law_same_edit := _, fd_law_same_edit := _, F_law_same_edit := F36, b_law_same_edit := b36, g_law_same_edit := PySem.W.mg_of X G a36,
      a_law_same_edits := _, fd_law_same_edits := _, F_law_same_edits := F37, b_law_same_edits := b37, g_law_same_edits := PySem.W.mg_of X G a37,
      a_law_carry_ok := _, fd_law_carry_ok := _, F_law_carry_ok := F38, b_law_carry_ok := b38, g_law_carry_ok := PySem.W.mg_of X G a38,
      a_law_gaps := _, fd_law_gaps := _, F_law_gaps := F39, b_law_gaps := b39, g_law_gaps := PySem.W.mg_of X G a39,
      a_law_back := _, fd_law_back := _, F_law_back := F40, b_law_back := b40, g_law_back := PySem.W.mg_of X G a40,
      a_law_rope_is := _, fd_law_rope_is := _, F_law_rope_is := F41, b_law_rope_is := b41, g_law_rope_is := PySem.W.mg_of X G a41,
      a_law_texts_ok := _, fd_law_texts_ok := _, F_law_texts_ok := F42, b_law_texts_ok := b42, g_law_texts_ok := PySem.W.mg_of X G a42,
      a_law_carries_ok := _, fd_law_carries_ok := _, F_law_carries_ok := F43, b_law_carries_ok := b43, g_law_carries_ok := PySem.W.mg_of X G a43,
      a_law_characters_ok := _, fd_law_characters_ok := _, F_law_characters_ok := F44, b_law_characters_ok := b44, g_law_characters_ok := PySem.W.mg_of X G a44,
      a_law := _, fd_law := _, F_law := F45, b_law := b45, g_law := PySem.W.mg_of X G a45,
      B_MendedError := ⟨bga_MendedError, brd_MendedError, bfi_MendedError⟩,
      E_EditError := errK_mk (PySem.W.mg_of X G g_EditError) xL_EditError (by rfl) sa_EditError ga_EditError gg_EditError a0 tI_EditError kC_EditError eC_EditError tC_EditError hd_EditError ha_EditError hn ht hm_EditError sC_EditError,
      n_EditError_index := n_EditError_index,
      CL_Rope := ⟨pg_Rope, hdo_Rope, po_Rope, sao_Rope⟩,
      MK_Rope := ⟨mkC_Rope, a6, if_Rope__init__, kcC_Rope⟩,
      IC_Rope := ⟨⟨pg_Rope, hdo_Rope, po_Rope, sao_Rope⟩, ha_Rope, hn, ht, hm_Rope, kit_refT sC_Rope iC_Rope tY_Rope⟩,
      NA_Rope_piece := na_Rope_piece,
      NA_Rope_left := na_Rope_left,
      NA_Rope_right := na_Rope_right,
      NA_Rope_size := na_Rope_size,
      NA_Rope_height := na_Rope_height,
      ME_Ropewhole := ⟨a8, if_Ropewhole, k8⟩,
      ME_Ropecut := ⟨a9, if_Ropecut, k9⟩,
      ME_Ropejoined := ⟨a10, if_Ropejoined, k10⟩,
      ME_Ropeedited := ⟨a11, if_Ropeedited, k11⟩,
      ST_Ropeof := ⟨sga_Rope, srd_Rope, ⟨_, _, ac7, a7⟩, k7⟩,
      CL_Carry := ⟨pg_Carry, hdo_Carry, po_Carry, sao_Carry⟩,
      MK_Carry := ⟨mkC_Carry, a14, if_Carry__init__, kcC_Carry⟩,
      IC_Carry := ⟨⟨pg_Carry, hdo_Carry, po_Carry, sao_Carry⟩, ha_Carry, hn, ht, hm_Carry, kit_refT sC_Carry iC_Carry tY_Carry⟩,
      NA_Carry_old := na_Carry_old,
      NA_Carry_new := na_Carry_new,
      NA_Carry_runs := na_Carry_runs,
      ME_Carry__add__ := ⟨a16, if_Carry__add__, k16⟩,
      SF_Carry := sf_Carry,
      IT_Carry := ⟨a15, if_Carry__iter__, nl_Carry, nh_Carry⟩,
      m_range := PySem.W.mg_none_of X G z0,
      m_min := PySem.W.mg_none_of X G z1,
      m_max := PySem.W.mg_none_of X G z2,
      m_len := PySem.W.mg_none_of X G z3,
      m_abs := PySem.W.mg_none_of X G z4,
      m_int := PySem.W.mg_none_of X G z5,
      m_sum := PySem.W.mg_none_of X G z6,
      m_isinstance := PySem.W.mg_none_of X G z7,
      m_bool := PySem.W.mg_none_of X G z8,
      m_list := PySem.W.mg_none_of X G z9,
      m_tuple := PySem.W.mg_none_of X G z10,
      m_str := PySem.W.mg_none_of X G z11,
      m_enumerate := PySem.W.mg_none_of X G z12,
      m_ValueError := PySem.W.mg_none_of X G z13,
      m_iter := PySem.W.mg_none_of X G z14,
      c_LONGEST := ⟨_, PySem.W.mg_of X G y0⟩ }
  exact ⟨PySem.W.fnOf "law" "law" (defArgs s_law) (defBody s_law) (defScope s_law) .none kV45 dc45 pm45 an45 cd45 ct45, fun s v => .of_eq rfl, fun base _ _ => ok_top T⟩
end M
open PySem PySem.W PyProof.Rows
set_option maxRecDepth 100000 in
set_option maxHeartbeats 0 in
theorem PySem.Challenge.cw_mendedtree_k65_whole_edits_holds : PySem.Challenge.rw_mendedtree_k65_whole_edits.Holds := by
  w_on; o_law; k_head; (case hw => w_witness2)
  k_fill
  refine L2.walk_of (l := PySem.Challenge.rw_mendedtree_k65_whole_edits) (n := 63) (k := 100) (x := "script") (CX := fun _ => L2.CX0) (sp := fun w => M.spLaw _) rfl (by decide) rfl ⟨rfl, by decide, by decide⟩ (fun w h Y => PySem.W.kIn_of Y) ?F (fun _ _ a ns hl _ hS => ⟨a, ns, rfl, hS, hl, fun _ => rfl⟩) (fun _ _ _ _ _ h => h)
  case F =>
    intro w mg fa h KX G hmg
    refine' M.all_mk KX G hmg ?g_MendedError ?g_EditError ?g_Rope ?g_Carry ?a0 ?l0 ?c0 ?k0 ?a1 ?l1 ?c1 ?k1 ?a2 ?l2 ?c2 ?k2 ?a3 ?l3 ?c3 ?k3 ?a4 ?l4 ?c4 ?k4 ?a5 ?l5 ?c5 ?k5 ?a6 ?l6 ?c6 ?k6 ?ac7 ?a7 ?l7 ?c7 ?k7 ?a8 ?l8 ?c8 ?k8 ?a9 ?l9 ?c9 ?k9 ?a10 ?l10 ?c10 ?k10 ?a11 ?l11 ?c11 ?k11 ?a12 ?l12 ?c12 ?k12 ?a13 ?l13 ?c13 ?k13 ?a14 ?l14 ?c14 ?k14 ?a15 ?l15 ?c15 ?k15 ?a16 ?l16 ?c16 ?k16 ?a17 ?l17 ?c17 ?k17 ?a18 ?l18 ?c18 ?k18 ?a19 ?l19 ?c19 ?k19 ?a20 ?l20 ?c20 ?k20 ?a21 ?l21 ?c21 ?k21 ?a22 ?l22 ?c22 ?k22 ?a23 ?l23 ?c23 ?k23 ?a24 ?l24 ?c24 ?k24 ?a25 ?l25 ?c25 ?k25 ?a26 ?l26 ?c26 ?k26 ?a27 ?l27 ?c27 ?k27 ?a28 ?l28 ?c28 ?k28 ?a29 ?l29 ?c29 ?k29 ?a30 ?l30 ?c30 ?k30 ?a31 ?l31 ?c31 ?k31 ?a32 ?l32 ?c32 ?k32 ?a33 ?l33 ?c33 ?k33 ?a34 ?l34 ?c34 ?k34 ?a35 ?l35 ?c35 ?k35 ?a36 ?l36 ?c36 ?k36 ?a37 ?l37 ?c37 ?k37 ?a38 ?l38 ?c38 ?k38 ?a39 ?l39 ?c39 ?k39 ?a40 ?l40 ?c40 ?k40 ?a41 ?l41 ?c41 ?k41 ?a42 ?l42 ?c42 ?k42 ?a43 ?l43 ?c43 ?k43 ?a44 ?l44 ?c44 ?k44 ?a45 ?l45 ?c45 ?k45 ?bga_MendedError ?brd_MendedError ?bfi_MendedError ?xL_EditError ?sa_EditError ?ga_EditError ?gg_EditError ?kC_EditError ?eC_EditError ?tC_EditError ?hd_EditError ?ha_EditError ?hm_EditError ?sC_EditError ?tI_EditError ?n_EditError_index ?hn ?ht ?pg_Rope ?hdo_Rope ?po_Rope ?sao_Rope ?mkC_Rope ?kcC_Rope ?ha_Rope ?hm_Rope ?sC_Rope ?iC_Rope ?tY_Rope ?na_Rope_piece ?na_Rope_left ?na_Rope_right ?na_Rope_size ?na_Rope_height ?if_Rope__init__ ?if_Ropewhole ?if_Ropecut ?if_Ropejoined ?if_Ropeedited ?sga_Rope ?srd_Rope ?pg_Carry ?hdo_Carry ?po_Carry ?sao_Carry ?mkC_Carry ?kcC_Carry ?ha_Carry ?hm_Carry ?sC_Carry ?iC_Carry ?tY_Carry ?na_Carry_old ?na_Carry_new ?na_Carry_runs ?if_Carry__init__ ?if_Carry__add__ ?if_Carry__iter__ ?sf_Carry ?nl_Carry ?nh_Carry ?z0 ?z1 ?z2 ?z3 ?z4 ?z5 ?z6 ?z7 ?z8 ?z9 ?z10 ?z11 ?z12 ?z13 ?z14 ?y0
    (case g_MendedError => k_is); (case g_EditError => k_is); (case g_Rope => k_is); (case g_Carry => k_is); (case a0 => k_is); (case l0 => k_is); (case c0 => k_is); (case k0 => k_is); (case a1 => k_is); (case l1 => k_is); (case c1 => k_is); (case k1 => k_is); (case a2 => k_is); (case l2 => k_is); (case c2 => k_is); (case k2 => k_is); (case a3 => k_is); (case l3 => k_is); (case c3 => k_is); (case k3 => k_is); (case a4 => k_is); (case l4 => k_is); (case c4 => k_is); (case k4 => k_is); (case a5 => k_is); (case l5 => k_is); (case c5 => k_is); (case k5 => k_is); (case a6 => k_is); (case l6 => k_is); (case c6 => k_is); (case k6 => k_is); (case ac7 => k_is); (case a7 => k_is); (case l7 => k_is); (case c7 => k_is); (case k7 => k_is); (case a8 => k_is); (case l8 => k_is); (case c8 => k_is); (case k8 => k_is); (case a9 => k_is); (case l9 => k_is); (case c9 => k_is); (case k9 => k_is); (case a10 => k_is); (case l10 => k_is); (case c10 => k_is); (case k10 => k_is); (case a11 => k_is); (case l11 => k_is); (case c11 => k_is); (case k11 => k_is); (case a12 => k_is); (case l12 => k_is); (case c12 => k_is); (case k12 => k_is); (case a13 => k_is); (case l13 => k_is); (case c13 => k_is); (case k13 => k_is); (case a14 => k_is); (case l14 => k_is); (case c14 => k_is); (case k14 => k_is); (case a15 => k_is); (case l15 => k_is); (case c15 => k_is); (case k15 => k_is); (case a16 => k_is); (case l16 => k_is); (case c16 => k_is); (case k16 => k_is); (case a17 => k_is); (case l17 => k_is); (case c17 => k_is); (case k17 => k_is); (case a18 => k_is); (case l18 => k_is); (case c18 => k_is); (case k18 => k_is); (case a19 => k_is); (case l19 => k_is); (case c19 => k_is); (case k19 => k_is); (case a20 => k_is); (case l20 => k_is); (case c20 => k_is); (case k20 => k_is); (case a21 => k_is); (case l21 => k_is); (case c21 => k_is); (case k21 => k_is); (case a22 => k_is); (case l22 => k_is); (case c22 => k_is); (case k22 => k_is); (case a23 => k_is); (case l23 => k_is); (case c23 => k_is); (case k23 => k_is); (case a24 => k_is); (case l24 => k_is); (case c24 => k_is); (case k24 => k_is); (case a25 => k_is); (case l25 => k_is); (case c25 => k_is); (case k25 => k_is); (case a26 => k_is); (case l26 => k_is); (case c26 => k_is); (case k26 => k_is); (case a27 => k_is); (case l27 => k_is); (case c27 => k_is); (case k27 => k_is); (case a28 => k_is); (case l28 => k_is); (case c28 => k_is); (case k28 => k_is); (case a29 => k_is); (case l29 => k_is); (case c29 => k_is); (case k29 => k_is); (case a30 => k_is); (case l30 => k_is); (case c30 => k_is); (case k30 => k_is); (case a31 => k_is); (case l31 => k_is); (case c31 => k_is); (case k31 => k_is); (case a32 => k_is); (case l32 => k_is); (case c32 => k_is); (case k32 => k_is); (case a33 => k_is); (case l33 => k_is); (case c33 => k_is); (case k33 => k_is); (case a34 => k_is); (case l34 => k_is); (case c34 => k_is); (case k34 => k_is); (case a35 => k_is); (case l35 => k_is); (case c35 => k_is); (case k35 => k_is); (case a36 => k_is); (case l36 => k_is); (case c36 => k_is); (case k36 => k_is); (case a37 => k_is); (case l37 => k_is); (case c37 => k_is); (case k37 => k_is); (case a38 => k_is); (case l38 => k_is); (case c38 => k_is); (case k38 => k_is); (case a39 => k_is); (case l39 => k_is); (case c39 => k_is); (case k39 => k_is); (case a40 => k_is); (case l40 => k_is); (case c40 => k_is); (case k40 => k_is); (case a41 => k_is); (case l41 => k_is); (case c41 => k_is); (case k41 => k_is); (case a42 => k_is); (case l42 => k_is); (case c42 => k_is); (case k42 => k_is); (case a43 => k_is); (case l43 => k_is); (case c43 => k_is); (case k43 => k_is); (case a44 => k_is); (case l44 => k_is); (case c44 => k_is); (case k44 => k_is); (case a45 => k_is); (case l45 => k_is); (case c45 => k_is); (case k45 => k_is); (case bga_MendedError => k_is); (case brd_MendedError => k_is); (case bfi_MendedError => k_is); (case xL_EditError => k_is); (case sa_EditError => k_is); (case ga_EditError => k_is); (case gg_EditError => k_is); (case kC_EditError => k_is); (case eC_EditError => k_is); (case tC_EditError => k_is); (case hd_EditError => k_is); (case ha_EditError => k_is); (case hm_EditError => k_is); (case sC_EditError => k_is); (case tI_EditError => k_is); (case n_EditError_index => k_is); (case hn => k_is); (case ht => k_is); (case pg_Rope => k_is); (case hdo_Rope => k_is); (case po_Rope => k_is); (case sao_Rope => k_is); (case mkC_Rope => k_is); (case kcC_Rope => k_is); (case ha_Rope => k_is); (case hm_Rope => k_is); (case sC_Rope => k_is); (case iC_Rope => k_is); (case tY_Rope => k_is); (case na_Rope_piece => k_is); (case na_Rope_left => k_is); (case na_Rope_right => k_is); (case na_Rope_size => k_is); (case na_Rope_height => k_is); (case if_Rope__init__ => k_is); (case if_Ropewhole => k_is); (case if_Ropecut => k_is); (case if_Ropejoined => k_is); (case if_Ropeedited => k_is); (case sga_Rope => k_is); (case srd_Rope => k_is); (case pg_Carry => k_is); (case hdo_Carry => k_is); (case po_Carry => k_is); (case sao_Carry => k_is); (case mkC_Carry => k_is); (case kcC_Carry => k_is); (case ha_Carry => k_is); (case hm_Carry => k_is); (case sC_Carry => k_is); (case iC_Carry => k_is); (case tY_Carry => k_is); (case na_Carry_old => k_is); (case na_Carry_new => k_is); (case na_Carry_runs => k_is); (case if_Carry__init__ => k_is); (case if_Carry__add__ => k_is); (case if_Carry__iter__ => k_is); (case sf_Carry => k_is); (case nl_Carry => k_is); (case nh_Carry => k_is); (case z0 => k_is); (case z1 => k_is); (case z2 => k_is); (case z3 => k_is); (case z4 => k_is); (case z5 => k_is); (case z6 => k_is); (case z7 => k_is); (case z8 => k_is); (case z9 => k_is); (case z10 => k_is); (case z11 => k_is); (case z12 => k_is); (case z13 => k_is); (case z14 => k_is); (case y0 => k_is)
