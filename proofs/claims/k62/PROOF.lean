import PyProof.Rows.All
import PySem.Challenge.RW_mendedtree_k62_rope_text
import HandS.ForMost
import HandS.ForExc
import HandS.IsInst
import HandS.Codes
import HandS.FStr
import HandS.FStrTup
import HandS.ExcInit
import HandS.ExcIs
import HandS.ExcField
import HandS.ClsMeth
import HandS.ExcValue
import HandS.Style
import HandS.ClsMeth
import KE.KOpsOwn
import HandS.Walk
import HandS.More
set_option Elab.async false
set_option linter.all false
set_option maxRecDepth 100000
set_option maxHeartbeats 4000000
namespace L2
open PySem PySem.Spec PyProof.Rows
/-- what the written part says of an own base class whose __init__ is ValueError's -/
structure BaseC (K : PySem.W.Frag) (C0 : Addr) : Prop where
  ga : PySem.W.specialIn K (.ref C0) "__getattribute__" = some (some (.builtin "type.__getattribute__"))
  rd : PySem.W.readsIn K C0 (.type "type") = true
  fi : PySem.W.findCls K (.ref C0) (.type "type") "__init__" = some (.val (.builtin "ValueError.__init__"))
section
variable {X : Cx} {e : Expr} {es : List Expr} {ta : TA} {p1 p2 pos : Pos} {x : Str} {C0 : Addr}
/-- Base.__init__(self, ..), Base an own class over ValueError without an __init__ of its own -/
theorem pe_baseInit {later : Sem Bool} (hg : Gl X x) (hm : X.mg x = some (.ref C0)) (B : BaseC X.K C0) (ha : PA X (e :: es) ta) (hdb : (x == ("__debug__" : Str)) = false := by decide)
    (told : eval (.Call (.Attribute (.Name x p1) "__init__" p2) (e :: es) [] pos) X.env = (do
      let cls ← eval (.Name x p1) X.env
      standAt p2.atName
      let (m, bound) ← holding [cls] (getMethod cls "__init__" later)
      callWith pos m bound (backTo pos (starEach (e :: es) X.env)) (backToKw pos (keywordEach [] X.env))) := by rfl)
    (one : starEach (e :: es) X.env = (false, eval e X.env) :: starEach es X.env := by rfl) (plain : (backTo pos (starEach es X.env)).any (·.1) = false := by rfl) :
    PE X (.Call (.Attribute (.Name x p1) "__init__" p2) (e :: es) [] pos) (tVeI X.K ta) := by
  constructor
  intro pins s σ H Q I h
  refine PySem.W.methodCall_KW (ld_glob I hg hm (PySem.W.method_cls I.kIn B.ga (PySem.W.cls_value I.kIn B.rd B.fi rfl ?_)) hdb) told
  refine PyProof.Rows.callWith_method1 (id := "ValueError.__init__") (thn (ha.run pos pins _ σ H _ (I.tok _) h) ?_) one plain
  rintro us s1 ⟨vs, H1, I1, r1, a, C, ws, rfl, few, T, here, q⟩
  cases r1 with
  | @cons _ u _ us' ra rw' =>
    have eu : u = Value.ref a := ra
    subst eu
    have n : us'.length ≤ sizeLine := by
      have := Paired.length rw'
      rw [sizeLine_eq]
      omega
    exact oinit_ok T I1 here n fun s2 I2 => ⟨.non, H1, I2, rfl, q⟩
end
end L2

namespace PySem.W
open PySem PySem.Spec PySem.Calls PyProof.Rows
section
variable {prog : Program} {w : World} {A : Around} {E : Value → Shared → Prop} {K : Frag} {D : Addr}
/-- what BaseException's reading of __class__ gives, asked of an error with or without a dict -/
theorem bexc_class {x : Addr} {ox : Obj} {od : Option Obj} {s : Shared} {tk : Tok} {R : Value → Shared → Prop} (C : L2.ExcC K D) (X : K.In s.heap) (I : InstAt s.heap x ox D od) (q : R (.ref D) s)
    (hf : findObj K D od "__class__" = some (.bind (.builtin "getset_descriptor.__get__") (.builtin "object.__class__"))) :
    wpAny (model prog w) A (call (.builtin "BaseException.__getattribute__") [.ref x, .str "__class__" tk]) R E s := by
  have ty := I.type (M := model prog w)
  have isExc : Looks (model prog w) s.heap (isInstance (.ref x) (.type "BaseException")) true := ty.andThen (looks_subIn X C.hs)
  refine wpAny_call (codeAny_call_builtin PySem.F.excAttr_ValueError.ga.plain PySem.F.entry_bexc_ga (@check_slot (model prog w) _ _ s "BaseException.__getattribute__" "BaseException" "__getattribute__" (.ref x) [.str "__class__" tk] [] _ (by decide +kernel) (by decide +kernel) isExc (PySem.F.args_bexc_ga (.ref x) (.str "__class__" tk)) ?_))
  unfold Builtin.«object.__getattribute__»
  refine wpAny_bind (wpAny_of_eq (a := ((Value.ref x : Value), [Value.str "__class__" tk])) (by first | rfl | (simp only [slotArgs]; rfl)) (wpAny_bind (wpAny_pure (wpAny_bind (ty.at (wpAny_bind ((looks_find (M := model prog w) X I hf).at ?_)))))))
  exact wpAny_bind (wpAny_holding (wpAny_call (class_get (ox := ox) (od := od) X I C.hm (wpAny_pure (by first | exact wpAny_pure q | exact q)))))
theorem if_no {b : Bool} {m n : Sem Value} {R : Value → Shared → Prop} {F : Value → Shared → Prop} {u : Shared} (e : b = false) (k : wpAny (model prog w) A n R F u) : wpAny (model prog w) A (if b = true then m else n) R F u := by
  subst e
  exact k
theorem class_of_err {x : Addr} {ox od : Obj} {s : Shared} {Q : Option Value → Shared → Prop} (C : L2.ExcC K D) (X : K.In s.heap) (I : InstAt s.heap x ox D (some od)) (q : Q (some (.ref D)) { s with toks := s.toks + 1 }) :
    wpAny (model prog w) A (getAttr? (.ref x) "__class__") Q E s := by
  have some_cls : (clsIn K D).isSome = true := by
    obtain ⟨c, e, _⟩ := any_some C.hd
    rw [e] <;> rfl
  have found := findObj_data (od := od) some_cls C.ha C.hn C.ht
  have other : (Value.builtin "BaseException.__getattribute__" == Value.builtin "object.__getattribute__") = false := by decide +kernel
  obtain ⟨hp, g, d, t, os⟩ := s
  have ty := I.type (M := model prog w)
  unfold getAttr? getAttrBy? getAttrBy
  refine wpAny_bind (wpAny_mkText (wpAny_bind (wpAny_attempt (wpAny_holding (wpAny_bind (ty.at (wpAny_bind ((looks_findIn (M := model prog w) X C.hg).at ?_))))))))
  refine if_no (by rw [other]; rfl) ?_
  unfold getAttrByItsOwn hookBefore
  refine wpAny_bind ?_
  rw [if_pos (by rfl : onTheHeap (Value.ref D) = true)]
  refine (looks_findIn (M := model prog w) X C.hk).at (wpAny_bind (wpAny_attempt (wpAny_holding ?_)))
  unfold callGetattribute
  refine if_no (by rfl) ?_
  unfold boundAndCalled
  rw [PySem.F.excAttr_ValueError.ga.bind (.ref x)]
  refine wpAny_bind (wpAny_pure (bexc_class C X I ?_ found))
  first
    | exact wpAny_pure (wpAny_pure q)
    | exact wpAny_bind (wpAny_pure (wpAny_pure q))
    | exact wpAny_pure q
    | exact wpAny_pure (wpAny_bind (wpAny_pure (wpAny_pure q)))
/-- isinstance of an error that has a dict -/
theorem own_kitx {x : Addr} {ox : Obj} (C : L2.ExcC K D) : KitX K (.ref x) (.ref D) (fun h => ∃ od, InstAt h x ox D (some od)) :=
  { ty := fun _ _ _ ⟨_, I⟩ => I.type
    it := fun M h X _ A' Q' E' s' k q => (mc_isType (s := s') (fun b o e => k b o (X b o e)) C.hd).at q
    ne := (handS_kitx_exc (x := x) (ox := ox) C.hg C.hk C.hs C.hd C.ha C.hn C.ht C.hm).ne
    ca := fun X ⟨_, I⟩ q => class_of_err C X I q }
end
end PySem.W
namespace L2
open PySem PySem.Spec PyProof.Rows
section
variable {X : Cx} {a D dd : Addr} {oe : Obj} {pn : List (Addr × Obj)}
theorem suite_inst {pins : List (Addr × Obj)} {σ : L2.St} {H : Hp} {s : Shared} {fs : List (Str × V)} (I : Inv (X.suite a ((a, oe) :: pn)) pins σ H s) (hz : Zc (.ref D) (some dd) oe) (hf : ∃ vs, oe.data = .fields vs) (hx : H dd = some (.xd fs)) :
    ∃ od, PySem.W.InstAt s.heap a oe D (some od) := by
  have here := (I.pin (a, oe) (by simp [Cx.suite])).1
  obtain ⟨vs, hv⟩ := hf
  have hdx : ObjOk X.prog X.w H s.heap dd (.xd fs) := I.hok dd _ hx
  obtain ⟨m, names, _⟩ := hdx
  obtain ⟨o, ho, _⟩ := lookIn_ns names
  refine ⟨o, here, hz.1, ?_, by rw [hz.2]; exact ho⟩
  unfold PySem.W.notCls
  rw [hv] <;> rfl
/-- isinstance(e, c), e the exception that the suite holds, with its dict at dd -/
def rIsD (K : PySem.W.Frag) (D a dd : Addr) : List V → Hp → VK → Prop := fun xs H Q => ∃ (c : V) (cv : Value) (b : Bool) (fs : List (Str × V)), xs = [.ref a, c] ∧ ClsV c cv ∧ H dd = some (.xd fs) ∧ PySem.W.kitOne K (.ref D) cv = some b ∧ Q (.bl b) H
theorem call_isD (C : ExcC X.K D) (hz : Zc (.ref D) (some dd) oe) (hf : ∃ vs, oe.data = .fields vs) : CallR (X.suite a ((a, oe) :: pn)) (.builtin "isinstance") (rIsD X.K D a dd) := by
  rintro pins s σ H xs us Q I r ⟨c, cv, b, fs, rfl, hcv, hx, e, q⟩
  obtain ⟨w1, w2, rfl, p1, p2⟩ := vals2 r
  have e1 : w1 = Value.ref a := p1
  have e2 := hcv.eq p2
  subst e1 e2
  exact PySem.W.kia_one (PySem.W.own_kitx C) I.kIn (suite_inst I hz hf hx) e nofun fun tk => ⟨.bl b, H, I.kept (t' := tk) fun _ _ z => z, rfl, q⟩
/-- isinstance(e, (c1, c2, ..)) -/
def rIsDT (K : PySem.W.Frag) (D a dd : Addr) : List V → Hp → VK → Prop := fun xs H Q => ∃ (tp : Addr) (cs : List V) (us : List Value) (b : Bool) (fs : List (Str × V)), xs = [.ref a, .ref tp] ∧ H tp = some (.tup cs) ∧ Paired ClsV cs us ∧ H dd = some (.xd fs) ∧ PySem.W.kitAny K (.ref D) us = some b ∧ Q (.bl b) H
theorem call_isDT (C : ExcC X.K D) (hz : Zc (.ref D) (some dd) oe) (hf : ∃ vs, oe.data = .fields vs) : CallR (X.suite a ((a, oe) :: pn)) (.builtin "isinstance") (rIsDT X.K D a dd) := by
  rintro pins s σ H xs us Q I r ⟨tp, cs, ws, b, fs, rfl, hT, k, hx, e, q⟩
  obtain ⟨w1, w2, rfl, p1, p2⟩ := vals2 r
  have e1 : w1 = Value.ref a := p1
  have e2 : w2 = Value.ref tp := p2
  subst e1 e2
  have hok : ObjOk X.prog X.w H s.heap tp (.tup cs) := I.hok tp _ hT
  obtain ⟨_, its, rv, ⟨oc, od, dt, sl⟩, g1, g2, n, g3⟩ := hok
  have e3 := ClsV.all k rv
  dsimp only at g2 g3
  subst e3 g2 g3
  exact PySem.W.kia_tup (PySem.W.own_kitx C) I.kIn (suite_inst I hz hf hx) g1 e nofun fun tk => ⟨.bl b, H, I.kept (t' := tk) fun _ _ z => z, rfl, q⟩
end
end L2

namespace L2
open PySem PySem.Spec PyProof.Rows
/-- an own error class (name) at C, with an __init__ of its own at fI -/
structure ErrK (K : PySem.W.Frag) (mg : Str → Option Value) (name : Str) (C fI : Addr) : Prop where
  g : mg name = some (.ref C)
  oex : OexC K C
  iC : PySem.W.findIn K (.ref C) "__init__" = some (some (.ref fI))
  tI : PySem.W.typeIn K (.ref fI) = some (.type "function")
  exc : ExcC K C
  xf : XfC K C
  self : PySem.W.exmOne K (.ref C) (.ref C) = some true
theorem errK_mk {K : PySem.W.Frag} {mg : Str → Option Value} {name : Str} {C fI : Addr}
    {nm q : Str} {N : Addr} {bs bm : List Value} {sn : List Str} {sub : List Value} {ab : Bool} {col : Option Bool} {dd : Option Addr} {m0 m1 m2 m3 m5 : Option Value}
    (g : mg name = some (.ref C)) (xL : K.lookup C = some (excClassObj nm q C N bs bm true sn sub ab col dd m0 m1 m2 m3 m5 "ValueError.__new__")) (hbm : PySem.HandSPX.refsVE bm = true)
    (sa : PySem.W.findIn K (.ref C) "__setattr__" = some (some (.builtin "object.__setattr__"))) (ga : PySem.W.findIn K (.ref C) "__getattribute__" = some (some (.builtin "BaseException.__getattribute__"))) (gg : PySem.W.findIn K (.ref C) "__getattr__" = some none)
    (iC : PySem.W.findIn K (.ref C) "__init__" = some (some (.ref fI))) (tI : PySem.W.typeIn K (.ref fI) = some (.type "function")) (kC : PySem.W.keepIn K (.ref C) = true) (eC : PySem.W.subIn K (.ref C) (.type "BaseException") = some true) (tC : PySem.W.typeIn K (.ref C) = some (.type "type"))
    (hd : PySem.W.hasDictIn K C = true) (ha : PySem.W.findIn K (.ref C) "__class__" = some (some (.builtin "object.__class__"))) (hn : PySem.W.specialIn K (.builtin "object.__class__") "__get__" = some (some (.builtin "getset_descriptor.__get__")))
    (ht : PySem.W.takesIn K (.builtin "object.__class__") = some true) (hm : PySem.W.mroIn K C (.type "object") = some true) (sC : PySem.W.subIn K (.ref C) (.ref C) = some true) : ErrK K mg name C fI :=
  { g := g, oex := ⟨⟨nm, q, N, bs, bm, sn, sub, ab, col, dd, m0, m1, m2, m3, m5, xL, hbm⟩, sa, eC, tC, kC⟩, iC := iC, tI := tI, exc := ⟨ga, gg, eC, hd, ha, hn, ht, hm⟩, xf := ⟨ga, gg, eC, hd⟩, self := PySem.W.exm_ref eC hd tC sC }
/-- what making such an error with one field leaves: an error whose dict holds the field, all else as it was -/
def spInit1 (f : Str) (C : Addr) (ok : V → Prop) : Sp := fun vs H Q _ => ∃ (a : Addr) (v : V), vs = [.ref a, v] ∧ ok v ∧ H a = some (exo a C none) ∧ ∀ dx, H dx = none → dx ≠ a → Q .non (upd (upd H dx (exd dx [(f, v)])) a (exo a C (some dx)))
theorem made1 {H : Hp} {a dx C : Addr} {f : Str} {v : V} {fs : List (Str × V)} (na : H a = none) (nd : (upd H a (exo a C none)) dx = none) (hne : dx ≠ a) :
    H dx = none ∧ Same H (upd (del (upd (upd (upd H a (exo a C none)) dx (exd dx fs)) a (exo a C (some dx))) a) dx (.xd fs)) ∧ (upd (del (upd (upd (upd H a (exo a C none)) dx (exd dx fs)) a (exo a C (some dx))) a) dx (.xd fs)) dx = some (.xd fs) := by
  have nd' : H dx = none := by
    rw [upd_ne hne] at nd
    exact nd
  refine ⟨nd', fun b o e => ?_, upd_same⟩
  have h1 : b ≠ dx := ne_of_none e nd'
  have h2 : b ≠ a := ne_of_none e na
  rw [upd_ne h1, del_ne h2, upd_ne h2, upd_ne h1, upd_ne h2]
  exact e
/-- the reading of C(e), from such a promise of __init__ -/
theorem mk1 {C : Addr} {f : Str} {ok : V → Prop} {ta : TA} {σ : L2.St} {H : Hp} {Q : XK} (h : ta σ H fun vs H1 => ∃ v, vs = [v] ∧ ok v ∧ ∀ d H', Same H1 H' → H1 d = none → H' d = some (.xd [(f, v)]) → Q (.ref C) (some d) H')
    (mono : ∀ Q1 Q2 : List V → Hp → Prop, (∀ vs H1, Q1 vs H1 → Q2 vs H1) → ta σ H Q1 → ta σ H Q2) : tMkO C (spInit1 f C ok) [] ta σ H Q := by
  refine mono _ _ (fun vs H1 h1 => ?_) h
  obtain ⟨v, rfl, hv, q⟩ := h1
  refine ⟨by show 1 ≤ 1000; decide, fun a na => ⟨a, v, rfl, hv, upd_same, fun dx nd hne => ⟨rfl, dx, [(f, v)], upd_same, ?_, ?_, ?_⟩⟩⟩
  · rw [upd_ne hne, upd_same]
  · exact (made1 (f := f) (v := v) (fs := [(f, v)]) na nd hne).1
  · obtain ⟨m1, m2, m3⟩ := made1 (f := f) (v := v) (fs := [(f, v)]) na nd hne
    exact q dx _ m2 m1 m3
end L2
namespace L2
open PySem PySem.Spec PyProof.Rows
theorem kit_refT {K : PySem.W.Frag} {C D : Addr} (h : PySem.W.subIn K (.ref C) (.ref D) = some true) (i : PySem.W.isClsIn K D = true) (t : PySem.W.typeIn K (.ref D) = some (.type "type")) : PySem.W.kitOne K (.ref C) (.ref D) = some true := by
  unfold PySem.W.kitOne
  split
  · rfl
  · show (if ((PySem.W.clsIn K D).isSome && PySem.W.typeIn K (.ref D) == some (.type "type")) = true then PySem.W.subIn K (.ref C) (.ref D) else none) = some true
    have i' : (PySem.W.clsIn K D).isSome = true := i
    rw [i', t, h]
    rfl
theorem kit_refF {K : PySem.W.Frag} {C D : Addr} (h0 : PySem.W.subIn K (.ref C) (.ref C) = some true) (h : PySem.W.subIn K (.ref C) (.ref D) = some false) (i : PySem.W.isClsIn K D = true) (t : PySem.W.typeIn K (.ref D) = some (.type "type")) : PySem.W.kitOne K (.ref C) (.ref D) = some false := by
  have hne : (Value.ref C == Value.ref D) = false := by
    rw [beq_eq_false_iff_ne]
    intro e
    have e' : C = D := Value.ref.inj e
    rw [← e', h0] at h
    cases h
  unfold PySem.W.kitOne
  rw [hne]
  show (if ((PySem.W.clsIn K D).isSome && PySem.W.typeIn K (.ref D) == some (.type "type")) = true then PySem.W.subIn K (.ref C) (.ref D) else none) = some false
  have i' : (PySem.W.clsIn K D).isSome = true := i
  rw [i', t, h]
  rfl
theorem kit_refTy {K : PySem.W.Frag} {C : Addr} {T : String} {b : Bool} (h : PySem.W.subIn K (.ref C) (.type T) = some b) (m : PySem.W.kitMeta T = true) : PySem.W.kitOne K (.ref C) (.type T) = some b := by
  unfold PySem.W.kitOne
  have hne : (Value.ref C == Value.type T) = false := by
    rw [beq_eq_false_iff_ne]
    intro e
    cases e
  rw [hne]
  show (if PySem.W.kitMeta T = true then PySem.W.subIn K (.ref C) (.type T) else none) = some b
  rw [if_pos m, h]
end L2

namespace L2
open PySem PySem.Spec PyProof.Rows
theorem passX0 {P : Program} {w : World} {X : Cx} (e1 : X.prog = P) (e2 : X.w = w) : Passes (L2.CX P w) X E0 := fun _ _ _ _ _ _ _ c => by
  obtain ⟨_, _, _, _, _, _, _, _, _, _, _, _, z⟩ := c
  exact z.elim
section
variable {X : Cx} {a : Addr} {oe : Obj} {pn : List (Addr × Obj)} {cls : Value} {d : Option Addr}
/-- isinstance(e, c) in the suite that holds e -/
def rIsX (K : PySem.W.Frag) (a : Addr) (cls : Value) (d : Option Addr) : List V → Hp → VK → Prop := fun xs H Q => ∃ (D dd : Addr), cls = .ref D ∧ d = some dd ∧ ExcC K D ∧ rIsD K D a dd xs H Q
theorem call_isX (hz : Zc cls d oe) (hf : ∃ vs, oe.data = .fields vs) : CallR (X.suite a ((a, oe) :: pn)) (.builtin "isinstance") (rIsX X.K a cls d) := by
  rintro pins s σ H xs us Q I r ⟨D, dd, rfl, rfl, C, h⟩
  exact call_isD C hz hf pins s σ H xs us Q I r h
/-- isinstance(e, (c1, ..)) -/
def rIsXT (K : PySem.W.Frag) (a : Addr) (cls : Value) (d : Option Addr) : List V → Hp → VK → Prop := fun xs H Q => ∃ (D dd : Addr), cls = .ref D ∧ d = some dd ∧ ExcC K D ∧ rIsDT K D a dd xs H Q
theorem call_isXT (hz : Zc cls d oe) (hf : ∃ vs, oe.data = .fields vs) : CallR (X.suite a ((a, oe) :: pn)) (.builtin "isinstance") (rIsXT X.K a cls d) := by
  rintro pins s σ H xs us Q I r ⟨D, dd, rfl, rfl, C, h⟩
  exact call_isDT C hz hf pins s σ H xs us Q I r h
end
end L2

namespace L2
open PySem PySem.Spec PyProof.Rows
/-- an error object of the own class at C, held as a value, its dict at d -/
def erv (a C : Addr) (d : Option Addr) : HO := .ext fun hp => ∃ (oe : Obj) (vs : Array Value), hp.get? a = some oe ∧ Zc (.ref C) d oe ∧ oe.data = .fields vs
section
variable {X : Cx} {pins : List (Addr × Obj)} {σ : L2.St} {H : Hp} {s : Shared} {a C dd : Addr} {fs : List (Str × V)}
theorem erv_ok {P : Program} {w : World} {hp : Heap} {d : Option Addr} {oe : Obj} {vs : Array Value} (h1 : hp.get? a = some oe) (h2 : Zc (.ref C) d oe) (h3 : oe.data = .fields vs) : ObjOk P w H hp a (erv a C d) :=
  ⟨⟨oe, vs, h1, h2, h3⟩, ⟨oe, h1⟩, fun _ _ ⟨o1, v1, k1, k2, k3⟩ more => ⟨o1, v1, more _ k1, k2, k3⟩⟩
/-- what makes an error also gives it as a value -/
theorem pe_ofMk {e : Expr} {t : L2.St → Hp → XK → Prop} (h : PMk X e t) :
    PE X e (fun σ H Q => t σ H fun cls d H1 => ∃ C, cls = .ref C ∧ ∀ a, H1 a = none → Q (.ref a) (upd H1 a (erv a C d))) := by
  constructor
  intro pins s σ H Q I hw
  refine thn (h pins s σ H _ I hw) ?_
  rintro u s1 ⟨a, oe, vs, sI, H1, cls, d, eu, I1, kp, n1, ho, hz, hd, _, n2, os, bare, _, C, ec, q⟩
  subst eu
  subst ec
  refine ⟨.ref a, upd H1 a (erv a C d), ?_, rfl, q a n2⟩
  exact I1.call' (ch := []) os (Un.laidN kp n1 n2) (I1.hok.laidN kp n2 (erv_ok ho hz hd)) bare (by simp)
/-- where the error and its dict stand -/
theorem erv_inst (I : Inv X pins σ H s) (ha : H a = some (erv a C (some dd))) (hx : H dd = some (.xd fs)) :
    ∃ (oe : Obj) (m : Str → Option Value) (od : Option Obj), PySem.W.InstAt s.heap a oe C od ∧ (∃ o, od = some o) ∧ (∀ n, PySem.W.lookIn n (od.getD oe) = some (m n)) ∧ ∀ f, RelO (fs.lookup f) (m f) := by
  have k1 : ObjOk X.prog X.w H s.heap a (.ext fun hp => ∃ (oe : Obj) (vs : Array Value), hp.get? a = some oe ∧ Zc (.ref C) (some dd) oe ∧ oe.data = .fields vs) := I.hok a _ ha
  obtain ⟨⟨oe, vs, g1, g2, g3⟩, _⟩ := k1
  have k2 : ObjOk X.prog X.w H s.heap dd (.xd fs) := I.hok dd _ hx
  obtain ⟨m, k3, k4⟩ := k2
  obtain ⟨o, k5, k6⟩ := lookIn_ns k3
  refine ⟨oe, m, some o, ⟨g1, g2.1, ?_, ?_⟩, ⟨o, rfl⟩, k6, k4⟩
  · unfold PySem.W.notCls
    rw [g3] <;> rfl
  · rw [g2.2]
    exact k5
/-- isinstance(x, c), x an error that is held as a value -/
def rIsV (K : PySem.W.Frag) : List V → Hp → VK → Prop := fun xs H Q => ∃ (a C dd : Addr) (fs : List (Str × V)) (c : V) (cv : Value) (b : Bool), xs = [.ref a, c] ∧ H a = some (erv a C (some dd)) ∧ H dd = some (.xd fs) ∧ ExcC K C ∧ ClsV c cv ∧ PySem.W.kitOne K (.ref C) cv = some b ∧ Q (.bl b) H
theorem call_isV : CallR X (.builtin "isinstance") (rIsV X.K) := by
  rintro pins s σ H xs us Q I r ⟨a, C, dd, fs, c, cv, b, rfl, ha, hx, T, hcv, e, q⟩
  obtain ⟨w1, w2, rfl, p1, p2⟩ := vals2 r
  have e1 : w1 = Value.ref a := p1
  have e2 := hcv.eq p2
  subst e1 e2
  obtain ⟨oe, m, od, J, ⟨o, eo⟩, _⟩ := erv_inst I ha hx
  subst eo
  exact PySem.W.kia_one (PySem.W.own_kitx T) I.kIn ⟨o, J⟩ e nofun fun tk => ⟨.bl b, H, I.kept (t' := tk) fun _ _ z => z, rfl, q⟩
/-- x.f, x an error that is held as a value -/
def tFxE (K : PySem.W.Frag) (f : Str) (te : TE) : TE := fun σ H Q => te σ H fun x H1 => ∃ (a C dd : Addr) (fs : List (Str × V)) (v : V), x = .ref a ∧ XfC K C ∧ PySem.W.findIn K (.ref C) f = some none ∧ H1 a = some (erv a C (some dd)) ∧ H1 dd = some (.xd fs) ∧ fs.lookup f = some v ∧ Q v H1
theorem pe_fxE {e : Expr} {te : TE} {pos : Pos} {n : Str} (he : PE X e te) (hb : attributeBase e n X.env (eval e X.env) = eval e X.env := by rfl) : PE X (.Attribute e n pos) (tFxE X.K n te) := by
  constructor
  intro pins s σ H Q I h
  refine attr_of hb (thn (he.run pins s σ H _ I h) ?_)
  rintro y s1 ⟨x, H1, I1, rx, a, C, dd, fs, v, ex, T, hno, ha, hx, l, q⟩
  subst ex
  have ey : y = Value.ref a := rx
  subst ey
  obtain ⟨oe, m, od, J, ⟨o, eo⟩, k1, k2⟩ := erv_inst I1 ha hx
  subst eo
  have k3 := k2 n
  rw [l] at k3
  obtain ⟨val, k4, k5⟩ := RelO.some_of k3
  have k6 : PySem.W.lookIn n o = some (some val) := by
    rw [← k4]
    exact k1 n
  exact HandSPX.exc_get I1.kIn J T.ga T.gg T.exC (PySem.W.findObj_own T.hdC hno rfl k6) (handed_of k5) ⟨v, H1, I1.tok _, k5, q⟩
end
end L2

namespace L2
open PySem PySem.Spec PyProof.Rows
/-- a flat item as repr tells it -/
def sText : V → Str
  | .int i => toString i
  | .str y => reprText y
  | _ => Str.empty
def sOk : V → Prop
  | .int i => i.natAbs.log2 < 1920
  | .str y => ∀ c ∈ y.cps.toList, c < 16 ^ 8
  | _ => False
def sCost : V → Nat
  | .int _ => 1925
  | .str y => 10 * y.length + 4
  | _ => 0
theorem sText_len {v : V} (h : sOk v) : (sText v).length + 2 ≤ sCost v := by
  cases v with
  | int i =>
    have := PyProof.Rows.int_text_len_1921 (i := i) h
    show (Str.ofString (toString i)).length + 2 ≤ 1925
    omega
  | str y =>
    have := StrLaws.reprText_len y h
    show (reprText y).length + 2 ≤ 10 * y.length + 4
    omega
  | _ => exact False.elim h
def sCosts (l : List V) : Nat := (l.map sCost).sum
theorem sCosts_cons (v : V) (l : List V) : sCosts (v :: l) = sCost v + sCosts l := by
  unfold sCosts
  rw [List.map_cons, List.sum_cons]
theorem s_piled : ∀ l : List V, (∀ v ∈ l, sOk v) → piled (l.map sText) ≤ sCosts l
  | [], _ => Nat.zero_le _
  | v :: l, h => by
    have h1 := sText_len (h v List.mem_cons_self)
    have h2 := s_piled l fun x hx => h x (List.mem_cons_of_mem _ hx)
    rw [List.map_cons, piled_cons, sCosts_cons]
    omega
theorem repr_allS {prog : Program} {w : World} : ∀ {l : List V} {its : List Value}, Vals l its → (∀ v ∈ l, sOk v) → sCosts l ≤ sizeLine → ReprAll prog w its (l.map sText)
  | [], _, r, _, _ => by
    cases r
    exact .nil
  | v :: l, _, r, h, hz => by
    cases r with
    | @cons _ u _ us r1 r2 =>
      have h1 := h v List.mem_cons_self
      have hl := sText_len h1
      rw [sCosts_cons] at hz
      have k : ReprIs prog w u (sText v) := by
        cases v with
        | int i =>
          obtain ⟨t, rfl⟩ := r1
          exact ReprIs.int t h1
        | str y =>
          obtain ⟨t, rfl⟩ := r1
          exact ReprIs.str y t (by have : (reprText y).length + 2 ≤ sCost (.str y) := hl; omega)
        | _ => exact False.elim h1
      exact .cons k (repr_allS r2 (fun x hx => h x (List.mem_cons_of_mem _ hx)) (by omega))
section
variable {X : Cx}
/-- {t}, t a tuple of ints and texts: some text -/
def tFmtS (K : PySem.W.Frag) (te : TE) : TE := fun σ H Q => te σ H fun x H1 => ∃ (a : Addr) (l : List V), x = .ref a ∧ SqT K H1 a l ∧ (∀ v ∈ l, sOk v) ∧ sCosts l + 7 ≤ sizeLine ∧ ∀ m : Str, m.length ≤ sCosts l + 7 → Q (.str m) H1
theorem pe_fmtS {e : Expr} {te : TE} {pos : Pos} {k : Nat} (hr : Room k X.A) (he : PE X e te) : PE X (.FormattedValue e (-1) none pos) (tFmtS X.K te) := by
  refine ⟨fun pins s σ H Q I h => ?_⟩
  refine wpAny_FormattedValue_plain (thn (he.run pins s σ H _ I h) fun v s1 hv => ?_)
  obtain ⟨x, H1, I1, r1, a, l, rfl, ht, hc, hz, q⟩ := hv
  cases r1
  obtain ⟨its, rv, ⟨o, ho, hcl, n, hd⟩, _⟩ := I1.tuple ht
  have hp := s_piled l hc
  have htx := fmt_text (l.map sText)
  have hu := hr.units
  exact fmt_tuple (ts := l.map sText) (by omega) ho hcl hd (repr_allS rv hc (by omega)) (by omega) fun m u tk hm => ⟨.str m, H1, I1.tok _, ⟨u, rfl⟩, q m (by omega)⟩
end
/-- x = e and what follows, e's reading first -/
theorem seq_asg {te : TE} {g : TG} {b : TS} {D : Ends} {σ : L2.St} {H : Hp} (h : te σ H fun x H1 => g x σ H1 fun σ2 H2 => b D σ2 H2) : tSeq (tAsg te g) b D σ H := h
/-- what making an error leaves: an error whose dict holds the fields fs, all else as it was -/
def spInitN (C : Addr) (n : Nat) (ok : Hp → List V → Prop) (fs : List V → List (Str × V)) : Sp := fun vs H Q _ => ∃ (a : Addr) (ws : List V), vs = .ref a :: ws ∧ ws.length = n ∧ ok H ws ∧ H a = some (exo a C none) ∧
  ∀ dx H', H dx = none → dx ≠ a → H' a = some (exo a C (some dx)) → H' dx = some (exd dx (fs ws)) → (∀ b, b ≠ a → b ≠ dx → H' b = H b) → Q .non H'
theorem mkN {C : Addr} {n : Nat} {ok : Hp → List V → Prop} {fs : List V → List (Str × V)} {ta : TA} {σ : L2.St} {H : Hp} {Q : XK}
    (h : ta σ H fun ws H1 => ws.length = n ∧ ws.length ≤ 1000 ∧ (∀ a, H1 a = none → ok (upd H1 a (exo a C none)) ws) ∧ ∀ d H', Same H1 H' → H1 d = none → H' d = some (.xd (fs ws)) → Q (.ref C) (some d) H')
    (mono : ∀ Q1 Q2 : List V → Hp → Prop, (∀ vs H1, Q1 vs H1 → Q2 vs H1) → ta σ H Q1 → ta σ H Q2) : tMkO C (spInitN C n ok fs) [] ta σ H Q := by
  refine mono _ _ (fun ws H1 h1 => ?_) h
  obtain ⟨hn, hz, hk, q⟩ := h1
  refine ⟨hz, fun a na => ⟨a, ws, by rw [List.append_nil], hn, hk a na, upd_same, fun dx H' nd hne ha hd hb => ⟨rfl, dx, fs ws, ha, hd, ?_, ?_⟩⟩⟩
  · rw [upd_ne hne] at nd
    exact nd
  · rw [upd_ne hne] at nd
    refine q dx _ (fun b o e => ?_) nd upd_same
    have h1 : b ≠ a := ne_of_none e na
    have h2 : b ≠ dx := ne_of_none e nd
    rw [upd_ne h2, del_ne h1, hb b h1 h2, upd_ne h1]
    exact e
end L2

/-! C.m(e, ..), m a static method of the class at C -/
namespace OwnOp
open PySem PySem.Spec PyProof.Rows L2
/-- m stands in C as a static method, its def at f -/
structure CSt (K : PySem.W.Frag) (C : Addr) (m : Str) (f : Addr) : Prop where
  ga : PySem.W.specialIn K (.ref C) "__getattribute__" = some (some (.builtin "type.__getattribute__"))
  rd : PySem.W.readsIn K C (.type "type") = true
  st : ∃ p rest, PySem.W.findCls K (.ref C) (.type "type") m = some (.get (.builtin "staticmethod.__get__") (.ref p) .none (.ref C)) ∧ PySem.W.recIn K p "staticmethod" = some (.ref f :: rest)
  kp : PySem.W.keepIn K (.ref f) = true
section
variable {X : Cx} {pins : List (Addr × Obj)} {σ : L2.St} {H : Hp} {s : Shared} {C f : Addr} {m : Str} {A : Around} {E : Value → Shared → Prop}
theorem getst_ok {pl : Sem Bool} {Q : Value × List Value → Shared → Prop} (I : Inv X pins σ H s) (c : CSt X.K C m f) (h : ∀ s', Inv X pins σ H s' → Q (.ref f, []) s') : wpAny (model X.prog X.w) A (getMethod (.ref C) m pl) Q E s := by
  obtain ⟨p, rest, e1, e2⟩ := c.st
  exact PySem.W.method_cls I.kIn c.ga (PySem.W.cls_bind I.kIn c.rd e1 (wpAny_call (PySem.W.sm_get (s := { s with toks := s.toks + 1 }) I.kIn e2 (PySem.W.handed_on rfl (h _ (I.tok _))))))
end
def tStat (C : Addr) (sp : Sp) (dvs : List V) (E : XK) (ta : TE) (t : TA) : TE := fun σ H Q => ta σ H fun x H1 => x = .ref C ∧ t σ H1 fun vs H2 => sp (vs ++ dvs) H2 Q E
section
variable {X : Cx} {CX : CXT} {C f : Addr} {fd : FuncData} {ps : List Str} {ds : List Value} {dvs : List V} {sp : Sp} {E : XK} {k : Nat} {m : Str} {o e : Expr} {es : List Expr} {apos pos : Pos} {ta : TE} {t : TA}
theorem pe_stat {pl : Sem Bool} (he : PE X o ta) (c : CSt X.K C m f) (F : FnOk X.prog X.w X.K X.mg X.base CX k f fd ps sp) (hr : Room k X.A) (hb : Binds X.K fd ps ds) (hd : Vals dvs ds) (hx : Passes CX X E) (ha : PA X (e :: es) t)
    (hst : starEach (e :: es) X.env = (false, eval e X.env) :: starEach es X.env := by rfl) (hpl : (backTo pos (starEach es X.env)).any (·.1) = false := by rfl)
    (ht : eval (.Call (.Attribute o m apos) (e :: es) [] pos) X.env = (do
      let ov ← eval o X.env
      standAt apos.atName
      let (f, first) ← holding [ov] (getMethod ov m pl)
      callWith pos f first (backTo pos (starEach (e :: es) X.env)) (backToKw pos (keywordEach [] X.env))) := by rfl) :
    PE X (.Call (.Attribute o m apos) (e :: es) [] pos) (tStat C sp dvs E ta t) := by
  refine ⟨fun pins s σ H Q I h => ?_⟩
  refine PySem.W.methodCall_KW (pl := pl) (thn (he.run pins s σ H _ I h) fun u s1 ⟨x, H1, I1, rx, ex, q⟩ => ?_) ht
  subst ex
  obtain rfl : u = Value.ref C := rx
  refine getst_ok I1 c fun s2 I2 => ?_
  refine PySem.W.callWith_K (first := []) (h₀ := X.base) I.ok.mod.kin c.kp (thn (ha.run pos pins s2 σ H1 _ I2 q) fun us s3 ⟨vs, H2, I3, r, q2⟩ => ⟨I3.kIn, ?_⟩) hst hpl
  exact run_fn (us := us) (vs := vs) F hr hb hd hx I3 r q2
end
end OwnOp

/-! two tuples of the same plain items and objects: != tells False -/
namespace OwnOp
open PySem PySem.Spec PyProof.Rows L2
def itemB (v : V) : Prop := flatB v = true ∨ ∃ p, v = .ref p
theorem items_same {A : Around} {s : Shared} : ∀ {xs : List V} {us ws : List Value}, Vals xs us → Vals xs ws → (∀ v ∈ xs, itemB v) → ∀ j (h1 : j < us.length) (h2 : j < ws.length), SeqAt.EqAt A s us[j] ws[j] true
  | [], _, _, .nil, _, _, j, h1, _ => absurd h1 (Nat.not_lt_zero j)
  | x :: xs, _, _, .cons a1 b1, .cons a2 b2, h, j, h1, h2 => by
    cases j with
    | zero =>
      rcases h x List.mem_cons_self with f | ⟨p, rfl⟩
      · exact eqAt_same a1 a2 f
      · cases (show _ = Value.ref p from a1)
        cases (show _ = Value.ref p from a2)
        exact SeqAt.EqAt.same _
    | succ j => exact items_same b1 b2 (fun v hv => h v (List.mem_cons_of_mem _ hv)) j (Nat.lt_of_succ_lt_succ h1) (Nat.lt_of_succ_lt_succ h2)
section
variable {X : Cx}
def rNeTS (K : PySem.W.Frag) : R2 := fun x y H Q => ∃ a b xs, x = .ref a ∧ y = .ref b ∧ SqT K H a xs ∧ SqT K H b xs ∧ (∀ v ∈ xs, itemB v) ∧ Q (.bl false) H
theorem op_neTS (hu : X.A.units + 64 < cLine) : OpR X (compareOp .NotEq) (rNeTS X.K) := by
  intro pins s σ H x y v u Q I rx ry h
  obtain ⟨a, b, xs, rfl, rfl, ha, hb, hi, q⟩ := h
  cases (show v = Value.ref a from rx)
  cases (show u = Value.ref b from ry)
  obtain ⟨us, r1, p1, _⟩ := I.tuple ha
  obtain ⟨ws, r2, p2, _⟩ := I.tuple hb
  have hsz : us.toArray.size = ws.toArray.size := by
    rw [List.size_toArray, List.size_toArray, ← r1.length, ← r2.length]
  have e : (!((List.range (min us.toArray.size ws.toArray.size)).all (fun _ => true) && us.toArray.size == ws.toArray.size)) = false := by
    rw [show ((List.range (min us.toArray.size ws.toArray.size)).all fun _ => true) = true from List.all_eq_true.mpr fun _ _ => rfl, hsz]
    simp
  refine SeqAt.RcNeAt.tuples (e := fun _ => true) p1 p2 (by omega) (fun j h1 h2 => ?_) X.prog X.w _ _ ?_
  · have k := items_same (A := X.A.in1) (s := s) r1 r2 hi j (by simpa using h1) (by simpa using h2)
    simpa using k
  · rw [e]
    exact ⟨.bl false, H, I, rfl, q⟩
end
end OwnOp

/-! o.m(e, ..) in a try suite, m a def that may raise -/
namespace OwnOp
open PySem PySem.Spec PyProof.Rows L2
def tMethT (C : Addr) (m : Str) (sp : Sp) (E : L2.St → XK) (ta : TE) (t : TA) : TE := fun σ H Q => ta σ H fun x H1 => ∃ a dx fs, x = .ref a ∧ H1 a = some (.ins C dx fs) ∧ fs.lookup m = none ∧ t σ H1 fun vs H2 => sp (x :: vs) H2 Q (E σ)
section
variable {X : Cx} {CX : CXT} {k : Nat} {C f : Addr} {fd : FuncData} {ps : List Str} {sp : Sp} {E : L2.St → XK} {o e : Expr} {es : List Expr} {m : Str} {ta : TE} {t : TA} {pos apos : Pos}
theorem pe_methT {pl : Sem Bool} (he : PE X o ta) (c : Cls X.K C) (hm : Meth X.K C m f) (F : FnOk X.prog X.w X.K X.mg X.base CX k f fd ps sp) (hr : Room k X.A) (hb : Binds X.K fd ps []) (hx : ∀ σ, PassesAt CX X σ (E σ)) (ha : PA X (e :: es) t)
    (hst : starEach (e :: es) X.env = (false, eval e X.env) :: starEach es X.env := by rfl) (hpl : (backTo pos (starEach es X.env)).any (·.1) = false := by rfl)
    (ht : eval (.Call (.Attribute o m apos) (e :: es) [] pos) X.env = (do
      let ov ← eval o X.env
      standAt apos.atName
      let (f, first) ← holding [ov] (getMethod ov m pl)
      callWith pos f first (backTo pos (starEach (e :: es) X.env)) (backToKw pos (keywordEach [] X.env))) := by rfl) :
    PE X (.Call (.Attribute o m apos) (e :: es) [] pos) (tMethT C m sp E ta t) := by
  refine ⟨fun pins s σ H Q I h => ?_⟩
  refine PySem.W.methodCall_KW (pl := pl) (thn (he.run pins s σ H _ I h) fun u s1 ⟨x, H1, I1, rx, a, dx, fs, ex, ea, l, q⟩ => ?_) ht
  subst ex
  obtain rfl : u = Value.ref a := rx
  refine getmeth_ok I1 ea c hm l ?_
  refine PySem.W.callWith_K (first := [.ref a]) (h₀ := X.base) I.ok.mod.kin hm.kp (thn (ha.run pos pins s1 σ H1 _ I1 q) fun us s2 ⟨vs, H2, I2, r, q2⟩ => ⟨I2.kIn, ?_⟩) hst hpl
  exact run_fnS (us := .ref a :: us) (vs := .ref a :: vs) F hr hb (hx σ) I2 (.cons rfl r) q2
end
end OwnOp

namespace M
open PySem PySem.Spec PyProof.Rows L2
def topS (i : Nat) : Stmt := PySem.Challenge.pw_mendedtree_k62_rope_text.main.body.getD i (.Pass ⟨0, 0, 0, 0⟩)
abbrev s_EditError_init : Stmt := inClass (topS 2) 0
theorem sc_EditError_init : FnScope ["self", "index"] ["self", "index"] (defScope s_EditError_init) := ⟨rfl, rfl, rfl, by decide +kernel, rfl, by decide +kernel, by decide +kernel⟩
abbrev s_first_misfit : Stmt := topS 5
theorem sc_first_misfit : FnScope ["length", "edits", "index", "start", "end", "new"] ["length", "edits"] (defScope s_first_misfit) := ⟨rfl, rfl, rfl, by decide +kernel, rfl, by decide +kernel, by decide +kernel⟩
abbrev s_check_fits : Stmt := topS 6
theorem sc_check_fits : FnScope ["length", "edits", "index"] ["length", "edits"] (defScope s_check_fits) := ⟨rfl, rfl, rfl, by decide +kernel, rfl, by decide +kernel, by decide +kernel⟩
abbrev s_Rope_init : Stmt := inClass (topS 9) 0
theorem sc_Rope_init : FnScope ["self", "piece", "left", "right"] ["self", "piece", "left", "right"] (defScope s_Rope_init) := ⟨rfl, rfl, rfl, by decide +kernel, rfl, by decide +kernel, by decide +kernel⟩
abbrev s_Rope_of : Stmt := inClass (topS 9) 1
theorem sc_Rope_of : FnScope ["text", "at"] ["text"] (defScope s_Rope_of) := ⟨rfl, rfl, rfl, by decide +kernel, rfl, by decide +kernel, by decide +kernel⟩
abbrev s_Rope_whole : Stmt := inClass (topS 9) 2
theorem sc_Rope_whole : FnScope ["self", "pieces", "waiting", "rope"] ["self"] (defScope s_Rope_whole) := ⟨rfl, rfl, rfl, by decide +kernel, rfl, by decide +kernel, by decide +kernel⟩
abbrev s_Rope_char : Stmt := inClass (topS 9) 3
theorem sc_Rope_char : FnScope ["self", "index", "rope"] ["self", "index"] (defScope s_Rope_char) := ⟨rfl, rfl, rfl, by decide +kernel, rfl, by decide +kernel, by decide +kernel⟩
abbrev s_Rope_cut : Stmt := inClass (topS 9) 4
theorem sc_Rope_cut : FnScope ["self", "start", "end", "split"] ["self", "start", "end"] (defScope s_Rope_cut) := ⟨rfl, rfl, rfl, by decide +kernel, rfl, by decide +kernel, by decide +kernel⟩
abbrev s_Rope_joined : Stmt := inClass (topS 9) 5
theorem sc_Rope_joined : FnScope ["self", "other"] ["self", "other"] (defScope s_Rope_joined) := ⟨rfl, rfl, rfl, by decide +kernel, rfl, by decide +kernel, by decide +kernel⟩
abbrev s_Rope_edited : Stmt := inClass (topS 9) 6
theorem sc_Rope_edited : FnScope ["self", "edits", "rope", "start", "end", "new", "behind"] ["self", "edits"] (defScope s_Rope_edited) := ⟨rfl, rfl, rfl, by decide +kernel, rfl, by decide +kernel, by decide +kernel⟩
abbrev s_tree : Stmt := topS 10
theorem sc_tree : FnScope ["pieces", "middle"] ["pieces"] (defScope s_tree) := ⟨rfl, rfl, rfl, by decide +kernel, rfl, by decide +kernel, by decide +kernel⟩
abbrev s_balanced : Stmt := topS 11
theorem sc_balanced : FnScope ["left", "right", "middle"] ["left", "right"] (defScope s_balanced) := ⟨rfl, rfl, rfl, by decide +kernel, rfl, by decide +kernel, by decide +kernel⟩
abbrev s_law_reel : Stmt := topS 13
theorem sc_law_reel : FnScope ["script", "reel", "k", "cell", "rest", "turn", "mixed"] ["script"] (defScope s_law_reel) := ⟨rfl, rfl, rfl, by decide +kernel, rfl, by decide +kernel, by decide +kernel⟩
abbrev s_law_draw : Stmt := topS 14
theorem sc_law_draw : FnScope ["reel", "size", "count", "at"] ["reel", "size"] (defScope s_law_draw) := ⟨rfl, rfl, rfl, by decide +kernel, rfl, by decide +kernel, by decide +kernel⟩
abbrev s_law_pick : Stmt := topS 15
theorem sc_law_pick : FnScope ["reel", "row"] ["reel", "row"] (defScope s_law_pick) := ⟨rfl, rfl, rfl, by decide +kernel, rfl, by decide +kernel, by decide +kernel⟩
abbrev s_law_word : Stmt := topS 16
theorem sc_law_word : FnScope ["reel", "letters", "least", "most", "k"] ["reel", "letters", "least", "most"] (defScope s_law_word) := ⟨rfl, rfl, rfl, by decide +kernel, rfl, by decide +kernel, by decide +kernel⟩
abbrev s_law_number : Stmt := topS 17
theorem sc_law_number : FnScope ["value"] ["value"] (defScope s_law_number) := ⟨rfl, rfl, rfl, by decide +kernel, rfl, by decide +kernel, by decide +kernel⟩
abbrev s_law_signs : Stmt := topS 18
theorem sc_law_signs : FnScope ["signs"] [] (defScope s_law_signs) := ⟨rfl, rfl, rfl, by decide +kernel, rfl, by decide +kernel, by decide +kernel⟩
abbrev s_law_stepped : Stmt := topS 19
theorem sc_law_stepped : FnScope ["reel", "size", "letters", "first", "step", "k"] ["reel", "size"] (defScope s_law_stepped) := ⟨rfl, rfl, rfl, by decide +kernel, rfl, by decide +kernel, by decide +kernel⟩
abbrev s_law_text : Stmt := topS 20
theorem sc_law_text : FnScope ["reel", "form", "size"] ["reel"] (defScope s_law_text) := ⟨rfl, rfl, rfl, by decide +kernel, rfl, by decide +kernel, by decide +kernel⟩
abbrev s_law_new : Stmt := topS 21
theorem sc_law_new : FnScope ["reel", "size"] ["reel"] (defScope s_law_new) := ⟨rfl, rfl, rfl, by decide +kernel, rfl, by decide +kernel, by decide +kernel⟩
abbrev s_law_edit_row : Stmt := topS 22
theorem sc_law_edit_row : FnScope ["reel", "text", "count", "edits", "now", "near", "turn", "form", "start", "end", "new"] ["reel", "text", "count"] (defScope s_law_edit_row) := ⟨rfl, rfl, rfl, by decide +kernel, rfl, by decide +kernel, by decide +kernel⟩
abbrev s_law_unfit : Stmt := topS 23
theorem sc_law_unfit : FnScope ["reel", "size", "much", "new", "place", "form"] ["reel", "size"] (defScope s_law_unfit) := ⟨rfl, rfl, rfl, by decide +kernel, rfl, by decide +kernel, by decide +kernel⟩
abbrev s_law_planted : Stmt := topS 24
theorem sc_law_planted : FnScope ["reel", "text", "edits", "many", "sizes", "edit", "rows", "turn", "at"] ["reel", "text", "edits", "many"] (defScope s_law_planted) := ⟨rfl, rfl, rfl, by decide +kernel, rfl, by decide +kernel, by decide +kernel⟩
abbrev s_law_splice : Stmt := topS 25
theorem sc_law_splice : FnScope ["text", "edits", "now", "edit"] ["text", "edits"] (defScope s_law_splice) := ⟨rfl, rfl, rfl, by decide +kernel, rfl, by decide +kernel, by decide +kernel⟩
abbrev s_law_first_unfit : Stmt := topS 26
theorem sc_law_first_unfit : FnScope ["size", "edits", "now", "k", "start", "end"] ["size", "edits"] (defScope s_law_first_unfit) := ⟨rfl, rfl, rfl, by decide +kernel, rfl, by decide +kernel, by decide +kernel⟩
abbrev s_law_whole_ok : Stmt := topS 27
theorem sc_law_whole_ok : FnScope ["reel", "rope", "text", "told", "places", "k", "place", "sign"] ["reel", "rope", "text"] (defScope s_law_whole_ok) := ⟨rfl, rfl, rfl, by decide +kernel, rfl, by decide +kernel, by decide +kernel⟩
abbrev s_law_marks : Stmt := topS 28
theorem sc_law_marks : FnScope ["rope"] ["rope"] (defScope s_law_marks) := ⟨rfl, rfl, rfl, by decide +kernel, rfl, by decide +kernel, by decide +kernel⟩
abbrev s_law_refused : Stmt := topS 29
theorem sc_law_refused : FnScope ["rope", "edits", "e"] ["rope", "edits"] (defScope s_law_refused) := ⟨rfl, rfl, rfl, by decide +kernel, rfl, by decide +kernel, by decide +kernel⟩
abbrev s_law_edited : Stmt := topS 30
theorem sc_law_edited : FnScope ["reel", "rope", "text", "edits", "first", "handed", "after", "due", "told"] ["reel", "rope", "text", "edits"] (defScope s_law_edited) := ⟨rfl, rfl, rfl, by decide +kernel, rfl, by decide +kernel, by decide +kernel⟩
abbrev s_law_deed : Stmt := topS 31
theorem sc_law_deed : FnScope ["reel", "rope", "text", "ropes", "texts", "deed", "edits", "first", "places", "other"] ["reel", "rope", "text", "ropes", "texts"] (defScope s_law_deed) := ⟨rfl, rfl, rfl, by decide +kernel, rfl, by decide +kernel, by decide +kernel⟩
abbrev s_law : Stmt := topS 32
theorem sc_law : FnScope ["script", "reel", "deeds", "texts", "ropes", "marks", "turn", "at", "pair", "k"] ["script"] (defScope s_law) := ⟨rfl, rfl, rfl, by decide +kernel, rfl, by decide +kernel, by decide +kernel⟩
structure Txt (K : PySem.W.Frag) (mg : Str → Option Value) where
  a_EditError_init : Addr
  fd_EditError_init : FuncData
  F_EditError_init : Fun K "__init__" "EditError.__init__" s_EditError_init a_EditError_init fd_EditError_init
  b_EditError_init : Binds K fd_EditError_init ["self", "index"] []
  a_first_misfit : Addr
  fd_first_misfit : FuncData
  F_first_misfit : Fun K "_first_misfit" "_first_misfit" s_first_misfit a_first_misfit fd_first_misfit
  b_first_misfit : Binds K fd_first_misfit ["length", "edits"] []
  g_first_misfit : mg "_first_misfit" = some (.ref a_first_misfit)
  a_check_fits : Addr
  fd_check_fits : FuncData
  F_check_fits : Fun K "check_fits" "check_fits" s_check_fits a_check_fits fd_check_fits
  b_check_fits : Binds K fd_check_fits ["length", "edits"] []
  g_check_fits : mg "check_fits" = some (.ref a_check_fits)
  a_Rope_init : Addr
  fd_Rope_init : FuncData
  F_Rope_init : Fun K "__init__" "Rope.__init__" s_Rope_init a_Rope_init fd_Rope_init
  b_Rope_init : Binds K fd_Rope_init ["self", "piece", "left", "right"] []
  a_Rope_of : Addr
  fd_Rope_of : FuncData
  F_Rope_of : Fun K "of" "Rope.of" s_Rope_of a_Rope_of fd_Rope_of
  b_Rope_of : Binds K fd_Rope_of ["text"] []
  a_Rope_whole : Addr
  fd_Rope_whole : FuncData
  F_Rope_whole : Fun K "whole" "Rope.whole" s_Rope_whole a_Rope_whole fd_Rope_whole
  b_Rope_whole : Binds K fd_Rope_whole ["self"] []
  a_Rope_char : Addr
  fd_Rope_char : FuncData
  F_Rope_char : Fun K "char" "Rope.char" s_Rope_char a_Rope_char fd_Rope_char
  b_Rope_char : Binds K fd_Rope_char ["self", "index"] []
  a_Rope_cut : Addr
  fd_Rope_cut : FuncData
  F_Rope_cut : Fun K "cut" "Rope.cut" s_Rope_cut a_Rope_cut fd_Rope_cut
  b_Rope_cut : Binds K fd_Rope_cut ["self", "start", "end"] []
  a_Rope_joined : Addr
  fd_Rope_joined : FuncData
  F_Rope_joined : Fun K "joined" "Rope.joined" s_Rope_joined a_Rope_joined fd_Rope_joined
  b_Rope_joined : Binds K fd_Rope_joined ["self", "other"] []
  a_Rope_edited : Addr
  fd_Rope_edited : FuncData
  F_Rope_edited : Fun K "edited" "Rope.edited" s_Rope_edited a_Rope_edited fd_Rope_edited
  b_Rope_edited : Binds K fd_Rope_edited ["self", "edits"] []
  a_tree : Addr
  fd_tree : FuncData
  F_tree : Fun K "_tree" "_tree" s_tree a_tree fd_tree
  b_tree : Binds K fd_tree ["pieces"] []
  g_tree : mg "_tree" = some (.ref a_tree)
  a_balanced : Addr
  fd_balanced : FuncData
  F_balanced : Fun K "_balanced" "_balanced" s_balanced a_balanced fd_balanced
  b_balanced : Binds K fd_balanced ["left", "right"] []
  g_balanced : mg "_balanced" = some (.ref a_balanced)
  a_law_reel : Addr
  fd_law_reel : FuncData
  F_law_reel : Fun K "_law_reel" "_law_reel" s_law_reel a_law_reel fd_law_reel
  b_law_reel : Binds K fd_law_reel ["script"] []
  g_law_reel : mg "_law_reel" = some (.ref a_law_reel)
  a_law_draw : Addr
  fd_law_draw : FuncData
  F_law_draw : Fun K "_law_draw" "_law_draw" s_law_draw a_law_draw fd_law_draw
  b_law_draw : Binds K fd_law_draw ["reel", "size"] []
  g_law_draw : mg "_law_draw" = some (.ref a_law_draw)
  a_law_pick : Addr
  fd_law_pick : FuncData
  F_law_pick : Fun K "_law_pick" "_law_pick" s_law_pick a_law_pick fd_law_pick
  b_law_pick : Binds K fd_law_pick ["reel", "row"] []
  g_law_pick : mg "_law_pick" = some (.ref a_law_pick)
  a_law_word : Addr
  fd_law_word : FuncData
  F_law_word : Fun K "_law_word" "_law_word" s_law_word a_law_word fd_law_word
  b_law_word : Binds K fd_law_word ["reel", "letters", "least", "most"] []
  g_law_word : mg "_law_word" = some (.ref a_law_word)
  a_law_number : Addr
  fd_law_number : FuncData
  F_law_number : Fun K "_law_number" "_law_number" s_law_number a_law_number fd_law_number
  b_law_number : Binds K fd_law_number ["value"] []
  g_law_number : mg "_law_number" = some (.ref a_law_number)
  a_law_signs : Addr
  fd_law_signs : FuncData
  F_law_signs : Fun K "_law_signs" "_law_signs" s_law_signs a_law_signs fd_law_signs
  b_law_signs : Binds K fd_law_signs [] []
  g_law_signs : mg "_law_signs" = some (.ref a_law_signs)
  a_law_stepped : Addr
  fd_law_stepped : FuncData
  F_law_stepped : Fun K "_law_stepped" "_law_stepped" s_law_stepped a_law_stepped fd_law_stepped
  b_law_stepped : Binds K fd_law_stepped ["reel", "size"] []
  g_law_stepped : mg "_law_stepped" = some (.ref a_law_stepped)
  a_law_text : Addr
  fd_law_text : FuncData
  F_law_text : Fun K "_law_text" "_law_text" s_law_text a_law_text fd_law_text
  b_law_text : Binds K fd_law_text ["reel"] []
  g_law_text : mg "_law_text" = some (.ref a_law_text)
  a_law_new : Addr
  fd_law_new : FuncData
  F_law_new : Fun K "_law_new" "_law_new" s_law_new a_law_new fd_law_new
  b_law_new : Binds K fd_law_new ["reel"] []
  g_law_new : mg "_law_new" = some (.ref a_law_new)
  a_law_edit_row : Addr
  fd_law_edit_row : FuncData
  F_law_edit_row : Fun K "_law_edit_row" "_law_edit_row" s_law_edit_row a_law_edit_row fd_law_edit_row
  b_law_edit_row : Binds K fd_law_edit_row ["reel", "text", "count"] []
  g_law_edit_row : mg "_law_edit_row" = some (.ref a_law_edit_row)
  a_law_unfit : Addr
  fd_law_unfit : FuncData
  F_law_unfit : Fun K "_law_unfit" "_law_unfit" s_law_unfit a_law_unfit fd_law_unfit
  b_law_unfit : Binds K fd_law_unfit ["reel", "size"] []
  g_law_unfit : mg "_law_unfit" = some (.ref a_law_unfit)
  a_law_planted : Addr
  fd_law_planted : FuncData
  F_law_planted : Fun K "_law_planted" "_law_planted" s_law_planted a_law_planted fd_law_planted
  b_law_planted : Binds K fd_law_planted ["reel", "text", "edits", "many"] []
  g_law_planted : mg "_law_planted" = some (.ref a_law_planted)
  a_law_splice : Addr
  fd_law_splice : FuncData
  F_law_splice : Fun K "_law_splice" "_law_splice" s_law_splice a_law_splice fd_law_splice
  b_law_splice : Binds K fd_law_splice ["text", "edits"] []
  g_law_splice : mg "_law_splice" = some (.ref a_law_splice)
  a_law_first_unfit : Addr
  fd_law_first_unfit : FuncData
  F_law_first_unfit : Fun K "_law_first_unfit" "_law_first_unfit" s_law_first_unfit a_law_first_unfit fd_law_first_unfit
  b_law_first_unfit : Binds K fd_law_first_unfit ["size", "edits"] []
  g_law_first_unfit : mg "_law_first_unfit" = some (.ref a_law_first_unfit)
  a_law_whole_ok : Addr
  fd_law_whole_ok : FuncData
  F_law_whole_ok : Fun K "_law_whole_ok" "_law_whole_ok" s_law_whole_ok a_law_whole_ok fd_law_whole_ok
  b_law_whole_ok : Binds K fd_law_whole_ok ["reel", "rope", "text"] []
  g_law_whole_ok : mg "_law_whole_ok" = some (.ref a_law_whole_ok)
  a_law_marks : Addr
  fd_law_marks : FuncData
  F_law_marks : Fun K "_law_marks" "_law_marks" s_law_marks a_law_marks fd_law_marks
  b_law_marks : Binds K fd_law_marks ["rope"] []
  g_law_marks : mg "_law_marks" = some (.ref a_law_marks)
  a_law_refused : Addr
  fd_law_refused : FuncData
  F_law_refused : Fun K "_law_refused" "_law_refused" s_law_refused a_law_refused fd_law_refused
  b_law_refused : Binds K fd_law_refused ["rope", "edits"] []
  g_law_refused : mg "_law_refused" = some (.ref a_law_refused)
  a_law_edited : Addr
  fd_law_edited : FuncData
  F_law_edited : Fun K "_law_edited" "_law_edited" s_law_edited a_law_edited fd_law_edited
  b_law_edited : Binds K fd_law_edited ["reel", "rope", "text", "edits"] []
  g_law_edited : mg "_law_edited" = some (.ref a_law_edited)
  a_law_deed : Addr
  fd_law_deed : FuncData
  F_law_deed : Fun K "_law_deed" "_law_deed" s_law_deed a_law_deed fd_law_deed
  b_law_deed : Binds K fd_law_deed ["reel", "rope", "text", "ropes", "texts"] []
  g_law_deed : mg "_law_deed" = some (.ref a_law_deed)
  a_law : Addr
  fd_law : FuncData
  F_law : Fun K "law" "law" s_law a_law fd_law
  b_law : Binds K fd_law ["script"] []
  g_law : mg "law" = some (.ref a_law)
  m_range : mg "range" = none
  m_min : mg "min" = none
  m_max : mg "max" = none
  m_len : mg "len" = none
  m_abs : mg "abs" = none
  m_int : mg "int" = none
  m_sum : mg "sum" = none
  m_isinstance : mg "isinstance" = none
  m_bool : mg "bool" = none
  m_list : mg "list" = none
  m_tuple : mg "tuple" = none
  m_str : mg "str" = none
  m_enumerate : mg "enumerate" = none
  m_sorted : mg "sorted" = none
  m_ValueError : mg "ValueError" = none
  c_LONGEST : ∃ t, mg "LONGEST" = some (Value.int 16 t)
  C_MendedError : Addr
  G_MendedError : mg "MendedError" = some (.ref C_MendedError)
  C_EditError : Addr
  G_EditError : mg "EditError" = some (.ref C_EditError)
  C_Entangled : Addr
  G_Entangled : mg "Entangled" = some (.ref C_Entangled)
  C_Rope : Addr
  G_Rope : mg "Rope" = some (.ref C_Rope)
  B_MendedError : BaseC K C_MendedError
  E_EditError : ErrK K mg "EditError" C_EditError a_EditError_init
  n_EditError_index : PySem.W.findIn K (.ref C_EditError) "index" = some none
  CL_Rope : Cls K C_Rope
  MK_Rope : Mk K C_Rope a_Rope_init
  IC_Rope : C8.InsC K C_Rope
  NA_Rope_piece : NoAttr K C_Rope "piece"
  NA_Rope_left : NoAttr K C_Rope "left"
  NA_Rope_right : NoAttr K C_Rope "right"
  NA_Rope_size : NoAttr K C_Rope "size"
  NA_Rope_height : NoAttr K C_Rope "height"
  ME_Ropewhole : Meth K C_Rope "whole" a_Rope_whole
  ME_Ropechar : Meth K C_Rope "char" a_Rope_char
  ME_Ropecut : Meth K C_Rope "cut" a_Rope_cut
  ME_Ropejoined : Meth K C_Rope "joined" a_Rope_joined
  ME_Ropeedited : Meth K C_Rope "edited" a_Rope_edited
  ST_Ropeof : OwnOp.CSt K C_Rope "of" a_Rope_of
  k_EditError_MendedError : PySem.W.kitOne K (.ref C_EditError) (.ref C_MendedError) = some true
  k_EditError_ValueError : PySem.W.kitOne K (.ref C_EditError) (.type "ValueError") = some true
  k_EditError_Entangled : PySem.W.kitOne K (.ref C_EditError) (.ref C_Entangled) = some false
/-! ### heaps: what a def leaves as it was -/
/-- all that was tracked but at r stands as it was -/
def But (r : Addr) (H H' : Hp) : Prop := ∀ b o, b ≠ r → H b = some o → H' b = some o
theorem But.refl (r : Addr) (H : Hp) : But r H H := fun _ _ _ h => h
theorem But.trans {r : Addr} {H H1 H2 : Hp} (a : But r H H1) (b : But r H1 H2) : But r H H2 := fun c o n h => b c o n (a c o n h)
theorem But.of {r : Addr} {H H' : Hp} (e : Same H H') : But r H H' := fun b o _ h => e b o h
theorem But.set {r : Addr} {H : Hp} {o : HO} : But r H (upd H r o) := fun b u n h => by rw [upd_ne n]; exact h
theorem But.new {r p : Addr} {H : Hp} {o : HO} (h : H p = none) : But r H (upd H p o) := fun b u _ e => by rw [upd_ne (ne_of_none e h)]; exact e
theorem same_upd {H : Hp} {p : Addr} {o : HO} (h : H p = none) : Same H (upd H p o) := fun b x e => by rw [upd_ne (ne_of_none e h)]; exact e
/-- the list that the drawing goes along: a place, then numbers -/
def ReelAt (H : Hp) (r : Addr) : Prop := ∃ (z : Int) (c : List Int), H r = some (.lst (.int z :: c.map V.int)) ∧ 1 ≤ c.length ∧ c.length ≤ 100000
theorem ReelAt.new {H : Hp} {r p : Addr} {o : HO} (h : ReelAt H r) (n : H p = none) : ReelAt (upd H p o) r := by
  obtain ⟨z, c, h1, h2⟩ := h
  exact ⟨z, c, by rw [upd_ne (ne_of_none h1 n)]; exact h1, h2⟩
theorem ReelAt.ne {H : Hp} {r p : Addr} (h : ReelAt H r) (n : H p = none) : r ≠ p := by
  obtain ⟨z, c, h1, h2⟩ := h
  exact ne_of_none h1 n
theorem atI_lt {xs : List V} {z : Int} (h0 : 0 ≤ z) (h : z.toNat < xs.length) : atI xs z = some (xs[z.toNat]'h) :=
  at_of (j := z.toNat) (by omega) (List.getElem?_eq_getElem h)
theorem at_of' {α : Type} {xs : List α} {z : Int} {c : α} (h0 : 0 ≤ z) (h : xs[z.toNat]? = some c) : atI xs z = some c := by
  have e : z = ((z.toNat : Nat) : Int) := by omega
  rw [e]
  exact atI_nat h
theorem fmod_range (a : Int) {n : Int} (h : 0 < n) : 0 ≤ a.fmod n ∧ a.fmod n < n := ⟨Int.fmod_nonneg_of_pos a h, Int.fmod_lt_of_pos a h⟩
theorem sz1 {n : Nat} (h : n ≤ 100000) : n ≤ sizeLine := Nat.le_trans h (by decide)
theorem sz2 {n : Nat} (h : n < 100000) : n < sizeLine := Nat.lt_of_lt_of_le h (by decide)
/-- a text's signs -/
abbrev cs (x : Str) : List Nat := x.cps.toList
theorem len_cs (x : Str) : x.length = (cs x).length := by
  show x.cps.size = x.cps.toList.length
  rw [Array.length_toList]
theorem cs_mk (l : List Nat) : cs ⟨l.toArray⟩ = l := rfl
theorem cs_inj {x y : Str} (h : cs x = cs y) : x = y := by
  cases x with
  | mk a =>
    cases y with
    | mk b =>
      have e : a = b := Array.toList_inj.mp h
      rw [e]
theorem cs_app (x y : Str) : cs (x ++ y) = cs x ++ cs y := by
  show (x.cps ++ y.cps).toList = _
  rw [Array.toList_append]
theorem cs_join {e : Str} (he : cs e = []) : ∀ ys : List Str, cs (Str.join e ys) = (ys.map cs).flatten
  | [] => rfl
  | [x] => by
    show cs x = ([x].map cs).flatten
    simp
  | x :: y :: r => by
    show cs (x ++ e ++ Str.join e (y :: r)) = _
    rw [cs_app, cs_app, he, List.append_nil, cs_join he (y :: r)]
    rfl
theorem cs_joinT {e : Str} (he : cs e = []) (ys : List Str) : cs (Txt.join e ys) = (ys.map cs).flatten := by rw [TL.join_eq]; exact cs_join he ys
/-- the text of one sign -/
abbrev sg (c : Nat) : Str := ⟨#[c]⟩
theorem sg_flat : ∀ l : List Nat, ((l.map sg).map cs).flatten = l
  | [] => rfl
  | c :: r => by
    show [c] ++ ((r.map sg).map cs).flatten = c :: r
    rw [sg_flat r]
    rfl
theorem sg_lens : ∀ l : List Nat, ((l.map sg).map (·.length)).sum = l.length
  | [] => rfl
  | c :: r => by
    show 1 + ((r.map sg).map (·.length)).sum = r.length + 1
    rw [sg_lens r]
    omega
theorem join_sg {e : Str} (he : cs e = []) (l : List Nat) : Txt.join e (l.map sg) = ⟨l.toArray⟩ := cs_inj (by rw [cs_joinT he, sg_flat])
theorem But.seq {r : Addr} {K : PySem.W.Frag} {H H' : Hp} {a : Addr} {xs : List V} (e : But r H H') (n : a ≠ r) (h : SqL K H a xs) : SqL K H' a xs := by
  rcases h with (h | ⟨o, h⟩) | h
  · exact .inl (.inl (e _ _ n h))
  · exact .inl (.inr ⟨o, e _ _ n h⟩)
  · exact .inr h
theorem But.free {r : Addr} {H H' : Hp} (e : But r H H') {l : Addr} (n : l ≠ r) (h : H' l = none) : H l = none := by
  cases q : H l with
  | none => rfl
  | some o =>
    rw [e l o n q] at h
    cases h
/-- a text whose signs are signs -/
def TOk (x : Str) : Prop := ∀ c ∈ cs x, c < 1114112
def tokB (x : Str) : Bool := x.cps.toList.all fun c => decide (c < 1114112)
theorem tok_of {x : Str} (h : tokB x = true) : TOk x := fun c hc => of_decide_eq_true (List.all_eq_true.mp h c hc)

section
variable {P : Program} {w : World} {K : PySem.W.Frag} {mg : Str → Option Value} {base : Heap}
/-! ### the reel -/
def spReel (K : PySem.W.Frag) : Sp := fun vs H Q _ => ∃ (a : Addr) (ns : List Int), vs = [.ref a] ∧ SqL K H a (ns.map V.int) ∧
  ∀ H' p, Same H H' → H p = none → ReelAt H' p → Q (.ref p) H'
def spDraw : Sp := fun vs H Q _ => ∃ (r : Addr) (n : Int), vs = [.ref r, .int n] ∧ ReelAt H r ∧ 0 < n ∧
  ∀ (v : Int) H', 0 ≤ v → v < n → But r H H' → ReelAt H' r → Q (.int v) H'
theorem ok_draw (T : Txt K mg) : FnOk P w K mg base CX0 1 T.a_law_draw T.fd_law_draw ["reel", "size"] spDraw := by
  refine T.F_law_draw.ok sc_law_draw (fun vs H Q E h => ?_) (fun cdv A outer s H vs Q E hr h => ?_)
  · obtain ⟨r, n, rfl, _⟩ := h
    rfl
  · obtain ⟨r, n, rfl, ⟨z, c, hr0, hc, hc2⟩, hn, q⟩ := h
    refine ⟨_, (pss_cons (ps_set (i := 2) sc_law_draw.nd rfl (.inl rfl) (pe_op op_sub (pe_callB call_len_seq (by rfl) T.m_len PySem.boot_len (pa_cons (pv 0) pa_nil)) pe_int))
      (pss_cons (ps_set (i := 3) sc_law_draw.nd rfl (.inl rfl) (pe_ix ix_list (pv 0) pe_int (fun _ _ => rfl)))
      (pss_cons (ps_asg (pe_op op_add (pv 3) pe_int) (pg_sub (pv 0) pe_int set_list))
      (pss_one (ps_ret (pe_op op_modN (pe_callTy call_int1 (by rfl) T.m_int (by decide +kernel) (pa_cons (pe_op op_add (pe_ix ix_list (pv 0) (pe_op op_add pe_int (pe_op op_modN (pe_callTy call_int1 (by rfl) T.m_int (by decide +kernel) (pa_cons (pv 3) pa_nil)) (pv 2))) (fun _ _ => rfl)) (pe_op op_mul (pe_op op_fdivN (pv 3) (pv 2)) pe_int)) pa_nil)) (pv 1))))))), ?_⟩
    have hl : (V.int z :: c.map V.int).length = c.length + 1 := by rw [List.length_cons, List.length_map]
    -- count = len(reel) - 1
    refine ⟨.ref r, rfl, r, _, rfl, .inl (SqL.of hr0), _, _, rfl, rfl, ?_⟩
    -- at = reel[0]
    refine ⟨.ref r, rfl, r, _, 0, .int z, rfl, rfl, SqL.of hr0, atI_nat (j := 0) rfl, ?_⟩
    -- reel[0] = at + 1
    refine ⟨_, rfl, z, 1, rfl, rfl, .ref r, rfl, r, _, 0, 0, rfl, rfl, hr0, by rw [hl]; unfold ixN; rw [if_pos (by omega), if_pos (by omega)]; rfl, ?_⟩
    have e1 : (V.int z :: c.map V.int).set 0 (.int (z + 1)) = .int (z + 1) :: c.map V.int := rfl
    rw [e1]
    have hc0 : (0 : Int) < ((V.int z :: c.map V.int).length : Int) - 1 := by rw [hl]; omega
    have fm := fmod_range z hc0
    have hat : 0 ≤ 1 + z.fmod (((V.int z :: c.map V.int).length : Int) - 1) := by omega
    have hat2 : (1 + z.fmod (((V.int z :: c.map V.int).length : Int) - 1)).toNat < (V.int (z + 1) :: c.map V.int).length := by
      have e2 : (V.int (z + 1) :: c.map V.int).length = c.length + 1 := by rw [List.length_cons, List.length_map]
      rw [hl] at fm ⊢
      rw [e2]
      omega
    obtain ⟨y, hy⟩ : ∃ y, atI (V.int (z + 1) :: c.map V.int) (1 + z.fmod (((V.int z :: c.map V.int).length : Int) - 1)) = some (.int y) := by
      have e := atI_lt hat hat2
      have e2 : (V.int (z + 1) :: c.map V.int) = ((z + 1) :: c).map V.int := rfl
      refine ⟨((z + 1) :: c)[(1 + z.fmod (((V.int z :: c.map V.int).length : Int) - 1)).toNat]'(by rw [e2, List.length_map] at hat2; exact hat2), ?_⟩
      rw [e]
      congr 1
      simp only [e2, List.getElem_map]
    -- return int(reel[1 + int(at) % count] + at // count * 389) % size
    refine ⟨.ref r, rfl, _, rfl, .inl ⟨z, rfl, ?_⟩⟩
    refine ⟨_, rfl, z, _, rfl, rfl, by omega, 1, _, rfl, rfl, r, _, _, .int y, rfl, rfl, SqL.of upd_same, hy, ?_⟩
    refine ⟨_, rfl, _, rfl, z, _, rfl, rfl, ⟨by omega, by rw [hl]; omega⟩, _, 389, rfl, rfl, .inr ⟨by decide, by decide⟩, _, _, rfl, rfl, .inl ⟨_, rfl, ?_⟩⟩
    refine ⟨_, rfl, _, n, rfl, rfl, by omega, ?_⟩
    exact q _ _ (fmod_range _ hn).1 (fmod_range _ hn).2 But.set ⟨z + 1, c, upd_same, hc, hc2⟩
/-- the words in which a turn of the reel's making is told -/
def Making (a o : Addr) (H : Hp) (n : Nat) (σ : L2.St) (H' : Hp) : Prop := ∃ y2 y3 y4 y5 y6, σ = [some (.ref a), some (.ref o), y2, y3, y4, y5, y6] ∧ Same H H' ∧ ∃ c : List Int, H' o = some (.lst (.int 0 :: c.map V.int)) ∧ c.length ≤ n
theorem ints_snoc (c : List Int) (x : Int) : (V.int 0 :: c.map V.int) ++ [V.int x] = .int 0 :: (c ++ [x]).map V.int := by
  rw [List.map_append]
  rfl
theorem same_mut {H H' : Hp} {p : Addr} {o : HO} (e : Same H H') (h : H p = none) : Same H (upd H' p o) := fun b x q => by
  rw [upd_ne (ne_of_none q h)]
  exact e b x q
theorem ok_reel (T : Txt K mg) : FnOk P w K mg base CX0 1 T.a_law_reel T.fd_law_reel ["script"] (spReel K) := by
  refine T.F_law_reel.ok sc_law_reel (fun vs H Q E h => ?_) (fun cdv A outer s H vs Q E hr h => ?_)
  · obtain ⟨a, ns, rfl, _⟩ := h
    rfl
  · obtain ⟨a, ns, rfl, hS, q⟩ := h
    refine ⟨_, (pss_cons (ps_set (i := 1) sc_law_reel.nd rfl (.inl rfl) (pe_lst (pa_cons pe_int pa_nil)))
      (pss_cons (ps_for PassesOwn.never rfl (pi_range1 (by rfl) T.m_range (pa_cons (pe_callB (call_min2 rfl) (by rfl) T.m_min (by decide +kernel) (pa_cons (pe_callB call_len_seq (by rfl) T.m_len PySem.boot_len (pa_cons (pv 0) pa_nil)) (pa_cons pe_int pa_nil))) pa_nil)) (pg_name (i := 2) sc_law_reel.nd rfl (.inl rfl)) (pss_cons (ps_set (i := 3) sc_law_reel.nd rfl (.inl rfl) (pe_ix ix_list (pv 0) (pv 2) (fun _ _ => rfl)))
      (pss_one (ps_if (pt_cmpR op_ge (pe_callB call_abs (by rfl) T.m_abs (by decide +kernel) (pa_cons (pv 3) pa_nil)) (pe_op op_pow pe_int pe_int) (nomark _)) (pss_cons (ps_set (i := 4) sc_law_reel.nd rfl (.inl rfl) (pe_callB call_abs (by rfl) T.m_abs (by decide +kernel) (pa_cons (pv 3) pa_nil)))
      (pss_one (ps_for PassesOwn.never rfl (pi_range1 (by rfl) T.m_range (pa_cons pe_int pa_nil)) (pg_name (i := 5) sc_law_reel.nd rfl (.inl rfl)) (pss_one (ps_if (pt_cmpR op_gt (pv 4) pe_int (nomark _)) (pss_cons (ps_expr (pe_bm PySem.F.plainAttrs_list PySem.F.slot_list_append PySem.F.type_list_append mt_append (pv 1) (pa_cons (pe_op op_mod (pe_callTy call_int1 (by rfl) T.m_int (by decide +kernel) (pa_cons (pv 4) pa_nil)) pe_int) pa_nil)))
      (pss_one (ps_set (i := 4) sc_law_reel.nd rfl (.inl rfl) (pe_op op_fdiv (pv 4) pe_int)))) pss_nil))))) (pss_cons (ps_set (i := 6) sc_law_reel.nd rfl (.inl rfl) (pe_op op_mod (pe_callTy call_int1 (by rfl) T.m_int (by decide +kernel) (pa_cons (pe_op op_add (pe_op op_add (pe_op op_mul (pv 3) pe_int) (pe_op op_mul (pv 2) pe_int)) pe_int) pa_nil)) pe_int))
      (pss_one (ps_for PassesOwn.never rfl (pi_range1 (by rfl) T.m_range (pa_cons pe_int pa_nil)) (pg_name (i := 5) sc_law_reel.nd rfl (.inl rfl)) (pss_cons (ps_set (i := 6) sc_law_reel.nd rfl (.inl rfl) (pe_op op_mod (pe_callTy call_int1 (by rfl) T.m_int (by decide +kernel) (pa_cons (pe_op op_add (pe_op op_add (pe_op op_mul (pv 6) pe_int) (pe_op op_mul (pv 5) pe_int)) pe_int) pa_nil)) pe_int))
      (pss_one (ps_expr (pe_bm PySem.F.plainAttrs_list PySem.F.slot_list_append PySem.F.type_list_append mt_append (pv 1) (pa_cons (pe_op op_mod (pe_callTy call_int1 (by rfl) T.m_int (by decide +kernel) (pa_cons (pe_op op_fdiv (pv 6) pe_int) pa_nil)) pe_int) pa_nil))))))))))))
      (pss_cons (ps_set (i := 6) sc_law_reel.nd rfl (.inl rfl) (pe_op op_mod (pe_callTy call_int1 (by rfl) T.m_int (by decide +kernel) (pa_cons (pe_op op_add (pe_op op_add (pe_op op_mul (pe_callB (cr_sum rfl) (by rfl) T.m_sum (by decide +kernel) (pa_cons (pv 1) pa_nil)) pe_int) (pe_op op_mul (pe_callB call_len_seq (by rfl) T.m_len PySem.boot_len (pa_cons (pv 1) pa_nil)) pe_int)) pe_int) pa_nil)) pe_int))
      (pss_cons (ps_for PassesOwn.never rfl (pi_range1 (by rfl) T.m_range (pa_cons pe_int pa_nil)) (pg_name (i := 5) sc_law_reel.nd rfl (.inl rfl)) (pss_cons (ps_set (i := 6) sc_law_reel.nd rfl (.inl rfl) (pe_op op_mod (pe_callTy call_int1 (by rfl) T.m_int (by decide +kernel) (pa_cons (pe_op op_add (pe_op op_add (pe_op op_mul (pv 6) pe_int) (pe_op op_mul (pv 5) pe_int)) pe_int) pa_nil)) pe_int))
      (pss_one (ps_expr (pe_bm PySem.F.plainAttrs_list PySem.F.slot_list_append PySem.F.type_list_append mt_append (pv 1) (pa_cons (pe_op op_mod (pe_callTy call_int1 (by rfl) T.m_int (by decide +kernel) (pa_cons (pe_op op_fdiv (pv 6) pe_int) pa_nil)) pe_int) pa_nil))))))
      (pss_one (ps_ret (pv 1))))))), ?_⟩
    -- reel = [0]
    refine ⟨by show 1 ≤ sizeLine; decide, fun o no => ?_⟩
    have s1 : Same H (upd H o (.lst [.int 0])) := same_upd no
    -- for k in range(min(len(script), 63))
    refine ⟨.ref a, rfl, a, _, rfl, .inl (s1.seq hS), _, _, rfl, _, rfl, by split <;> omega, by split <;> omega, ?_⟩
    refine for_range (lo := 0) (fun i σ H' => Making a o H (60 * i) σ H' ∧ i ≤ 63) ⟨⟨none, none, none, none, none, rfl, s1, [], upd_same, Nat.zero_le _⟩, Nat.zero_le _⟩ ?_ ?_
    · rintro i σ H3 hi ⟨⟨y2, y3, y4, y5, y6, rfl, s3, c, ho, hc⟩, hi63⟩
      have hi' : i < ns.length ∧ i < 63 := by
        rw [List.length_map] at hi
        split at hi <;> omega
      obtain ⟨x, hx⟩ : ∃ x, ns[i]? = some x := ⟨_, List.getElem?_eq_getElem hi'.1⟩
      -- cell = script[k]
      refine ⟨.ref a, rfl, _, rfl, a, _, _, .int x, rfl, rfl, s3.seq hS, at_of (j := i) (by omega) (by rw [List.getElem?_map, hx]; rfl), ?_⟩
      -- if abs(cell) >= 10 ** 18
      refine ⟨_, rfl, x, rfl, 10, 18, rfl, rfl, ⟨by decide, by decide, by decide⟩, _, _, rfl, rfl, _, rfl, ite2 (fun e => ?_) (fun e => ?_)⟩
      · -- rest = abs(cell); for turn in range(60)
        refine ⟨_, rfl, x, rfl, 60, rfl, by decide, by decide, ?_⟩
        refine for_range (lo := 0) (n := 60) (fun j σ H' => (∃ z : Int, σ[4]? = some (some (.int z))) ∧ Making a o H (60 * i + j) σ H') ⟨⟨_, rfl⟩, _, _, _, _, _, rfl, s3, c, ho, hc⟩ ?_ ?_
        · rintro j σ H4 hj ⟨⟨z, hz⟩, y2, y3, y4, y5, y6, rfl, s4, c, ho, hc⟩
          have hz' : y4 = some (.int z) := Option.some.inj hz
          subst hz'
          refine ⟨_, rfl, z, 0, rfl, rfl, _, rfl, ite2 (fun e => ?_) (fun e => ?_)⟩
          · refine ⟨.ref o, rfl, .inl ⟨rfl, _, SqL.of ho⟩, _, rfl, .inl ⟨z, rfl, z, 1009, rfl, rfl, (by show (0 : Int) < 1009; decide), o, _, _, rfl, rfl, ho, ?_, ?_⟩⟩
            · rw [List.length_cons, List.length_map]
              exact sz2 (by omega)
            · refine ⟨_, rfl, z, 1009, rfl, rfl, ⟨by decide, by decide⟩, ⟨_, rfl⟩, _, _, _, _, _, rfl, same_mut s4 no, c ++ [z % 1009], ?_, ?_⟩
              · rw [upd_same, ints_snoc]
              · rw [List.length_append]
                show c.length + 1 ≤ _
                omega
          · exact ⟨⟨z, rfl⟩, _, _, _, _, _, rfl, s4, c, ho, by omega⟩
        · rintro σ H4 ⟨_, y2, y3, y4, y5, y6, rfl, s4, c, ho, hc⟩
          exact ⟨⟨_, _, _, _, _, rfl, s4, c, ho, by omega⟩, by omega⟩
      · -- mixed = ..; for turn in range(4)
        refine ⟨_, rfl, x, 48271, rfl, rfl, .inr ⟨by decide, by decide⟩, _, rfl, _, 69621, rfl, rfl, .inr ⟨by decide, by decide⟩, _, _, rfl, rfl, _, 4099, rfl, rfl, .inl ⟨_, rfl, _, _, rfl, rfl, (by show (0 : Int) < 2147483647; decide), ?_⟩⟩
        refine ⟨4, rfl, by decide, by decide, ?_⟩
        refine for_range (lo := 0) (n := 4) (fun j σ H' => (∃ z : Int, σ[6]? = some (some (.int z))) ∧ Making a o H (60 * i + j) σ H') ⟨⟨_, rfl⟩, _, _, _, _, _, rfl, s3, c, ho, hc⟩ ?_ ?_
        · rintro j σ H4 hj ⟨⟨z, hz⟩, y2, y3, y4, y5, y6, rfl, s4, c, ho, hc⟩
          have hz' : y6 = some (.int z) := Option.some.inj hz
          subst hz'
          refine ⟨_, rfl, z, 16807, rfl, rfl, .inr ⟨by decide, by decide⟩, _, rfl, _, 7919, rfl, rfl, .inr ⟨by decide, by decide⟩, _, _, rfl, rfl, _, 101, rfl, rfl, .inl ⟨_, rfl, _, _, rfl, rfl, (by show (0 : Int) < 2147483629; decide), ?_⟩⟩
          refine ⟨.ref o, rfl, .inl ⟨rfl, _, SqL.of ho⟩, _, rfl, _, 2111, rfl, rfl, ⟨by decide, by decide⟩, .inl ⟨_, rfl, _, 1009, rfl, rfl, (by show (0 : Int) < 1009; decide), o, _, _, rfl, rfl, ho, ?_, ?_⟩⟩
          · rw [List.length_cons, List.length_map]
            exact sz2 (by omega)
          · refine ⟨⟨_, rfl⟩, _, _, _, _, _, rfl, same_mut s4 no, c ++ [((z * 16807 + (0 + (j : Int)) * 7919 + 101) % 2147483629 / 2111) % 1009], ?_, ?_⟩
            · rw [upd_same]
              exact congrArg (fun l => some (HO.lst l)) (ints_snoc c _)
            · rw [List.length_append]
              show c.length + 1 ≤ _
              omega
        · rintro σ H4 ⟨_, y2, y3, y4, y5, y6, rfl, s4, c, ho, hc⟩
          exact ⟨⟨_, _, _, _, _, rfl, s4, c, ho, by omega⟩, by omega⟩
    · rintro σ H3 ⟨⟨y2, y3, y4, y5, y6, rfl, s3, c, ho, hc⟩, hi63⟩
      have e0 : (V.int 0 :: c.map V.int) = ((0 : Int) :: c).map V.int := rfl
      have ho' : SqL K H3 o (((0 : Int) :: c).map V.int) := SqL.of ho
      refine ⟨.ref o, rfl, o, (0 : Int) :: c, rfl, ho', _, 69621, rfl, rfl, .inr ⟨by decide, by decide⟩, .ref o, rfl, o, _, rfl, .inl ho', _, 48271, rfl, rfl, .inr ⟨by decide, by decide⟩, _, _, rfl, rfl, _, 977, rfl, rfl, .inl ⟨_, rfl, _, _, rfl, rfl, (by show (0 : Int) < 2147483647; decide), ?_⟩⟩
      refine ⟨40, rfl, by decide, by decide, ?_⟩
      refine for_range (lo := 0) (n := 40) (fun j σ H' => (∃ z : Int, σ[6]? = some (some (.int z))) ∧ ∃ y2 y3 y4 y5 y6, σ = [some (.ref a), some (.ref o), y2, y3, y4, y5, y6] ∧ Same H H' ∧ ∃ c : List Int, H' o = some (.lst (.int 0 :: c.map V.int)) ∧ j ≤ c.length ∧ c.length ≤ 4000 + j) ⟨⟨_, rfl⟩, _, _, _, _, _, rfl, s3, c, ho, Nat.zero_le _, ?_⟩ ?_ ?_
      · have : (min' : Nat) → min' ≤ 63 → c.length ≤ 60 * min' → c.length ≤ 4000 + 0 := fun m h1 h2 => by omega
        exact this _ hi63 hc
      · rintro j σ H4 hj ⟨⟨z, hz⟩, y2, y3, y4, y5, y6, rfl, s4, c, ho, hc1, hc⟩
        have hz' : y6 = some (.int z) := Option.some.inj hz
        subst hz'
        refine ⟨_, rfl, z, 16807, rfl, rfl, .inr ⟨by decide, by decide⟩, _, rfl, _, 7919, rfl, rfl, .inr ⟨by decide, by decide⟩, _, _, rfl, rfl, _, 101, rfl, rfl, .inl ⟨_, rfl, _, _, rfl, rfl, (by show (0 : Int) < 2147483629; decide), ?_⟩⟩
        refine ⟨.ref o, rfl, .inl ⟨rfl, _, SqL.of ho⟩, _, rfl, _, 2111, rfl, rfl, ⟨by decide, by decide⟩, .inl ⟨_, rfl, _, 1009, rfl, rfl, (by show (0 : Int) < 1009; decide), o, _, _, rfl, rfl, ho, ?_, ?_⟩⟩
        · rw [List.length_cons, List.length_map]
          exact sz2 (by omega)
        · refine ⟨⟨_, rfl⟩, _, _, _, _, _, rfl, same_mut s4 no, c ++ [((z * 16807 + (0 + (j : Int)) * 7919 + 101) % 2147483629 / 2111) % 1009], ?_, ?_, ?_⟩
          · rw [upd_same]
            exact congrArg (fun l => some (HO.lst l)) (ints_snoc c _)
          · rw [List.length_append]
            show _ ≤ c.length + 1
            omega
          · rw [List.length_append]
            show c.length + 1 ≤ _
            omega
      · rintro σ H4 ⟨_, y2, y3, y4, y5, y6, rfl, s4, c, ho, hc1, hc⟩
        refine ⟨.ref o, rfl, q H4 o s4 no ⟨0, c, ho, by omega, by omega⟩⟩

/-! ### a drawn item, a drawn word -/
theorem But.seqT {r : Addr} {K : PySem.W.Frag} {H H' : Hp} {a : Addr} {xs : List V} (e : But r H H') (n : a ≠ r) (h : SqT K H a xs) : SqT K H' a xs := by
  rcases h with (h | ⟨o, h⟩) | h
  · exact .inl (.inl (e _ _ n h))
  · exact .inl (.inr ⟨o, e _ _ n h⟩)
  · exact .inr h
def spPick (K : PySem.W.Frag) : Sp := fun vs H Q _ => ∃ (r : Addr) (row : V), vs = [.ref r, row] ∧ ReelAt H r ∧
  ((∃ z, row = .str z ∧ 0 < (cs z).length ∧ (cs z).length ≤ 100000 ∧ ∀ c H', c ∈ cs z → But r H H' → ReelAt H' r → Q (.str (sg c)) H') ∨
   (∃ p xs, row = .ref p ∧ p ≠ r ∧ SqL K H p xs ∧ 0 < xs.length ∧ ∀ v H', v ∈ xs → But r H H' → ReelAt H' r → Q v H'))
theorem ok_pick (T : Txt K mg) : FnOk P w K mg base CX0 2 T.a_law_pick T.fd_law_pick ["reel", "row"] (spPick K) := by
  have G_law_draw : FnOk P w K mg base CX0 1 T.a_law_draw T.fd_law_draw ["reel", "size"] spDraw := ok_draw T
  refine T.F_law_pick.ok sc_law_pick (fun vs H Q E h => ?_) (fun cdv A outer s H vs Q E hr h => ?_)
  · obtain ⟨r, n, rfl, _⟩ := h
    rfl
  · have hr_law_draw : Room 1 _ := hr
    obtain ⟨r, row, rfl, hr0, ⟨z, rfl, hz, hz2, q⟩ | ⟨p, xs, rfl, hp, hS, hx, q⟩⟩ := h
    · refine ⟨_, (pss_one (ps_ret (pe_ix ix_seq (pv 1) (pe_call G_law_draw hr_law_draw (by rfl) T.g_law_draw T.F_law_draw.kp T.b_law_draw .nil pass0 (pa_cons (pv 0) (pa_cons (pe_callB call_len (by rfl) T.m_len PySem.boot_len (pa_cons (pv 1) pa_nil)) pa_nil))) (fun _ _ => rfl)))), ?_⟩
      have hl := len_cs z
      refine ⟨_, rfl, _, rfl, _, rfl, _, z.length, rfl, ⟨sz1 (by omega), rfl⟩, r, _, rfl, hr0, by omega, fun v H' h0 h1 hb hR => ?_⟩
      have hv : v.toNat < (cs z).length := by omega
      exact .inr (.inr ⟨z, v, (cs z)[v.toNat], rfl, rfl, sz1 (by omega), at_of' h0 (List.getElem?_eq_getElem hv), q _ _ (List.getElem_mem hv) hb hR⟩)
    · refine ⟨_, (pss_one (ps_ret (pe_ix ix_seq (pv 1) (pe_call G_law_draw hr_law_draw (by rfl) T.g_law_draw T.F_law_draw.kp T.b_law_draw .nil pass0 (pa_cons (pv 0) (pa_cons (pe_callB call_len (by rfl) T.m_len PySem.boot_len (pa_cons (pv 1) pa_nil)) pa_nil))) (fun _ _ => rfl)))), ?_⟩
      refine ⟨_, rfl, _, rfl, _, rfl, _, xs.length, rfl, .inl ⟨xs, hS, rfl⟩, r, _, rfl, hr0, by omega, fun v H' h0 h1 hb hR => ?_⟩
      have hv : v.toNat < xs.length := by omega
      exact .inl ⟨p, xs, v, xs[v.toNat], rfl, rfl, hb.seq hp hS, at_of (j := v.toNat) (by omega) (List.getElem?_eq_getElem hv), q _ _ (List.getElem_mem hv) hb hR⟩
def spWord : Sp := fun vs H Q _ => ∃ (r : Addr) (z : Str) (a b : Int), vs = [.ref r, .str z, .int a, .int b] ∧ ReelAt H r ∧ 0 < (cs z).length ∧ (cs z).length ≤ 100000 ∧ 0 ≤ a ∧ a ≤ b ∧ b ≤ 50000 ∧
  ∀ (x : Str) H', a ≤ ((cs x).length : Int) → ((cs x).length : Int) ≤ b → (∀ c ∈ cs x, c ∈ cs z) → But r H H' → ReelAt H' r → Q (.str x) H'
theorem map_snoc (l : List Nat) (c : Nat) : ((l.map sg).map V.str) ++ [V.str (sg c)] = ((l ++ [c]).map sg).map V.str := by
  rw [List.map_append, List.map_append]
  rfl
theorem ok_word (T : Txt K mg) : FnOk P w K mg base CX0 3 T.a_law_word T.fd_law_word ["reel", "letters", "least", "most"] spWord := by
  have G_law_draw : FnOk P w K mg base CX0 1 T.a_law_draw T.fd_law_draw ["reel", "size"] spDraw := ok_draw T
  have G_law_pick : FnOk P w K mg base CX0 2 T.a_law_pick T.fd_law_pick ["reel", "row"] (spPick K) := ok_pick T
  refine T.F_law_word.ok sc_law_word (fun vs H Q E h => ?_) (fun cdv A outer s H vs Q E hr h => ?_)
  · obtain ⟨r, z, a, b, rfl, _⟩ := h
    rfl
  · have hr_law_draw : Room 1 _ := hr.mono (by decide)
    have hr_law_pick : Room 2 _ := hr
    obtain ⟨r, z, a, b, rfl, hr0, hz, hz2, h0, h1, h2, q⟩ := h
    refine ⟨_, (pss_one (ps_ret (pe_join pe_str (pe_lc (own := [("k", 4)]) (g := gName 4) (by rfl) sc_law_word.nd (pi_range1 (by rfl) T.m_range (pa_cons (pe_op op_add (pv 2) (pe_call G_law_draw hr_law_draw (by rfl) T.g_law_draw T.F_law_draw.kp T.b_law_draw .nil pass0 (pa_cons (pv 0) (pa_cons (pe_op op_add (pe_op op_sub (pv 3) (pv 2)) pe_int) pa_nil)))) pa_nil)) (blkOk_by (own := [("k", 4)]) (N := ["reel", "letters", "least", "most", "k"]) (sc := defScope s_law_word) (by decide +kernel)) (fun _ _ _ _ _ => pg_name (i := 4) sc_law_word.nd rfl (Or.inl rfl)) (fun _ _ _ _ _ => pts_nil) (fun _ _ _ _ _ => (pe_call G_law_pick hr_law_pick (by rfl) T.g_law_pick T.F_law_pick.kp T.b_law_pick .nil pass0 (pa_cons (pv 0) (pa_cons (pv 1) pa_nil)))))))), ?_⟩
    refine ⟨⟨_, rfl⟩, _, rfl, _, rfl, _, rfl, _, rfl, _, _, rfl, rfl, _, 1, rfl, rfl, r, _, rfl, hr0, by omega, fun v H1 v0 v1 hb1 hR1 => ?_⟩
    refine ⟨_, _, rfl, rfl, _, rfl, by omega, by omega, fun D nD => ?_⟩
    refine lc_range (lo := 0) (n := (a + v).toNat) (fun i H' => ∃ l : List Nat, H' D = some (.lst ((l.map sg).map V.str)) ∧ l.length = i ∧ (∀ c ∈ l, c ∈ cs z) ∧ But r H1 H' ∧ ReelAt H' r)
      ⟨[], upd_same, rfl, (fun c hc => absurd hc List.not_mem_nil), But.new nD, hR1.new nD⟩ ?_ ?_
    · rintro i H' hi ⟨l, hD, hl, hm, hb, hR⟩
      refine ⟨rfl, _, rfl, _, rfl, r, _, rfl, hR, .inl ⟨z, rfl, hz, hz2, fun c H2 hc hb2 hR2 => ?_⟩⟩
      have hDr : D ≠ r := (hR1.ne nD).symm
      have hD2 := hb2 D _ hDr hD
      refine ⟨_, hD2, sz2 (by rw [List.length_map, List.length_map]; omega), l ++ [c], ?_, ?_, ?_, ?_, ?_⟩
      · rw [upd_same, map_snoc]
      · rw [List.length_append, hl]
        rfl
      · intro x hx
        rcases List.mem_append.mp hx with hx | hx
        · exact hm x hx
        · rw [List.mem_singleton.mp hx]
          exact hc
      · exact fun b o n e => by
          rw [upd_ne (ne_of_none e nD)]
          exact hb2 b o n (hb b o n e)
      · obtain ⟨z1, c1, e1, e2⟩ := hR2
        exact ⟨z1, c1, by rw [upd_ne hDr.symm]; exact e1, e2⟩
    · rintro H' ⟨l, hD, hl, hm, hb, hR⟩
      refine ⟨_, _, _, rfl, rfl, .inl (SqL.of hD), ?_, ?_⟩
      · rw [sg_lens, List.length_map]
        show l.length + l.length * 0 ≤ _
        omega
      · rw [join_sg rfl]
        exact q _ _ (by show a ≤ (l.length : Int); omega) (by show (l.length : Int) ≤ b; omega) hm (hb1.trans hb) hR

/-! ### drawn texts -/
def spNumber : Sp := fun vs H Q _ => ∃ i, vs = [.int i] ∧ Q (.bl true) H
theorem ok_number (T : Txt K mg) : FnOk P w K mg base CX0 1 T.a_law_number T.fd_law_number ["value"] spNumber := by
  refine T.F_law_number.ok sc_law_number (fun vs H Q E h => ?_) (fun cdv A outer s H vs Q E hr h => ?_)
  · obtain ⟨i, rfl, _⟩ := h
    rfl
  · obtain ⟨i, rfl, q⟩ := h
    refine ⟨_, (pss_one (ps_ret (pe_and (pe_callB call_isi (by rfl) T.m_isinstance (by decide +kernel) (pa_cons (pv 0) (pa_cons (pe_bltn (v := .ty "int") (by rfl) T.m_int (by decide +kernel) rfl) pa_nil))) (pe_one (pe_not (pe_callB call_isi (by rfl) T.m_isinstance (by decide +kernel) (pa_cons (pv 0) (pa_cons (pe_bltn (v := .ty "bool") (by rfl) T.m_bool (by decide +kernel) rfl) pa_nil)))))))), ?_⟩
    refine ⟨_, rfl, _, _, _, _, true, rfl, .ty _, .base (.int i), kit_ty (by decide +kernel), true, rfl, iteT ⟨_, rfl, _, _, _, _, false, rfl, .ty _, .base (.int i), kit_ty (by decide +kernel), false, rfl, q⟩⟩
def spSigns : Sp := fun vs H Q _ => vs = [] ∧ ∀ z : Str, (cs z).length = 96 → TOk z → Q (.str z) H
theorem ok_signs (T : Txt K mg) : FnOk P w K mg base CX0 1 T.a_law_signs T.fd_law_signs [] spSigns := by
  refine T.F_law_signs.ok sc_law_signs (fun vs H Q E h => ?_) (fun cdv A outer s H vs Q E hr h => ?_)
  · obtain ⟨rfl, _⟩ := h
    rfl
  · obtain ⟨rfl, q⟩ := h
    refine ⟨_, (pss_cons (ps_set (i := 0) sc_law_signs.nd rfl (.inl rfl) pe_str)
      (pss_one (ps_ret (pe_op op_add_str (pv 0) pe_str)))), ?_⟩
    refine ⟨_, rfl, _, _, rfl, rfl, by decide +kernel, ?_⟩
    exact q _ (by decide +kernel) (tok_of (by decide +kernel))
/-- every item of a written list of ints -/
theorem ints_of {vs : List V} {lo hi : Int} (h : ∀ v ∈ vs, ∃ i, v = V.int i ∧ lo ≤ i ∧ i ≤ hi) {v : V} (m : v ∈ vs) : ∃ i, v = V.int i ∧ lo ≤ i ∧ i ≤ hi := h v m
def intsIn (lo hi : Int) : List V → Bool
  | [] => true
  | .int i :: r => decide (lo ≤ i) && decide (i ≤ hi) && intsIn lo hi r
  | _ :: _ => false
theorem intsIn_mem {lo hi : Int} : ∀ {vs : List V}, intsIn lo hi vs = true → ∀ v ∈ vs, ∃ i, v = V.int i ∧ lo ≤ i ∧ i ≤ hi
  | [], _, v, m => absurd m List.not_mem_nil
  | .int i :: r, h, v, m => by
    unfold intsIn at h
    simp only [Bool.and_eq_true, decide_eq_true_eq] at h
    rcases List.mem_cons.mp m with rfl | m
    · exact ⟨i, rfl, h.1.1, h.1.2⟩
    · exact intsIn_mem h.2 v m
  | .non :: _, h, _, _ => by cases h
  | .bl _ :: _, h, _, _ => by cases h
  | .str _ :: _, h, _, _ => by cases h
  | .byt _ :: _, h, _, _ => by cases h
  | .flt _ :: _, h, _, _ => by cases h
  | .ref _ :: _, h, _, _ => by cases h
  | .ty _ :: _, h, _, _ => by cases h
def strsIn (lo hi : Nat) : List V → Bool
  | [] => true
  | .str z :: r => decide (lo ≤ z.cps.size) && decide (z.cps.size ≤ hi) && tokB z && strsIn lo hi r
  | _ :: _ => false
theorem strsIn_mem {lo hi : Nat} : ∀ {vs : List V}, strsIn lo hi vs = true → ∀ v ∈ vs, ∃ z, v = V.str z ∧ lo ≤ (cs z).length ∧ (cs z).length ≤ hi ∧ TOk z
  | [], _, v, m => absurd m List.not_mem_nil
  | .str z :: r, h, v, m => by
    unfold strsIn at h
    simp only [Bool.and_eq_true, decide_eq_true_eq] at h
    rcases List.mem_cons.mp m with rfl | m
    · have e : (cs z).length = z.cps.size := by
        show z.cps.toList.length = _
        rw [Array.length_toList]
      exact ⟨z, rfl, by omega, by omega, tok_of h.1.2⟩
    · exact strsIn_mem h.2 v m
  | .non :: _, h, _, _ => by cases h
  | .bl _ :: _, h, _, _ => by cases h
  | .int _ :: _, h, _, _ => by cases h
  | .byt _ :: _, h, _, _ => by cases h
  | .flt _ :: _, h, _, _ => by cases h
  | .ref _ :: _, h, _, _ => by cases h
  | .ty _ :: _, h, _, _ => by cases h
theorem strs4 {z1 z2 : Str} {a b : Str} (h1 : (cs z1).length = 96) (h2 : (cs z2).length = 96) (o1 : TOk z1) (o2 : TOk z2) (ha : strsIn 1 96 [.str a, .str b] = true) {v : V} (m : v ∈ [V.str z1, V.str z2, V.str a, V.str b]) :
    ∃ z, v = V.str z ∧ 0 < (cs z).length ∧ (cs z).length ≤ 96 ∧ TOk z := by
  rcases List.mem_cons.mp m with rfl | m
  · exact ⟨z1, rfl, by omega, by omega, o1⟩
  rcases List.mem_cons.mp m with rfl | m
  · exact ⟨z2, rfl, by omega, by omega, o2⟩
  obtain ⟨z, e, h3, h4, h5⟩ := strsIn_mem ha v m
  exact ⟨z, e, by omega, h4, h5⟩
def spStepped : Sp := fun vs H Q _ => ∃ (r : Addr) (n : Int), vs = [.ref r, .int n] ∧ ReelAt H r ∧ 0 ≤ n ∧ n ≤ 50000 ∧ ∀ (x : Str) H', ((cs x).length : Int) = n → TOk x → But r H H' → ReelAt H' r → Q (.str x) H'
theorem ok_stepped (T : Txt K mg) : FnOk P w K mg base CX0 3 T.a_law_stepped T.fd_law_stepped ["reel", "size"] spStepped := by
  have G_law_draw : FnOk P w K mg base CX0 1 T.a_law_draw T.fd_law_draw ["reel", "size"] spDraw := ok_draw T
  have G_law_pick : FnOk P w K mg base CX0 2 T.a_law_pick T.fd_law_pick ["reel", "row"] (spPick K) := ok_pick T
  have G_law_signs : FnOk P w K mg base CX0 1 T.a_law_signs T.fd_law_signs [] spSigns := ok_signs T
  refine T.F_law_stepped.ok sc_law_stepped (fun vs H Q E h => ?_) (fun cdv A outer s H vs Q E hr h => ?_)
  · obtain ⟨r, n, rfl, _⟩ := h
    rfl
  · have hr_law_draw : Room 1 _ := hr.mono (by decide)
    have hr_law_signs : Room 1 _ := hr.mono (by decide)
    have hr_law_pick : Room 2 _ := hr
    obtain ⟨r, n, rfl, hr0, h0, h1, q⟩ := h
    refine ⟨_, (pss_cons (ps_set (i := 2) sc_law_stepped.nd rfl (.inr rfl) (pe_call G_law_pick hr_law_pick (by rfl) T.g_law_pick T.F_law_pick.kp T.b_law_pick .nil pass0 (pa_cons (pv 0) (pa_cons (pe_lst (pa_cons (pe_call0 G_law_signs hr_law_signs (by rfl) T.g_law_signs T.F_law_signs.kp T.b_law_signs .nil pass0) (pa_cons (pe_call0 G_law_signs hr_law_signs (by rfl) T.g_law_signs T.F_law_signs.kp T.b_law_signs .nil pass0) (pa_cons pe_str (pa_cons pe_str pa_nil))))) pa_nil))))
      (pss_cons (ps_set (i := 3) sc_law_stepped.nd rfl (.inr rfl) (pe_call G_law_draw hr_law_draw (by rfl) T.g_law_draw T.F_law_draw.kp T.b_law_draw .nil pass0 (pa_cons (pv 0) (pa_cons pe_int pa_nil))))
      (pss_cons (ps_set (i := 4) sc_law_stepped.nd rfl (.inr rfl) (pe_call G_law_pick hr_law_pick (by rfl) T.g_law_pick T.F_law_pick.kp T.b_law_pick .nil pass0 (pa_cons (pv 0) (pa_cons (pe_lst (pa_cons pe_int (pa_cons pe_int (pa_cons pe_int (pa_cons pe_int pa_nil))))) pa_nil))))
      (pss_one (ps_ret (pe_join pe_str (pe_lc (own := [("k", 5)]) (g := gName 5) (by rfl) sc_law_stepped.nd (pi_range1 (by rfl) T.m_range (pa_cons (pv 1) pa_nil)) (blkOk_by (own := [("k", 5)]) (N := ["reel", "size", "letters", "first", "step", "k"]) (sc := defScope s_law_stepped) (by decide +kernel)) (fun _ _ _ _ _ => pg_name (i := 5) sc_law_stepped.nd rfl (Or.inl rfl)) (fun _ _ _ _ _ => pts_nil) (fun _ _ _ _ _ => (pe_ix ix_str (pv 2) (pe_op op_modN (pe_callTy call_int1 (by rfl) T.m_int (by decide +kernel) (pa_cons (pe_op op_add (pv 3) (pe_op op_mul (pv 5) (pv 4))) pa_nil)) (pe_callB call_len_str (by rfl) T.m_len PySem.boot_len (pa_cons (pv 2) pa_nil))) (fun _ _ => rfl)))))))))), ?_⟩
    -- letters
    refine ⟨_, rfl, rfl, fun z1 l1 o1 => ⟨rfl, fun z2 l2 o2 => ⟨by show 4 ≤ sizeLine; decide, fun p np => ?_⟩⟩⟩
    refine ⟨r, _, rfl, hr0.new np, .inr ⟨p, _, rfl, (hr0.ne np).symm, SqL.of upd_same, by show 0 < 4; decide, fun v H1 hv hb1 hR1 => ?_⟩⟩
    obtain ⟨z, rfl, hz0, hz1, hzo⟩ := strs4 l1 l2 o1 o2 (by decide +kernel) hv
    have hb1' : But r H H1 := (But.new np).trans hb1
    -- first
    refine ⟨_, rfl, r, _, rfl, hR1, by decide, fun f H2 f0 f1 hb2 hR2 => ?_⟩
    -- step
    refine ⟨_, rfl, by show 4 ≤ sizeLine; decide, fun p2 np2 => ?_⟩
    refine ⟨r, _, rfl, hR2.new np2, .inr ⟨p2, _, rfl, (hR2.ne np2).symm, SqL.of upd_same, by show 0 < 4; decide, fun v H3 hv hb3 hR3 => ?_⟩⟩
    obtain ⟨st, rfl, hs0, hs1⟩ : ∃ i : Int, v = .int i ∧ 0 ≤ i ∧ i ≤ 100 := by
      rcases List.mem_cons.mp hv with rfl | hv
      · exact ⟨1, rfl, by decide, by decide⟩
      rcases List.mem_cons.mp hv with rfl | hv
      · exact ⟨5, rfl, by decide, by decide⟩
      rcases List.mem_cons.mp hv with rfl | hv
      · exact ⟨7, rfl, by decide, by decide⟩
      rcases List.mem_cons.mp hv with rfl | hv
      · exact ⟨95, rfl, by decide, by decide⟩
      · exact absurd hv List.not_mem_nil
    have hb3' : But r H H3 := hb1'.trans (hb2.trans ((But.new np2).trans hb3))
    refine ⟨⟨_, rfl⟩, _, rfl, n, rfl, by omega, by omega, fun D nD => ?_⟩
    refine lc_range (lo := 0) (n := n.toNat) (fun i H' => ∃ l : List Nat, H' D = some (.lst ((l.map sg).map V.str)) ∧ l.length = i ∧ (∀ c ∈ l, c < 1114112) ∧ But r H3 H' ∧ ReelAt H' r)
      ⟨[], upd_same, rfl, (fun c hc => absurd hc List.not_mem_nil), But.new nD, hR3.new nD⟩ ?_ ?_
    · rintro i H' hi ⟨l, hD, hl, hlo, hb, hR⟩
      have fm := fmod_range (f + (0 + (i : Int)) * st) (n := (z.length : Int)) (by rw [len_cs]; omega)
      have hlz := len_cs z
      have hv : ((f + (0 + (i : Int)) * st).fmod (z.length : Int)).toNat < (cs z).length := by omega
      obtain ⟨c, hc⟩ : ∃ c, (cs z)[((f + (0 + (i : Int)) * st).fmod (z.length : Int)).toNat]? = some c := ⟨_, List.getElem?_eq_getElem hv⟩
      refine ⟨rfl, _, rfl, _, rfl, _, rfl, _, rfl, _, _, rfl, rfl, .inr ⟨by omega, by omega⟩, _, _, rfl, rfl, .inl ⟨_, rfl, ?_⟩⟩
      refine ⟨_, rfl, z, rfl, sz1 (by omega), _, _, rfl, rfl, by omega, z, _, c, rfl, rfl, sz1 (by omega), at_of' fm.1 hc, ?_⟩
      have hDr : D ≠ r := (hR3.ne nD).symm
      refine ⟨_, hD, sz2 (by rw [List.length_map, List.length_map]; omega), l ++ [c], ?_, ?_, ?_, ?_, ?_⟩
      · rw [upd_same, map_snoc]
      · rw [List.length_append, hl]
        rfl
      · intro x hx
        rcases List.mem_append.mp hx with hx | hx
        · exact hlo x hx
        · rw [List.mem_singleton.mp hx]
          exact hzo c (List.mem_of_getElem? hc)
      · exact fun b o n e => by
          rw [upd_ne (ne_of_none e nD)]
          exact hb b o n e
      · obtain ⟨z1, c1, e1, e2⟩ := hR
        exact ⟨z1, c1, by rw [upd_ne hDr.symm]; exact e1, e2⟩
    · rintro H' ⟨l, hD, hl, hlo, hb, hR⟩
      refine ⟨_, _, _, rfl, rfl, .inl (SqL.of hD), ?_, ?_⟩
      · rw [sg_lens, List.length_map]
        show l.length + l.length * 0 ≤ _
        omega
      · rw [join_sg rfl]
        exact q _ _ (by show (l.length : Int) = n; omega) hlo (hb3'.trans hb) hR
/-- a text of at most n signs -/
def spText (m : Nat) : Sp := fun vs H Q _ => ∃ (r : Addr), vs = [.ref r] ∧ ReelAt H r ∧ ∀ (x : Str) H', (cs x).length ≤ m → TOk x → But r H H' → ReelAt H' r → Q (.str x) H'

theorem ok_text (T : Txt K mg) : FnOk P w K mg base CX0 4 T.a_law_text T.fd_law_text ["reel"] (spText 2000) := by
  have G_law_draw : FnOk P w K mg base CX0 1 T.a_law_draw T.fd_law_draw ["reel", "size"] spDraw := ok_draw T
  have G_law_pick : FnOk P w K mg base CX0 2 T.a_law_pick T.fd_law_pick ["reel", "row"] (spPick K) := ok_pick T
  have G_law_word : FnOk P w K mg base CX0 3 T.a_law_word T.fd_law_word ["reel", "letters", "least", "most"] spWord := ok_word T
  have G_law_signs : FnOk P w K mg base CX0 1 T.a_law_signs T.fd_law_signs [] spSigns := ok_signs T
  have G_law_stepped : FnOk P w K mg base CX0 3 T.a_law_stepped T.fd_law_stepped ["reel", "size"] spStepped := ok_stepped T
  refine T.F_law_text.ok sc_law_text (fun vs H Q E h => ?_) (fun cdv A outer s H vs Q E hr h => ?_)
  · obtain ⟨r, rfl, _⟩ := h
    rfl
  · have hr_law_draw : Room 1 _ := hr.mono (by decide)
    have hr_law_signs : Room 1 _ := hr.mono (by decide)
    have hr_law_pick : Room 2 _ := hr.mono (by decide)
    have hr_law_word : Room 3 _ := hr
    have hr_law_stepped : Room 3 _ := hr
    obtain ⟨r, rfl, hr0, q⟩ := h
    refine ⟨_, (pss_cons (ps_set (i := 1) sc_law_text.nd rfl (.inl rfl) (pe_call G_law_draw hr_law_draw (by rfl) T.g_law_draw T.F_law_draw.kp T.b_law_draw .nil pass0 (pa_cons (pv 0) (pa_cons pe_int pa_nil))))
      (pss_cons (ps_if (pt_cmpR op_eq (pv 1) pe_int (nomark _)) (pss_cons (ps_set (i := 2) sc_law_text.nd rfl (.inl rfl) (pe_op op_add pe_int (pe_call G_law_draw hr_law_draw (by rfl) T.g_law_draw T.F_law_draw.kp T.b_law_draw .nil pass0 (pa_cons (pv 0) (pa_cons pe_int pa_nil)))))
      (pss_cons (ps_if (pt_cmpR op_eq (pe_call G_law_draw hr_law_draw (by rfl) T.g_law_draw T.F_law_draw.kp T.b_law_draw .nil pass0 (pa_cons (pv 0) (pa_cons pe_int pa_nil))) pe_int (nomark _)) (pss_one (ps_set (i := 2) sc_law_text.nd rfl (.inl rfl) (pe_op op_sub pe_int (pe_call G_law_draw hr_law_draw (by rfl) T.g_law_draw T.F_law_draw.kp T.b_law_draw .nil pass0 (pa_cons (pv 0) (pa_cons pe_int pa_nil)))))) pss_nil)
      (pss_one (ps_ret (pe_call G_law_stepped hr_law_stepped (by rfl) T.g_law_stepped T.F_law_stepped.kp T.b_law_stepped .nil pass0 (pa_cons (pv 0) (pa_cons (pv 2) pa_nil))))))) pss_nil)
      (pss_cons (ps_if (pt_cmpR op_lt (pv 1) pe_int (nomark _)) (pss_one (ps_ret (pe_call G_law_stepped hr_law_stepped (by rfl) T.g_law_stepped T.F_law_stepped.kp T.b_law_stepped .nil pass0 (pa_cons (pv 0) (pa_cons (pe_call G_law_pick hr_law_pick (by rfl) T.g_law_pick T.F_law_pick.kp T.b_law_pick .nil pass0 (pa_cons (pv 0) (pa_cons (pe_lst (pa_cons pe_int (pa_cons pe_int (pa_cons pe_int (pa_cons pe_int (pa_cons pe_int (pa_cons pe_int (pa_cons pe_int pa_nil)))))))) pa_nil))) pa_nil))))) pss_nil)
      (pss_one (ps_ret (pe_call G_law_word hr_law_word (by rfl) T.g_law_word T.F_law_word.kp T.b_law_word .nil pass0 (pa_cons (pv 0) (pa_cons (pe_call G_law_pick hr_law_pick (by rfl) T.g_law_pick T.F_law_pick.kp T.b_law_pick .nil pass0 (pa_cons (pv 0) (pa_cons (pe_lst (pa_cons (pe_call0 G_law_signs hr_law_signs (by rfl) T.g_law_signs T.F_law_signs.kp T.b_law_signs .nil pass0) (pa_cons (pe_call0 G_law_signs hr_law_signs (by rfl) T.g_law_signs T.F_law_signs.kp T.b_law_signs .nil pass0) (pa_cons pe_str (pa_cons pe_str pa_nil))))) pa_nil))) (pa_cons pe_int (pa_cons (pe_call G_law_pick hr_law_pick (by rfl) T.g_law_pick T.F_law_pick.kp T.b_law_pick .nil pass0 (pa_cons (pv 0) (pa_cons (pe_lst (pa_cons pe_int (pa_cons pe_int (pa_cons pe_int (pa_cons pe_int pa_nil))))) pa_nil))) pa_nil)))))))))), ?_⟩
    -- form
    refine ⟨_, rfl, r, _, rfl, hr0, by decide, fun f H1 f0 f1 hb1 hR1 => ?_⟩
    refine ⟨_, rfl, rfl, _, rfl, ite2 (fun e => ?_) (fun e => ?_)⟩
    · refine ⟨_, rfl, r, _, rfl, hR1, by decide, fun a H2 a0 a1 hb2 hR2 => ?_⟩
      refine ⟨200, a, rfl, rfl, ?_⟩
      refine ⟨_, rfl, r, _, rfl, hR2, by decide, fun b H3 b0 b1 hb3 hR3 => ?_⟩
      have hb := hb1.trans (hb2.trans hb3)
      refine ⟨rfl, _, rfl, ite2 (fun e => ?_) (fun e => ?_)⟩
      · refine ⟨_, rfl, r, _, rfl, hR3, by decide, fun c H4 c0 c1 hb4 hR4 => ?_⟩
        refine ⟨2000, c, rfl, rfl, _, rfl, _, rfl, r, _, rfl, hR4, by omega, by omega, fun x H5 hx ho hb5 hR5 => ?_⟩
        exact q x H5 (by omega) ho (hb.trans (hb4.trans hb5)) hR5
      · refine ⟨_, rfl, _, rfl, r, _, rfl, hR3, by omega, by omega, fun x H5 hx ho hb5 hR5 => ?_⟩
        exact q x H5 (by omega) ho (hb.trans hb5) hR5
    · refine ⟨_, rfl, f, 4, rfl, rfl, _, rfl, ite2 (fun e => ?_) (fun e => ?_)⟩
      · refine ⟨_, rfl, _, rfl, by show 7 ≤ sizeLine; decide, fun p np => ?_⟩
        refine ⟨r, _, rfl, hR1.new np, .inr ⟨p, _, rfl, (hR1.ne np).symm, SqL.of upd_same, by show 0 < 7; decide, fun v H2 hv hb2 hR2 => ?_⟩⟩
        obtain ⟨i, rfl, i0, i1⟩ := intsIn_mem (lo := 0) (hi := 60) (by decide +kernel) v hv
        refine ⟨r, _, rfl, hR2, i0, by omega, fun x H5 hx ho hb5 hR5 => ?_⟩
        exact q x H5 (by omega) ho (hb1.trans ((But.new np).trans (hb2.trans hb5))) hR5
      · refine ⟨_, rfl, _, rfl, rfl, fun z1 l1 o1 => ⟨rfl, fun z2 l2 o2 => ⟨by show 4 ≤ sizeLine; decide, fun p np => ?_⟩⟩⟩
        refine ⟨r, _, rfl, hR1.new np, .inr ⟨p, _, rfl, (hR1.ne np).symm, SqL.of upd_same, by show 0 < 4; decide, fun v H2 hv hb2 hR2 => ?_⟩⟩
        obtain ⟨z, rfl, hz0, hz1, hzo⟩ := strs4 l1 l2 o1 o2 (by decide +kernel) hv
        refine ⟨_, rfl, by show 4 ≤ sizeLine; decide, fun p2 np2 => ?_⟩
        refine ⟨r, _, rfl, hR2.new np2, .inr ⟨p2, _, rfl, (hR2.ne np2).symm, SqL.of upd_same, by show 0 < 4; decide, fun v H3 hv hb3 hR3 => ?_⟩⟩
        obtain ⟨i, rfl, i0, i1⟩ := intsIn_mem (lo := 1) (hi := 20) (by decide +kernel) v hv
        refine ⟨r, z, 0, i, rfl, hR3, hz0, by omega, by decide, by omega, by omega, fun x H5 hx hx2 hxz hb5 hR5 => ?_⟩
        exact q x H5 (by omega) (fun c hc => hzo c (hxz c hc)) (hb1.trans ((But.new np).trans (hb2.trans ((But.new np2).trans (hb3.trans hb5))))) hR5

theorem ok_new (T : Txt K mg) : FnOk P w K mg base CX0 4 T.a_law_new T.fd_law_new ["reel"] (spText 300) := by
  have G_law_draw : FnOk P w K mg base CX0 1 T.a_law_draw T.fd_law_draw ["reel", "size"] spDraw := ok_draw T
  have G_law_pick : FnOk P w K mg base CX0 2 T.a_law_pick T.fd_law_pick ["reel", "row"] (spPick K) := ok_pick T
  have G_law_word : FnOk P w K mg base CX0 3 T.a_law_word T.fd_law_word ["reel", "letters", "least", "most"] spWord := ok_word T
  have G_law_signs : FnOk P w K mg base CX0 1 T.a_law_signs T.fd_law_signs [] spSigns := ok_signs T
  have G_law_stepped : FnOk P w K mg base CX0 3 T.a_law_stepped T.fd_law_stepped ["reel", "size"] spStepped := ok_stepped T
  refine T.F_law_new.ok sc_law_new (fun vs H Q E h => ?_) (fun cdv A outer s H vs Q E hr h => ?_)
  · obtain ⟨r, rfl, _⟩ := h
    rfl
  · have hr_law_draw : Room 1 _ := hr.mono (by decide)
    have hr_law_signs : Room 1 _ := hr.mono (by decide)
    have hr_law_pick : Room 2 _ := hr.mono (by decide)
    have hr_law_word : Room 3 _ := hr
    have hr_law_stepped : Room 3 _ := hr
    obtain ⟨r, rfl, hr0, q⟩ := h
    refine ⟨_, (pss_cons (ps_if (pt_cmpR op_eq (pe_call G_law_draw hr_law_draw (by rfl) T.g_law_draw T.F_law_draw.kp T.b_law_draw .nil pass0 (pa_cons (pv 0) (pa_cons pe_int pa_nil))) pe_int (nomark _)) (pss_one (ps_ret (pe_call G_law_stepped hr_law_stepped (by rfl) T.g_law_stepped T.F_law_stepped.kp T.b_law_stepped .nil pass0 (pa_cons (pv 0) (pa_cons (pe_call G_law_pick hr_law_pick (by rfl) T.g_law_pick T.F_law_pick.kp T.b_law_pick .nil pass0 (pa_cons (pv 0) (pa_cons (pe_lst (pa_cons pe_int (pa_cons pe_int (pa_cons pe_int (pa_cons pe_int (pa_cons pe_int (pa_cons pe_int (pa_cons pe_int (pa_cons pe_int (pa_cons pe_int pa_nil)))))))))) pa_nil))) pa_nil))))) pss_nil)
      (pss_cons (ps_set (i := 1) sc_law_new.nd rfl (.inl rfl) (pe_call G_law_pick hr_law_pick (by rfl) T.g_law_pick T.F_law_pick.kp T.b_law_pick .nil pass0 (pa_cons (pv 0) (pa_cons (pe_lst (pa_cons pe_int (pa_cons pe_int (pa_cons pe_int (pa_cons pe_int (pa_cons pe_int (pa_cons pe_int (pa_cons pe_int (pa_cons pe_int pa_nil))))))))) pa_nil))))
      (pss_one (ps_ret (pe_call G_law_word hr_law_word (by rfl) T.g_law_word T.F_law_word.kp T.b_law_word .nil pass0 (pa_cons (pv 0) (pa_cons (pe_call G_law_pick hr_law_pick (by rfl) T.g_law_pick T.F_law_pick.kp T.b_law_pick .nil pass0 (pa_cons (pv 0) (pa_cons (pe_lst (pa_cons (pe_call0 G_law_signs hr_law_signs (by rfl) T.g_law_signs T.F_law_signs.kp T.b_law_signs .nil pass0) (pa_cons (pe_call0 G_law_signs hr_law_signs (by rfl) T.g_law_signs T.F_law_signs.kp T.b_law_signs .nil pass0) (pa_cons pe_str (pa_cons pe_str pa_nil))))) pa_nil))) (pa_cons (pv 1) (pa_cons (pv 1) pa_nil))))))))), ?_⟩
    refine ⟨_, rfl, r, _, rfl, hr0, by decide, fun f H1 f0 f1 hb1 hR1 => ?_⟩
    refine ⟨rfl, _, rfl, ite2 (fun e => ?_) (fun e => ?_)⟩
    · refine ⟨_, rfl, _, rfl, by show 9 ≤ sizeLine; decide, fun p np => ?_⟩
      refine ⟨r, _, rfl, hR1.new np, .inr ⟨p, _, rfl, (hR1.ne np).symm, SqL.of upd_same, by show 0 < 9; decide, fun v H2 hv hb2 hR2 => ?_⟩⟩
      obtain ⟨i, rfl, i0, i1⟩ := intsIn_mem (lo := 15) (hi := 300) (by decide +kernel) v hv
      refine ⟨r, _, rfl, hR2, by omega, by omega, fun x H5 hx ho hb5 hR5 => ?_⟩
      exact q x H5 (by omega) ho (hb1.trans ((But.new np).trans (hb2.trans hb5))) hR5
    · refine ⟨_, rfl, by show 8 ≤ sizeLine; decide, fun p np => ?_⟩
      refine ⟨r, _, rfl, hR1.new np, .inr ⟨p, _, rfl, (hR1.ne np).symm, SqL.of upd_same, by show 0 < 8; decide, fun v H2 hv hb2 hR2 => ?_⟩⟩
      obtain ⟨i, rfl, i0, i1⟩ := intsIn_mem (lo := 0) (hi := 5) (by decide +kernel) v hv
      refine ⟨_, rfl, _, rfl, rfl, fun z1 l1 o1 => ⟨rfl, fun z2 l2 o2 => ⟨by show 4 ≤ sizeLine; decide, fun p2 np2 => ?_⟩⟩⟩
      refine ⟨r, _, rfl, hR2.new np2, .inr ⟨p2, _, rfl, (hR2.ne np2).symm, SqL.of upd_same, by show 0 < 4; decide, fun v H3 hv hb3 hR3 => ?_⟩⟩
      obtain ⟨z, rfl, hz0, hz1, hzo⟩ := strs4 l1 l2 o1 o2 (by decide +kernel) hv
      refine ⟨_, rfl, _, rfl, r, z, i, i, rfl, hR3, hz0, by omega, by omega, by omega, by omega, fun x H5 hx hx2 hxz hb5 hR5 => ?_⟩
      exact q x H5 (by omega) (fun c hc => hzo c (hxz c hc)) (hb1.trans ((But.new np).trans (hb2.trans ((But.new np2).trans (hb3.trans hb5))))) hR5


/-! ### edits, in plain Lean -/
abbrev Ed := Int × Int × Str
abbrev Ed.len (e : Ed) : Nat := (cs e.2.2).length
/-- a text with a stretch replaced -/
def spliceL (t : List Nat) (a b : Nat) (s : List Nat) : List Nat := t.take a ++ s ++ t.drop b
def spl1 (t : List Nat) (e : Ed) : List Nat := spliceL t e.1.toNat e.2.1.toNat (cs e.2.2)
def appl (t : List Nat) (es : List Ed) : List Nat := es.foldl spl1 t
def fit1 (n : Nat) (e : Ed) : Prop := 0 ≤ e.1 ∧ e.1 ≤ e.2.1 ∧ e.2.1 ≤ (n : Int)
instance (n : Nat) (e : Ed) : Decidable (fit1 n e) := by unfold fit1; infer_instance
def size1 (n : Nat) (e : Ed) : Nat := n - (e.2.1.toNat - e.1.toNat) + e.len
def sizeL (n : Nat) (es : List Ed) : Nat := es.foldl size1 n
def fitsL : Nat → List Ed → Prop
  | _, [] => True
  | n, e :: r => fit1 n e ∧ fitsL (size1 n e) r
/-- the index of the first edit that does not fit -/
def unfit : Nat → List Ed → Option Nat
  | _, [] => none
  | n, e :: r => if fit1 n e then (unfit (size1 n e) r).map (· + 1) else some 0
theorem spliceL_len {t s : List Nat} {a b : Nat} (h : a ≤ b) : (spliceL t a b s).length ≤ t.length + s.length := by
  unfold spliceL
  rw [List.length_append, List.length_append, List.length_take, List.length_drop]
  omega
theorem spl1_len {t : List Nat} {e : Ed} (h : fit1 t.length e) : (spl1 t e).length = size1 t.length e := by
  obtain ⟨h1, h2, h3⟩ := h
  unfold spl1 spliceL size1 Ed.len
  rw [List.length_append, List.length_append, List.length_take, List.length_drop]
  omega
theorem fitsL_snoc : ∀ (n : Nat) (es : List Ed) (e : Ed), fitsL n (es ++ [e]) ↔ fitsL n es ∧ fit1 (sizeL n es) e
  | n, [], e => by
    show fit1 n e ∧ True ↔ True ∧ fit1 n e
    simp
  | n, x :: r, e => by
    show fit1 n x ∧ fitsL (size1 n x) (r ++ [e]) ↔ (fit1 n x ∧ fitsL (size1 n x) r) ∧ fit1 (sizeL (size1 n x) r) e
    rw [fitsL_snoc (size1 n x) r e, and_assoc]
theorem appl_snoc (t : List Nat) (es : List Ed) (e : Ed) : appl t (es ++ [e]) = spl1 (appl t es) e := by
  unfold appl
  rw [List.foldl_append]
  rfl
theorem sizeL_snoc (n : Nat) (es : List Ed) (e : Ed) : sizeL n (es ++ [e]) = size1 (sizeL n es) e := by
  unfold sizeL
  rw [List.foldl_append]
  rfl
theorem appl_len : ∀ {t : List Nat} {es : List Ed}, fitsL t.length es → (appl t es).length = sizeL t.length es
  | t, [], _ => rfl
  | t, e :: r, h => by
    obtain ⟨h1, h2⟩ := h
    have e1 := spl1_len h1
    show (appl (spl1 t e) r).length = sizeL (size1 t.length e) r
    rw [← e1] at h2 ⊢
    exact appl_len h2
theorem fitsL_take : ∀ {n : Nat} {es : List Ed} (k : Nat), fitsL n es → fitsL n (es.take k)
  | _, [], k, _ => by rw [List.take_nil]; exact True.intro
  | _, _ :: _, 0, _ => True.intro
  | _, _ :: _, k + 1, h => ⟨h.1, fitsL_take k h.2⟩
theorem unfit_none : ∀ {n : Nat} {es : List Ed}, unfit n es = none ↔ fitsL n es
  | _, [] => by
    show none = none ↔ True
    simp
  | n, e :: r => by
    show (if fit1 n e then (unfit (size1 n e) r).map (· + 1) else some 0) = none ↔ fit1 n e ∧ fitsL (size1 n e) r
    by_cases h : fit1 n e
    · rw [if_pos h, Option.map_eq_none_iff, unfit_none]
      simp [h]
    · rw [if_neg h]
      simp [h]
theorem unfit_take : ∀ {n k : Nat} {es : List Ed}, unfit n es = some k → fitsL n (es.take k) ∧ k < es.length
  | _, _, [], h => by cases h
  | n, k, e :: r, h => by
    have h' : (if fit1 n e then (unfit (size1 n e) r).map (· + 1) else some 0) = some k := h
    by_cases c : fit1 n e
    · rw [if_pos c] at h'
      obtain ⟨j, h1, h2⟩ := Option.map_eq_some_iff.mp h'
      subst h2
      obtain ⟨h3, h4⟩ := unfit_take h1
      exact ⟨⟨c, h3⟩, Nat.succ_lt_succ h4⟩
    · rw [if_neg c] at h'
      cases h'
      exact ⟨True.intro, Nat.succ_pos _⟩
/-- the edit that leads back -/
def back1 (t : List Nat) (e : Ed) : Ed := (e.1, e.1 + (e.len : Int), ⟨((t.take e.2.1.toNat).drop e.1.toNat).toArray⟩)
/-- the edits that lead back, the last one first -/
def backL : List Nat → List Ed → List Ed
  | _, [] => []
  | t, e :: r => backL (spl1 t e) r ++ [back1 t e]
theorem backL_len : ∀ (t : List Nat) (es : List Ed), (backL t es).length = es.length
  | _, [] => rfl
  | t, e :: r => by
    show (backL (spl1 t e) r ++ [back1 t e]).length = r.length + 1
    rw [List.length_append, backL_len]
    rfl
theorem backL_snoc : ∀ (t : List Nat) (es : List Ed) (e : Ed), backL t (es ++ [e]) = back1 (appl t es) e :: backL t es
  | _, [], _ => rfl
  | t, x :: r, e => by
    show backL (spl1 t x) (r ++ [e]) ++ [back1 t x] = back1 (appl (spl1 t x) r) e :: (backL (spl1 t x) r ++ [back1 t x])
    rw [backL_snoc (spl1 t x) r e]
    rfl
theorem cs_toArray (l : List Nat) : cs ⟨l.toArray⟩ = l := rfl
/-- one step there, one step back -/
theorem back1_spl {t : List Nat} {e : Ed} (h : fit1 t.length e) : fit1 (spl1 t e).length (back1 t e) ∧ spl1 (spl1 t e) (back1 t e) = t ∧ back1 (spl1 t e) (back1 t e) = e := by
  obtain ⟨a, b, s⟩ := e
  obtain ⟨h1, h2, h3⟩ := h
  simp only at h1 h2 h3
  obtain ⟨a, rfl⟩ : ∃ n : Nat, a = (n : Int) := ⟨a.toNat, by omega⟩
  obtain ⟨b, rfl⟩ : ∃ n : Nat, b = (n : Int) := ⟨b.toNat, by omega⟩
  have hab : a ≤ b := by omega
  have hb : b ≤ t.length := by omega
  have la : (t.take a).length = a := by rw [List.length_take]; omega
  have lm : ((t.take b).drop a).length = b - a := by rw [List.length_drop, List.length_take]; omega
  have e1 : spl1 t ((a : Int), (b : Int), s) = t.take a ++ cs s ++ t.drop b := rfl
  have ea : ((a : Int) + ((cs s).length : Int)).toNat = a + (cs s).length := by omega
  have tk : (t.take a ++ cs s ++ t.drop b).take a = t.take a := by
    rw [List.append_assoc, List.take_append_of_le_length (by omega), List.take_of_length_le (by omega)]
  have dr : (t.take a ++ cs s ++ t.drop b).drop (a + (cs s).length) = t.drop b := by
    have : a + (cs s).length = (t.take a ++ cs s).length := by rw [List.length_append, la]
    rw [this, List.drop_left]
  have tt : t.take a ++ (t.take b).drop a ++ t.drop b = t := by
    have h1 : t.take a ++ (t.take b).drop a = t.take b := by
      have h2 : (t.take b).take a = t.take a := by rw [List.take_take, Nat.min_eq_left hab]
      rw [← h2, List.take_append_drop]
    rw [h1, List.take_append_drop]
  refine ⟨⟨by show (0 : Int) ≤ (a : Int); omega, by show (a : Int) ≤ (a : Int) + ((cs s).length : Int); omega, ?_⟩, ?_, ?_⟩
  · show (a : Int) + ((cs s).length : Int) ≤ ((spl1 t ((a : Int), (b : Int), s)).length : Int)
    rw [e1, List.length_append, List.length_append, la]
    omega
  · show (spl1 t ((a : Int), (b : Int), s)).take ((a : Int)).toNat ++ (t.take ((b : Int)).toNat).drop ((a : Int)).toNat ++ (spl1 t ((a : Int), (b : Int), s)).drop ((a : Int) + ((cs s).length : Int)).toNat = t
    rw [e1, ea, Int.toNat_natCast, Int.toNat_natCast, tk, dr, tt]
  · have c2 : (((t.take a ++ cs s ++ t.drop b).take (a + (cs s).length)).drop a) = cs s := by
      have h3 : a + (cs s).length = (t.take a ++ cs s).length := by rw [List.length_append, la]
      rw [h3, List.take_left]
      have h4 : (t.take a ++ cs s).drop a = (t.take a ++ cs s).drop (t.take a).length := by rw [la]
      rw [h4, List.drop_left]
    show (((a : Int)), (a : Int) + ((((t.take ((b : Int)).toNat).drop ((a : Int)).toNat).length : Nat) : Int), (⟨(((spl1 t ((a : Int), (b : Int), s)).take ((a : Int) + ((cs s).length : Int)).toNat).drop ((a : Int)).toNat).toArray⟩ : Str)) = ((a : Int), (b : Int), s)
    rw [e1, ea, Int.toNat_natCast, Int.toNat_natCast, c2, lm]
    have h5 : (a : Int) + ((b - a : Nat) : Int) = (b : Int) := by omega
    rw [h5]
theorem fitsL_app : ∀ {n : Nat} {es fs : List Ed}, fitsL n (es ++ fs) ↔ fitsL n es ∧ fitsL (sizeL n es) fs
  | n, [], fs => by
    show fitsL n fs ↔ True ∧ fitsL n fs
    simp
  | n, e :: r, fs => by
    show fit1 n e ∧ fitsL (size1 n e) (r ++ fs) ↔ (fit1 n e ∧ fitsL (size1 n e) r) ∧ fitsL (sizeL (size1 n e) r) fs
    rw [fitsL_app, and_assoc]
theorem appl_app (t : List Nat) (es fs : List Ed) : appl t (es ++ fs) = appl (appl t es) fs := by
  unfold appl
  rw [List.foldl_append]
theorem rev_ind {α : Type} {P : List α → Prop} (h0 : P []) (h1 : ∀ l a, P l → P (l ++ [a])) (l : List α) : P l := by
  have h : ∀ m : List α, P m.reverse := by
    intro m
    induction m with
    | nil => exact h0
    | cons a m ih =>
      rw [List.reverse_cons]
      exact h1 _ a ih
  have e := h l.reverse
  rw [List.reverse_reverse] at e
  exact e
/-- THE WAY BACK, k steps of it -/
theorem back_way : ∀ (k : Nat) {t : List Nat} {es : List Ed}, fitsL t.length es → k ≤ es.length →
    fitsL (appl t es).length ((backL t es).take k) ∧ appl (appl t es) ((backL t es).take k) = appl t (es.take (es.length - k)) := by
  intro k t es
  induction es using rev_ind generalizing k with
  | h0 =>
    intro _ hk
    have : k = 0 := by simpa using hk
    subst this
    exact ⟨True.intro, rfl⟩
  | h1 es e ih =>
    intro h hk
    obtain ⟨h1, h2⟩ := (fitsL_snoc _ _ _).mp h
    rw [← appl_len h1] at h2
    obtain ⟨b1, b2, _⟩ := back1_spl h2
    rw [backL_snoc, appl_snoc]
    cases k with
    | zero =>
      refine ⟨True.intro, ?_⟩
      rw [Nat.sub_zero, List.take_length, appl_snoc]
      rfl
    | succ k =>
      have hk' : k ≤ es.length := by
        rw [List.length_append] at hk
        simp only [List.length_singleton] at hk
        omega
      obtain ⟨i1, i2⟩ := ih k h1 hk'
      rw [List.take_succ_cons]
      refine ⟨⟨b1, ?_⟩, ?_⟩
      · rw [← spl1_len b1, b2]
        exact i1
      · show appl (spl1 (spl1 (appl t es) e) (back1 (appl t es) e)) ((backL t es).take k) = _
        rw [b2, i2]
        have e2 : (es ++ [e]).length - (k + 1) = es.length - k := by
          rw [List.length_append]
          simp only [List.length_singleton]
          omega
        rw [e2, List.take_append_of_le_length (by omega)]
/-- the way back of the way back -/
theorem back_back : ∀ {es : List Ed} {t : List Nat}, fitsL t.length es → backL (appl t es) (backL t es) = es := by
  intro es
  induction es using rev_ind with
  | h0 =>
    intro t _
    rfl
  | h1 es e ih =>
    intro t h
    obtain ⟨h1, h2⟩ := (fitsL_snoc _ _ _).mp h
    rw [← appl_len h1] at h2
    obtain ⟨b1, b2, b3⟩ := back1_spl h2
    rw [backL_snoc, appl_snoc]
    show backL (spl1 (spl1 (appl t es) e) (back1 (appl t es) e)) (backL t es) ++ [back1 (spl1 (appl t es) e) (back1 (appl t es) e)] = es ++ [e]
    rw [b2, b3, ih h1]

/-! ### edits -/
/-- the tuple of an edit -/
def EdAt (H : Hp) (v : V) (e : Ed) : Prop := ∃ t, v = .ref t ∧ H t = some (.tup [.int e.1, .int e.2.1, .str e.2.2])
/-- tuples stand as they stood -/
def Tups (H H' : Hp) : Prop := ∀ b xs, H b = some (.tup xs) → H' b = some (.tup xs)
theorem Tups.refl (H : Hp) : Tups H H := fun _ _ h => h
theorem Tups.trans {H H1 H2 : Hp} (a : Tups H H1) (b : Tups H1 H2) : Tups H H2 := fun c xs h => b c xs (a c xs h)
theorem But.tups {r : Addr} {H H' : Hp} (b : But r H H') (h : ReelAt H r) : Tups H H' := fun c xs e => b c _ (fun z => by
  obtain ⟨z1, c1, e1, _⟩ := h
  rw [z, e1] at e
  cases e) e
theorem Tups.new {H : Hp} {p : Addr} {o : HO} (h : H p = none) : Tups H (upd H p o) := fun c xs e => by rw [upd_ne (ne_of_none e h)]; exact e
theorem Tups.mut {H : Hp} {p : Addr} {xs : List V} {o : HO} (h : H p = some (.lst xs)) : Tups H (upd H p o) := fun c ys e => by
  rw [upd_ne (ne_of e h (fun z => by cases z))]
  exact e
theorem EdAt.mono {H H' : Hp} {v : V} {e : Ed} (t : Tups H H') (h : EdAt H v e) : EdAt H' v e := by
  obtain ⟨a, e1, e2⟩ := h
  exact ⟨a, e1, t a _ e2⟩
abbrev EdsIn (H : Hp) : List V → List Ed → Prop := Paired (EdAt H)
theorem EdsIn.mono {H H' : Hp} {vs : List V} {es : List Ed} (t : Tups H H') (h : EdsIn H vs es) : EdsIn H' vs es := Paired.mapP h fun _ _ => EdAt.mono t
theorem paired_len {α β : Type} {F : α → β → Prop} : ∀ {xs : List α} {ys : List β}, Paired F xs ys → xs.length = ys.length
  | _, _, .nil => rfl
  | _, _, .cons _ t => congrArg (· + 1) (paired_len t)
theorem paired_app {α β : Type} {F : α → β → Prop} : ∀ {xs xs' : List α} {ys ys' : List β}, Paired F xs ys → Paired F xs' ys' → Paired F (xs ++ xs') (ys ++ ys')
  | _, _, _, _, .nil, h => h
  | _, _, _, _, .cons r t, h => .cons r (paired_app t h)
theorem paired_get {α β : Type} {F : α → β → Prop} : ∀ {xs : List α} {ys : List β} {i : Nat} {y : β}, Paired F xs ys → ys[i]? = some y → ∃ x, xs[i]? = some x ∧ F x y
  | _, _, _, _, .nil, h => by simp at h
  | _, _, 0, y, .cons r t, h => by
    have e := Option.some.inj h
    subst e
    exact ⟨_, rfl, r⟩
  | _, _, i + 1, y, .cons r t, h => by
    obtain ⟨x, h1, h2⟩ := paired_get (i := i) (y := y) t (by simpa using h)
    exact ⟨x, by simpa using h1, h2⟩
theorem paired_take {α β : Type} {F : α → β → Prop} : ∀ {xs : List α} {ys : List β} (n : Nat), Paired F xs ys → Paired F (xs.take n) (ys.take n)
  | _, _, 0, _ => .nil
  | _, _, _ + 1, .nil => .nil
  | _, _, n + 1, .cons r t => .cons r (paired_take n t)
theorem paired_drop {α β : Type} {F : α → β → Prop} : ∀ {xs : List α} {ys : List β} (n : Nat), Paired F xs ys → Paired F (xs.drop n) (ys.drop n)
  | _, _, 0, h => h
  | _, _, _ + 1, .nil => .nil
  | _, _, n + 1, .cons r t => paired_drop n t
/-- a drawn edit -/
def EdBd (e : Ed) : Prop := 0 ≤ e.1 ∧ e.1 ≤ e.2.1 ∧ (cs e.2.2).length ≤ 2000 ∧ TOk e.2.2
/-- what stands behind i turns of the row's making -/
structure RowSt (r l : Addr) (H0 : Hp) (i : Nat) (z now : Str) (H : Hp) : Prop where
  ex : ∃ vs es, H l = some (.lst vs) ∧ EdsIn H vs es ∧ es.length = i ∧ (∀ e ∈ es, EdBd e) ∧ fitsL (cs z).length es ∧ appl (cs z) es = cs now ∧ ∀ k, (appl (cs z) (es.take k)).length ≤ 2000
  ne : l ≠ r
  but : But r H0 H
  reel : ReelAt H r
  len : (cs now).length ≤ 2000
  tok : TOk now
theorem RowSt.mono {r l : Addr} {H0 H H' : Hp} {i : Nat} {z now : Str} (h : RowSt r l H0 i z now H) (b : But r H H') (hR : ReelAt H' r) : RowSt r l H0 i z now H' := by
  obtain ⟨⟨vs, es, e1, e2, e3⟩, n, b0, r0, ln, tk⟩ := h
  exact ⟨⟨vs, es, b l _ n e1, e2.mono (b.tups r0), e3⟩, n, b0.trans b, hR, ln, tk⟩
theorem RowSt.new {r l p : Addr} {H0 H : Hp} {i : Nat} {z now : Str} {o : HO} (h : RowSt r l H0 i z now H) (np : H p = none) : RowSt r l H0 i z now (upd H p o) := h.mono (But.new np) (h.reel.new np)
theorem cut_len (z : Str) (lo hi : Option Int) : (cs (cutS z lo hi)).length ≤ (cs z).length := by
  have h := cutS_length z lo hi
  rw [len_cs, len_cs] at h
  exact h
theorem cut_tok {z : Str} (h : TOk z) (lo hi : Option Int) : TOk (cutS z lo hi) := fun c hc => h c (List.mem_of_mem_drop (List.mem_of_mem_take hc))
theorem spl_tok {t : List Nat} {a b : Nat} {s : List Nat} (h : ∀ c ∈ t, c < 1114112) (h2 : ∀ c ∈ s, c < 1114112) : ∀ c ∈ spliceL t a b s, c < 1114112 := fun c hc => by
  rcases List.mem_append.mp hc with hc | hc
  · rcases List.mem_append.mp hc with hc | hc
    · exact h c (List.mem_of_mem_take hc)
    · exact h2 c hc
  · exact h c (List.mem_of_mem_drop hc)
theorem tok_empty : TOk Str.empty := fun c hc => absurd hc List.not_mem_nil
theorem cut_pre (z : Str) (a : Nat) : cs (cutS z none (some (a : Int))) = (cs z).take a := by
  show ((cs z).drop 0).take _ = _
  rw [HT.sIx_nat, HT.sIx_none, List.drop_zero, Nat.sub_zero, len_cs, ← List.take_eq_take_min]
theorem cut_suf (z : Str) (a : Nat) : cs (cutS z (some (a : Int)) none) = (cs z).drop a := by
  show ((cs z).drop _).take _ = _
  rw [HT.sIx_nat, HT.sIx_none, len_cs, List.take_of_length_le (by rw [List.length_drop]; exact Nat.le_refl _)]
  by_cases h : a ≤ (cs z).length
  · rw [Nat.min_eq_left h]
  · rw [Nat.min_eq_right (by omega), List.drop_eq_nil_of_le (Nat.le_refl _), List.drop_eq_nil_of_le (by omega)]
theorem cut_mid (z : Str) (a b : Nat) : cs (cutS z (some (a : Int)) (some (b : Int))) = ((cs z).take b).drop a := by
  show ((cs z).drop _).take _ = _
  rw [HT.sIx_nat, HT.sIx_nat, len_cs]
  by_cases h : a ≤ (cs z).length
  · rw [Nat.min_eq_left h, List.drop_take]
    by_cases h2 : b ≤ (cs z).length
    · rw [Nat.min_eq_left h2]
    · rw [Nat.min_eq_right (by omega), List.take_of_length_le (by rw [List.length_drop]; exact Nat.le_refl _), List.take_of_length_le (by rw [List.length_drop]; omega)]
  · rw [Nat.min_eq_right (show (cs z).length ≤ a by omega), List.drop_eq_nil_of_le (Nat.le_refl _), List.take_nil, List.drop_eq_nil_of_le (by rw [List.length_take]; omega)]
theorem cs_splice (z s : Str) (a b : Nat) : cs (cutS z none (some (a : Int)) ++ s ++ cutS z (some (b : Int)) none) = spliceL (cs z) a b (cs s) := by
  rw [cs_app, cs_app, cut_pre, cut_suf]
  rfl
theorem mem_ints {l : List Int} {v : V} (h : v ∈ l.map V.int) : ∃ i, i ∈ l ∧ v = .int i := by
  obtain ⟨i, h1, h2⟩ := List.mem_map.mp h
  exact ⟨i, h1, h2.symm⟩
theorem take_more {α : Type} {l : List α} {i : Nat} {x : α} (h : l[i]? = some x) : l.take (i + 1) = l.take i ++ [x] := by
  rw [List.take_add_one, h, Option.toList_some]
theorem nat_of {z : Int} (h : 0 ≤ z) : ∃ n : Nat, z = (n : Int) := ⟨z.toNat, by omega⟩
/-- within a turn: start, end and new are chosen -/
def RowMid (r l : Addr) (H0 : Hp) (i : Nat) (z now : Str) (n near form : Int) (σ : L2.St) (H : Hp) : Prop := ∃ (st en : Int) (new : Str),
  σ = [some (.ref r), some (.str z), some (.int n), some (.ref l), some (.str now), some (.int near), some (.int (0 + (i : Int))), some (.int form), some (.int st), some (.int en), some (.str new)] ∧
  0 ≤ st ∧ st ≤ en ∧ en ≤ (now.length : Int) ∧ (cs new).length ≤ 2000 ∧ TOk new ∧ RowSt r l H0 i z now H
/-- a list of n edits -/
def spRow : Sp := fun vs H Q _ => ∃ (r : Addr) (z : Str) (n : Int), vs = [.ref r, .str z, .int n] ∧ ReelAt H r ∧ (cs z).length ≤ 2000 ∧ TOk z ∧ 0 ≤ n ∧ n ≤ 1000 ∧
  ∀ l H' us es, H l = none → H' l = some (.lst us) → EdsIn H' us es → (es.length : Int) = n → (∀ e ∈ es, EdBd e) → fitsL (cs z).length es → But r H H' → ReelAt H' r → Q (.ref l) H'
def spRow2 : Sp := fun vs H Q _ => ∃ (r : Addr) (z : Str) (n : Int), vs = [.ref r, .str z, .int n] ∧ ReelAt H r ∧ (cs z).length ≤ 2000 ∧ TOk z ∧ 0 ≤ n ∧ n ≤ 1000 ∧
  ∀ l H' us es, H l = none → H' l = some (.lst us) → EdsIn H' us es → (es.length : Int) = n → (∀ e ∈ es, EdBd e) → fitsL (cs z).length es → sizeL (cs z).length es ≤ 2000 → But r H H' → ReelAt H' r → Q (.ref l) H'
/-- the same, and each beginning of the list leads to a short text -/
def spRow3 : Sp := fun vs H Q _ => ∃ (r : Addr) (z : Str) (n : Int), vs = [.ref r, .str z, .int n] ∧ ReelAt H r ∧ (cs z).length ≤ 2000 ∧ TOk z ∧ 0 ≤ n ∧ n ≤ 1000 ∧
  ∀ l H' us es, H l = none → H' l = some (.lst us) → EdsIn H' us es → (es.length : Int) = n → (∀ e ∈ es, EdBd e) → fitsL (cs z).length es → (∀ k, (appl (cs z) (es.take k)).length ≤ 2000) → But r H H' → ReelAt H' r → Q (.ref l) H'
theorem ok_edit_row3 (T : Txt K mg) : FnOk P w K mg base CX0 5 T.a_law_edit_row T.fd_law_edit_row ["reel", "text", "count"] spRow3 := by
  have G_law_draw : FnOk P w K mg base CX0 1 T.a_law_draw T.fd_law_draw ["reel", "size"] spDraw := ok_draw T
  have G_law_pick : FnOk P w K mg base CX0 2 T.a_law_pick T.fd_law_pick ["reel", "row"] (spPick K) := ok_pick T
  have G_law_new : FnOk P w K mg base CX0 4 T.a_law_new T.fd_law_new ["reel"] (spText 300) := ok_new T
  refine T.F_law_edit_row.ok sc_law_edit_row (fun vs H Q E h => ?_) (fun cdv A outer s H vs Q E hr h => ?_)
  · obtain ⟨r, z, n, rfl, _⟩ := h
    rfl
  · have hr_law_draw : Room 1 _ := hr.mono (by decide)
    have hr_law_pick : Room 2 _ := hr.mono (by decide)
    have hr_law_new : Room 4 _ := hr
    obtain ⟨r, z, n, rfl, hr0, hz, hzo, hn0, hn1, q⟩ := h
    refine ⟨_, (pss_cons (ps_set (i := 3) sc_law_edit_row.nd rfl (.inl rfl) (pe_lst pa_nil))
      (pss_cons (ps_set (i := 4) sc_law_edit_row.nd rfl (.inl rfl) (pv 1))
      (pss_cons (ps_set (i := 5) sc_law_edit_row.nd rfl (.inl rfl) pe_int)
      (pss_cons (ps_for PassesOwn.never rfl (pi_range1 (by rfl) T.m_range (pa_cons (pv 2) pa_nil)) (pg_name (i := 6) sc_law_edit_row.nd rfl (.inl rfl)) (pss_cons (ps_set (i := 7) sc_law_edit_row.nd rfl (.inl rfl) (pe_call G_law_draw hr_law_draw (by rfl) T.g_law_draw T.F_law_draw.kp T.b_law_draw .nil pass0 (pa_cons (pv 0) (pa_cons pe_int pa_nil))))
      (pss_cons (ps_set (i := 8) sc_law_edit_row.nd rfl (.inl rfl) (pe_call G_law_draw hr_law_draw (by rfl) T.g_law_draw T.F_law_draw.kp T.b_law_draw .nil pass0 (pa_cons (pv 0) (pa_cons (pe_op op_add (pe_callB call_len_str (by rfl) T.m_len PySem.boot_len (pa_cons (pv 4) pa_nil)) pe_int) pa_nil))))
      (C8.pss_cut (ps_if (pt_cmpR op_lt (pv 7) pe_int (nomark _)) (pss_one (ps_set (i := 8) sc_law_edit_row.nd rfl (.inl rfl) (pe_callB (call_min2 rfl) (by rfl) T.m_min (by decide +kernel) (pa_cons (pe_callB call_len_str (by rfl) T.m_len PySem.boot_len (pa_cons (pv 4) pa_nil)) (pa_cons (pe_callB (call_max2 rfl) (by rfl) T.m_max (by decide +kernel) (pa_cons pe_int (pa_cons (pe_op op_sub (pe_op op_add (pv 5) (pe_call G_law_draw hr_law_draw (by rfl) T.g_law_draw T.F_law_draw.kp T.b_law_draw .nil pass0 (pa_cons (pv 0) (pa_cons pe_int pa_nil)))) pe_int) pa_nil))) pa_nil))))) (pss_one (ps_if (pt_cmpR op_eq (pv 7) pe_int (nomark _)) (pss_one (ps_set (i := 8) sc_law_edit_row.nd rfl (.inl rfl) (pe_callB (call_max2 rfl) (by rfl) T.m_max (by decide +kernel) (pa_cons pe_int (pa_cons (pe_op op_sub (pe_callB call_len_str (by rfl) T.m_len PySem.boot_len (pa_cons (pv 4) pa_nil)) (pe_call G_law_draw hr_law_draw (by rfl) T.g_law_draw T.F_law_draw.kp T.b_law_draw .nil pass0 (pa_cons (pv 0) (pa_cons pe_int pa_nil)))) pa_nil))))) pss_nil)))
      (pss_cons (ps_set (i := 9) sc_law_edit_row.nd rfl (.inl rfl) (pe_callB (call_min2 rfl) (by rfl) T.m_min (by decide +kernel) (pa_cons (pe_callB call_len_str (by rfl) T.m_len PySem.boot_len (pa_cons (pv 4) pa_nil)) (pa_cons (pe_op op_add (pv 8) (pe_call G_law_pick hr_law_pick (by rfl) T.g_law_pick T.F_law_pick.kp T.b_law_pick .nil pass0 (pa_cons (pv 0) (pa_cons (pe_lst (pa_cons pe_int (pa_cons pe_int (pa_cons pe_int (pa_cons pe_int (pa_cons pe_int (pa_cons pe_int (pa_cons pe_int (pa_cons pe_int (pa_cons (pe_op op_fdiv (pe_callB call_len_str (by rfl) T.m_len PySem.boot_len (pa_cons (pv 4) pa_nil)) pe_int) pa_nil)))))))))) pa_nil)))) pa_nil))))
      (pss_cons (ps_set (i := 10) sc_law_edit_row.nd rfl (.inl rfl) (pe_call G_law_new hr_law_new (by rfl) T.g_law_new T.F_law_new.kp T.b_law_new .nil pass0 (pa_cons (pv 0) pa_nil)))
      (C8.pss_cut (ps_if (PW.pt (pw_and (pt_cmpR op_eq (pv 7) pe_int (nomark _)) (pw_and1 (pt_truth (pv 3) (by intro _; rfl))))) (pss_cons (ps_set (i := 8) sc_law_edit_row.nd rfl (.inl rfl) (pe_ix ix_tup (pe_ix ix_list (pv 3) (pe_un un_neg pe_int) (fun _ _ => rfl)) pe_int (fun _ _ => rfl)))
      (pss_cons (ps_set (i := 9) sc_law_edit_row.nd rfl (.inl rfl) (pe_op op_add (pv 8) (pe_callB call_len (by rfl) T.m_len PySem.boot_len (pa_cons (pe_ix ix_tup (pe_ix ix_list (pv 3) (pe_un un_neg pe_int) (fun _ _ => rfl)) pe_int (fun _ _ => rfl)) pa_nil))))
      (pss_one (ps_set (i := 10) sc_law_edit_row.nd rfl (.inl rfl) pe_str)))) (pss_one (ps_if (pt_cmpR op_eq (pv 7) pe_int (nomark _)) (pss_one (ps_set (i := 10) sc_law_edit_row.nd rfl (.inl rfl) (pe_slice sl_str (pv 4) (po_some (pv 8)) (po_some (pv 9))))) (pss_one (ps_if (pt_cmpR op_eq (pv 7) pe_int (nomark _)) (pss_cons (ps_set (i := 8) sc_law_edit_row.nd rfl (.inl rfl) pe_int)
      (pss_one (ps_set (i := 9) sc_law_edit_row.nd rfl (.inl rfl) (pe_call G_law_pick hr_law_pick (by rfl) T.g_law_pick T.F_law_pick.kp T.b_law_pick .nil pass0 (pa_cons (pv 0) (pa_cons (pe_lst (pa_cons pe_int (pa_cons (pe_callB (call_min2 rfl) (by rfl) T.m_min (by decide +kernel) (pa_cons pe_int (pa_cons (pe_callB call_len_str (by rfl) T.m_len PySem.boot_len (pa_cons (pv 4) pa_nil)) pa_nil))) (pa_cons (pe_callB call_len_str (by rfl) T.m_len PySem.boot_len (pa_cons (pv 4) pa_nil)) pa_nil)))) pa_nil)))))) pss_nil)))))
      (C8.pss_cut (ps_if (pt_cmpR op_gt (pe_op op_add (pe_callB call_len_str (by rfl) T.m_len PySem.boot_len (pa_cons (pv 4) pa_nil)) (pe_callB call_len_str (by rfl) T.m_len PySem.boot_len (pa_cons (pv 10) pa_nil))) pe_int (nomark _)) (pss_one (ps_set (i := 10) sc_law_edit_row.nd rfl (.inl rfl) pe_str)) pss_nil)
      (pss_cons (ps_expr (pe_bm PySem.F.plainAttrs_list PySem.F.slot_list_append PySem.F.type_list_append mt_append (pv 3) (pa_cons (pe_tup (pa_cons (pv 8) (pa_cons (pv 9) (pa_cons (pv 10) pa_nil)))) pa_nil)))
      (pss_cons (ps_set (i := 5) sc_law_edit_row.nd rfl (.inl rfl) (pe_op op_add (pv 8) (pe_call G_law_draw hr_law_draw (by rfl) T.g_law_draw T.F_law_draw.kp T.b_law_draw .nil pass0 (pa_cons (pv 0) (pa_cons (pe_op op_add (pe_callB call_len_str (by rfl) T.m_len PySem.boot_len (pa_cons (pv 10) pa_nil)) pe_int) pa_nil)))))
      (pss_one (ps_set (i := 4) sc_law_edit_row.nd rfl (.inl rfl) (pe_op op_add_str (pe_op op_add_str (pe_slice sl_str (pv 4) po_none (po_some (pv 8))) (pv 10)) (pe_slice sl_str (pv 4) (po_some (pv 9)) po_none))))))))))))))
      (pss_one (ps_ret (pv 3))))))), ?_⟩
    refine ⟨Nat.zero_le _, fun l nl => ?_⟩
    refine ⟨_, rfl, ?_⟩
    refine ⟨_, rfl, n, rfl, by omega, by omega, ?_⟩
    refine for_range (lo := 0) (n := n.toNat) (fun i σ H' => ∃ (now : Str) (near : Int) (y6 y7 y8 y9 y10 : Option V), σ = [some (.ref r), some (.str z), some (.int n), some (.ref l), some (.str now), some (.int near), y6, y7, y8, y9, y10] ∧ RowSt r l H i z now H')
      ⟨z, 0, none, none, none, none, none, rfl, ⟨[], [], upd_same, .nil, rfl, (fun e he => absurd he List.not_mem_nil), True.intro, rfl, fun k => by rw [List.take_nil]; exact hz⟩, (hr0.ne nl).symm, But.new nl, hr0.new nl, hz, hzo⟩ ?_ ?_
    · rintro i σ H1 hi ⟨now, near, y6, y7, y8, y9, y10, rfl, S1⟩
      have hlen := S1.len
      have eln := len_cs now
      -- form, start
      refine ⟨_, rfl, r, _, rfl, S1.reel, by decide, fun form H2 f0 f1 hb2 hR2 => ?_⟩
      have S2 := S1.mono hb2 hR2
      refine ⟨_, rfl, _, rfl, _, rfl, sz1 (by omega), _, 1, rfl, rfl, r, _, rfl, hR2, by omega, fun st H3 st0 st1 hb3 hR3 => ?_⟩
      have S3 := S2.mono hb3 hR3
      -- if form < 4 ..
      refine ⟨fun σ H' => ∃ st : Int, σ = [some (.ref r), some (.str z), some (.int n), some (.ref l), some (.str now), some (.int near), some (.int (0 + (i : Int))), some (.int form), some (.int st), y9, y10] ∧ 0 ≤ st ∧ st ≤ (now.length : Int) ∧ RowSt r l H i z now H', ?_, ?_⟩
      · refine ⟨_, rfl, form, 4, rfl, rfl, _, rfl, ite2 (fun e => ?_) (fun e => ?_)⟩
        · refine ⟨_, rfl, _, rfl, sz1 (by omega), _, rfl, _, rfl, r, _, rfl, hR3, by decide, fun d H4 d0 d1 hb4 hR4 => ?_⟩
          refine ⟨near, d, rfl, rfl, _, 2, rfl, rfl, 0, _, rfl, _, _, rfl, ⟨_, rfl, ?_, ?_, S3.mono hb4 hR4⟩⟩
          · split <;> split <;> omega
          · split <;> split <;> omega
        · refine ⟨_, rfl, rfl, _, rfl, ite2 (fun e => ?_) (fun e => ?_)⟩
          · refine ⟨_, rfl, _, rfl, sz1 (by omega), _, rfl, r, _, rfl, hR3, by decide, fun d H4 d0 d1 hb4 hR4 => ?_⟩
            refine ⟨_, d, rfl, rfl, 0, _, rfl, ⟨_, rfl, ?_, ?_, S3.mono hb4 hR4⟩⟩
            · split <;> omega
            · split <;> omega
          · exact ⟨st, rfl, st0, by omega, S3⟩
      · rintro σ H4 ⟨st, rfl, st0, st1, S4⟩
        -- end
        refine ⟨_, rfl, _, rfl, sz1 (by omega), _, rfl, _, rfl, _, rfl, _, rfl, sz1 (by omega), _, 3, rfl, rfl, ⟨by decide, by decide⟩, by show 9 ≤ sizeLine; decide, fun p np => ?_⟩
        refine ⟨r, _, rfl, S4.reel.new np, .inr ⟨p, _, rfl, (S4.reel.ne np).symm, SqL.of upd_same, by show 0 < 9; decide, fun v H5 hv hb5 hR5 => ?_⟩⟩
        have S5 := (S4.new np (o := _)).mono hb5 hR5
        obtain ⟨k, hk, rfl⟩ := mem_ints (l := [0, 0, 0, 1, 1, 2, 5, 30, ((now.length : Int)) / 3]) hv
        have k0 : 0 ≤ k := by
          have : ∀ x ∈ [0, 0, 0, 1, 1, 2, 5, 30, ((now.length : Int)) / 3], (0 : Int) ≤ x := by
            intro x hx
            simp only [List.mem_cons, List.not_mem_nil, or_false] at hx
            omega
          exact this k hk
        refine ⟨st, k, rfl, rfl, _, _, rfl, ?_⟩
        -- new
        refine ⟨_, rfl, r, rfl, hR5, fun new H6 hnew hno hb6 hR6 => ?_⟩
        have S6 := S5.mono hb6 hR6
        -- if form == 5 and edits ..
        refine ⟨RowMid r l H i z now n near form, ?_, ?_⟩
        · obtain ⟨⟨us, es, u1, u2, u3, u4, u5, u6, _⟩, _⟩ := id S6
          have elif6 : RowMid r l H i z now n near form [some (.ref r), some (.str z), some (.int n), some (.ref l), some (.str now), some (.int near), some (.int (0 + (i : Int))), some (.int form), some (.int st), some (.int (if st + k < (now.length : Int) then st + k else (now.length : Int))), some (.str new)] H6 :=
            ⟨_, _, _, rfl, st0, by split <;> omega, by split <;> omega, by omega, hno, S6⟩
          refine ⟨_, rfl, rfl, _, rfl, ite2 (fun e => ?_) (fun e => ?_)⟩
          · refine ⟨_, rfl, !us.isEmpty, .inl ⟨us, SqL.of u1, rfl⟩, ite2 (fun e2 => ?_) (fun e2 => ?_)⟩
            · -- start = edits[-1][0] ..
              have hne : us ≠ [] := fun z => by
                rw [z] at e2
                cases e2
              obtain ⟨us0, ul, rfl⟩ : ∃ a b, us = a ++ [b] := ⟨us.dropLast, us.getLast hne, (List.dropLast_concat_getLast hne).symm⟩
              have hle := paired_len u2
              rw [List.length_append] at hle
              obtain ⟨el, hel⟩ : ∃ e, es[us0.length]? = some e := ⟨_, List.getElem?_eq_getElem (by simp only [List.length_singleton] at hle; omega)⟩
              obtain ⟨u', h1, t, rfl, ht⟩ := paired_get u2 hel
              have h2 : (us0 ++ [ul])[us0.length]? = some ul := by simp
              rw [h2] at h1
              have h3 := Option.some.inj h1
              subst h3
              have hb := u4 el (List.mem_of_getElem? hel)
              refine ⟨_, rfl, 1, rfl, l, _, _, _, rfl, rfl, SqL.of u1, atI_last _ _, t, _, 0, .int el.1, rfl, rfl, SqT.of ht, atI_nat (j := 0) rfl, ?_⟩
              refine ⟨_, rfl, _, rfl, 1, rfl, l, _, _, _, rfl, rfl, SqL.of u1, atI_last _ _, t, _, 2, .str el.2.2, rfl, rfl, SqT.of ht, atI_nat (j := 2) rfl, ?_⟩
              refine ⟨_, _, rfl, ⟨sz1 (by rw [len_cs]; exact Nat.le_trans hb.2.2.1 (by decide)), rfl⟩, el.1, _, rfl, rfl, ?_⟩
              have hes : es = es.take us0.length ++ [el] := by
                have hl2 : es.length = us0.length + 1 := by simp only [List.length_singleton] at hle; omega
                have h1 := take_more hel
                rw [List.take_of_length_le (by omega)] at h1
                exact h1
              rw [hes] at u5 u6
              obtain ⟨v1, v2⟩ := (fitsL_snoc _ _ _).mp u5
              rw [← appl_len v1] at v2
              rw [appl_snoc] at u6
              have v3 := spl1_len v2
              rw [u6] at v3
              obtain ⟨w1, w2, w3⟩ := v2
              have v4 : size1 (appl (cs z) (es.take us0.length)).length el = (appl (cs z) (es.take us0.length)).length - (el.2.1.toNat - el.1.toNat) + (cs el.2.2).length := rfl
              have v5 := len_cs el.2.2
              exact ⟨_, _, _, rfl, hb.1, by omega, by omega, by show 0 ≤ 2000; decide, tok_of (by decide +kernel), S6⟩
            · refine ⟨_, rfl, rfl, _, rfl, ite2 (fun e => ?_) (fun e => ?_)⟩
              · exfalso
                have h1 := of_decide_eq_true e
                have h2 : form = 6 := V.int.inj h1
                rename_i e0
                have h3 := of_decide_eq_true e0
                have h4 : form = 5 := V.int.inj h3
                omega
              · refine ⟨_, rfl, rfl, _, rfl, ite2 (fun e => ?_) (fun e => elif6)⟩
                exfalso
                rename_i e0 _
                have h1 : form = 7 := V.int.inj (of_decide_eq_true e)
                have h4 : form = 5 := V.int.inj (of_decide_eq_true e0)
                omega
          · refine iteF ?_
            refine ⟨_, rfl, rfl, _, rfl, ite2 (fun e => ?_) (fun e => ?_)⟩
            · refine ⟨_, rfl, _, rfl, _, rfl, _, rfl, _, rfl, now, rfl, sz1 (by omega), ?_⟩
              exact ⟨_, _, _, rfl, st0, by split <;> omega, by split <;> omega, Nat.le_trans (cut_len _ _ _) hlen, cut_tok S6.tok _ _, S6⟩
            · refine ⟨_, rfl, rfl, _, rfl, ite2 (fun e => ?_) (fun e => elif6)⟩
              refine ⟨_, rfl, _, rfl, _, rfl, sz1 (by omega), 1, _, rfl, _, rfl, _, rfl, sz1 (by omega), by show 3 ≤ sizeLine; decide, fun p np => ?_⟩
              refine ⟨r, _, rfl, S6.reel.new np, .inr ⟨p, _, rfl, (S6.reel.ne np).symm, SqL.of upd_same, by show 0 < 3; decide, fun v H7 hv hb7 hR7 => ?_⟩⟩
              obtain ⟨k, hk, rfl⟩ := mem_ints (l := [0, (if ((now.length : Int)) < 1 then ((now.length : Int)) else 1), ((now.length : Int))]) hv
              have k0 : 0 ≤ k ∧ k ≤ (now.length : Int) := by
                simp only [List.mem_cons, List.not_mem_nil, or_false] at hk
                rcases hk with rfl | rfl | rfl
                · omega
                · split <;> omega
                · omega
              exact ⟨_, _, _, rfl, by decide, k0.1, k0.2, by omega, hno, (S6.new np (o := _)).mono hb7 hR7⟩
        · rintro σ H7 ⟨st, en, new, rfl, s0, s1, s2, hnew, hno, S7⟩
          have enw := len_cs new
          -- if len(now) + len(new) > 1990
          refine ⟨fun σ H' => ∃ (new : Str), σ = [some (.ref r), some (.str z), some (.int n), some (.ref l), some (.str now), some (.int near), some (.int (0 + (i : Int))), some (.int form), some (.int st), some (.int en), some (.str new)] ∧ (cs now).length + (cs new).length ≤ 2000 ∧ (cs new).length ≤ 2000 ∧ TOk new ∧ RowSt r l H i z now H', ?_, ?_⟩
          · refine ⟨_, rfl, _, rfl, sz1 (by omega), _, rfl, _, rfl, sz1 (by omega), _, _, rfl, rfl, _, _, rfl, rfl, _, rfl, ite2 (fun e => ?_) (fun e => ?_)⟩
            · exact ⟨_, rfl, by show _ + 0 ≤ _; omega, by show 0 ≤ 2000; decide, tok_of (by decide +kernel), S7⟩
            · have h1 : ¬ (1990 : Int) < (now.length : Int) + (new.length : Int) := fun h => e (decide_eq_true h)
              exact ⟨_, rfl, by omega, hnew, hno, S7⟩
          · rintro σ H8 ⟨new, rfl, hn2, hn3, hno, S8⟩
            have enw := len_cs new
            obtain ⟨⟨us, es, u1, u2, u3, u4, u5, u6, u7⟩, hne, hbt, hR8, _, htok⟩ := S8
            have ul := paired_len u2
            -- edits.append((start, end, new))
            refine ⟨.ref l, rfl, .inl ⟨rfl, _, SqL.of u1⟩, _, rfl, _, rfl, _, rfl, by show 3 ≤ sizeLine; decide, fun t nt => ?_⟩
            have lt : l ≠ t := ne_of_none u1 nt
            have u1' : (upd H8 t (.tup [.int st, .int en, .str new])) l = some (.lst us) := by rw [upd_ne lt]; exact u1
            refine ⟨l, us, .ref t, rfl, rfl, u1', sz2 (by omega), ?_⟩
            have tp : Tups H8 (upd (upd H8 t (.tup [.int st, .int en, .str new])) l (.lst (us ++ [.ref t]))) := (Tups.new nt).trans (Tups.mut u1')
            have hfit : fit1 (appl (cs z) es).length (st, en, new) := by
              rw [u6]
              exact ⟨s0, s1, by show en ≤ ((cs now).length : Int); omega⟩
            have S9 : (∃ vs es, (upd (upd H8 t (.tup [.int st, .int en, .str new])) l (.lst (us ++ [.ref t]))) l = some (.lst vs) ∧ EdsIn (upd (upd H8 t (.tup [.int st, .int en, .str new])) l (.lst (us ++ [.ref t]))) vs es ∧ es.length = i + 1 ∧ (∀ e ∈ es, EdBd e) ∧ fitsL (cs z).length es ∧ appl (cs z) es = spl1 (cs now) (st, en, new) ∧ ∀ k, (appl (cs z) (es.take k)).length ≤ 2000) ∧ But r H (upd (upd H8 t (.tup [.int st, .int en, .str new])) l (.lst (us ++ [.ref t]))) ∧ ReelAt (upd (upd H8 t (.tup [.int st, .int en, .str new])) l (.lst (us ++ [.ref t]))) r := by
              refine ⟨⟨us ++ [.ref t], es ++ [(st, en, new)], upd_same, paired_app (u2.mono tp) (.cons ⟨t, rfl, ?_⟩ .nil), ?_, ?_, ?_, ?_, ?_⟩, ?_, ?_⟩
              · rw [upd_ne lt.symm, upd_same]
              · rw [List.length_append, u3]
                rfl
              · intro e he
                rcases List.mem_append.mp he with he | he
                · exact u4 e he
                · rw [List.mem_singleton.mp he]
                  exact ⟨s0, s1, hn3, hno⟩
              · rw [appl_len u5] at hfit
                exact (fitsL_snoc _ _ _).mpr ⟨u5, hfit⟩
              · rw [appl_snoc, u6]
              · intro k
                by_cases hk : k ≤ es.length
                · rw [List.take_append_of_le_length hk]
                  exact u7 k
                · have l1 : [((st, en, new) : Ed)].length = 1 := rfl
                  rw [List.take_of_length_le (by rw [List.length_append]; omega), appl_snoc, u6]
                  show (spliceL (cs now) st.toNat en.toNat (cs new)).length ≤ 2000
                  exact Nat.le_trans (spliceL_len (by omega)) hn2
              · exact fun b o nb e => by
                  have e8 := hbt b o nb e
                  rw [upd_ne (ne_of_none e nl), upd_ne (ne_of_none e8 nt)]
                  exact e8
              · obtain ⟨z1, c1, e1, e2⟩ := hR8
                exact ⟨z1, c1, by rw [upd_ne hne.symm, upd_ne (ne_of_none e1 nt)]; exact e1, e2⟩
            obtain ⟨⟨vs9, es9, q1, q2, q3, q4, q5, q6, q7⟩, b9, r9⟩ := S9
            -- near
            refine ⟨_, rfl, _, rfl, _, rfl, _, rfl, sz1 (by omega), _, 1, rfl, rfl, r, _, rfl, r9, by omega, fun d H10 d0 d1 hb10 hR10 => ?_⟩
            refine ⟨st, d, rfl, rfl, ?_⟩
            -- now
            refine ⟨_, rfl, _, rfl, _, rfl, now, rfl, sz1 (by omega), _, rfl, _, _, rfl, rfl, ?_, _, rfl, _, rfl, _, rfl, now, rfl, sz1 (by omega), _, _, rfl, rfl, ?_, ?_⟩
            · have h1 := cutS_length now none (some st)
              exact sz1 (by omega)
            · have h1 := cutS_length now none (some st)
              have h2 := cutS_length now (some en) none
              have h3 : (cutS now none (some st) ++ new).length = (cutS now none (some st)).length + new.length := by
                rw [len_cs, len_cs, len_cs, cs_app, List.length_append]
              exact sz1 (by omega)
            · obtain ⟨a, rfl⟩ := nat_of s0
              obtain ⟨b, rfl⟩ := nat_of (show 0 ≤ en by omega)
              refine ⟨_, _, _, _, _, _, _, rfl, ⟨vs9, es9, hb10 l _ hne q1, q2.mono (hb10.tups r9), q3, q4, q5, ?_, q7⟩, hne, b9.trans hb10, hR10, ?_, ?_⟩
              · rw [q6, cs_splice]
                rfl
              · rw [cs_splice]
                exact Nat.le_trans (spliceL_len (by omega)) hn2
              · intro c hc
                rw [cs_splice] at hc
                exact spl_tok htok hno c hc
    · rintro σ H1 ⟨now, near, y6, y7, y8, y9, y10, rfl, S1⟩
      obtain ⟨⟨vs, es, e1, e2, e3, e4, e5, e6, e7⟩, n1, b0, r0, ln, tk⟩ := S1
      exact ⟨_, rfl, q l H1 vs es nl e1 e2 (by omega) e4 e5 e7 b0 r0⟩
theorem ok_edit_row2 (T : Txt K mg) : FnOk P w K mg base CX0 5 T.a_law_edit_row T.fd_law_edit_row ["reel", "text", "count"] spRow2 :=
  (ok_edit_row3 T).imp fun _ _ _ _ ⟨r, z, n, e, h1, h2, h3, h4, h5, q⟩ => ⟨r, z, n, e, h1, h2, h3, h4, h5, fun l H' us es k1 k2 k3 k4 k5 k6 k7 k8 k9 => q l H' us es k1 k2 k3 k4 k5 k6 (by
    have h6 := k7 es.length
    rw [List.take_length] at h6
    rw [← appl_len k6]
    exact h6) k8 k9⟩
theorem ok_edit_row (T : Txt K mg) : FnOk P w K mg base CX0 5 T.a_law_edit_row T.fd_law_edit_row ["reel", "text", "count"] spRow :=
  (ok_edit_row2 T).imp fun _ _ _ _ ⟨r, z, n, e, h1, h2, h3, h4, h5, q⟩ => ⟨r, z, n, e, h1, h2, h3, h4, h5, fun l H' us es k1 k2 k3 k4 k5 k6 _ k7 k8 => q l H' us es k1 k2 k3 k4 k5 k6 k7 k8⟩

/-! ### planted edits -/
theorem cutV_pre (xs : List V) (a : Nat) : cutV xs none (some (a : Int)) = xs.take a := by
  unfold cutV
  rw [HT.sIx_nat, HT.sIx_none, List.drop_zero, Nat.sub_zero, ← List.take_eq_take_min]
theorem cutV_suf (xs : List V) (a : Nat) : cutV xs (some (a : Int)) none = xs.drop a := by
  unfold cutV
  rw [HT.sIx_nat, HT.sIx_none, List.take_of_length_le (by rw [List.length_drop]; exact Nat.le_refl _)]
  by_cases h : a ≤ xs.length
  · rw [Nat.min_eq_left h]
  · rw [Nat.min_eq_right (by omega), List.drop_eq_nil_of_le (Nat.le_refl _), List.drop_eq_nil_of_le (by omega)]
theorem fitsL_get : ∀ {n i : Nat} {es : List Ed} {e : Ed}, fitsL n es → es[i]? = some e → fit1 (sizeL n (es.take i)) e
  | _, _, [], _, _, h => by simp at h
  | n, 0, x :: r, e, h, g => by
    have q := Option.some.inj g
    subst q
    exact h.1
  | n, i + 1, x :: r, e, h, g => fitsL_get (n := size1 n x) (i := i) (es := r) h.2 (by simpa using g)
/-- edits with texts of at most 2000 signs -/
def Short (es : List Ed) : Prop := ∀ e ∈ es, e.len ≤ 2000 ∧ TOk e.2.2

def spUnfit : Sp := fun vs H Q _ => ∃ (r : Addr) (n : Int), vs = [.ref r, .int n] ∧ ReelAt H r ∧ 0 ≤ n ∧ ∀ v H' (e : Ed), EdAt H' v e → e.len ≤ 2 → TOk e.2.2 → (∀ m : Nat, (m : Int) = n → ¬ fit1 m e) → But r H H' → ReelAt H' r → Q v H'
theorem ok_unfit (T : Txt K mg) : FnOk P w K mg base CX0 4 T.a_law_unfit T.fd_law_unfit ["reel", "size"] spUnfit := by
  have G_law_draw : FnOk P w K mg base CX0 1 T.a_law_draw T.fd_law_draw ["reel", "size"] spDraw := ok_draw T
  have G_law_pick : FnOk P w K mg base CX0 2 T.a_law_pick T.fd_law_pick ["reel", "row"] (spPick K) := ok_pick T
  have G_law_word : FnOk P w K mg base CX0 3 T.a_law_word T.fd_law_word ["reel", "letters", "least", "most"] spWord := ok_word T
  refine T.F_law_unfit.ok sc_law_unfit (fun vs H Q E h => ?_) (fun cdv A outer s H vs Q E hr h => ?_)
  · obtain ⟨r, n, rfl, _⟩ := h
    rfl
  · have hr_law_draw : Room 1 _ := hr.mono (by decide)
    have hr_law_pick : Room 2 _ := hr.mono (by decide)
    have hr_law_word : Room 3 _ := hr
    obtain ⟨r, n, rfl, hr0, hn, q⟩ := h
    refine ⟨_, (pss_cons (ps_set (i := 2) sc_law_unfit.nd rfl (.inl rfl) (pe_call G_law_pick hr_law_pick (by rfl) T.g_law_pick T.F_law_pick.kp T.b_law_pick .nil pass0 (pa_cons (pv 0) (pa_cons (pe_lst (pa_cons pe_int (pa_cons pe_int (pa_cons pe_int (pa_cons pe_int (pa_cons (pe_op op_pow pe_int pe_int) (pa_cons (pe_op op_pow pe_int pe_int) pa_nil))))))) pa_nil))))
      (pss_cons (ps_set (i := 3) sc_law_unfit.nd rfl (.inl rfl) (pe_call G_law_word hr_law_word (by rfl) T.g_law_word T.F_law_word.kp T.b_law_word .nil pass0 (pa_cons (pv 0) (pa_cons pe_str (pa_cons pe_int (pa_cons pe_int pa_nil))))))
      (pss_cons (ps_set (i := 4) sc_law_unfit.nd rfl (.inl rfl) (pe_call G_law_draw hr_law_draw (by rfl) T.g_law_draw T.F_law_draw.kp T.b_law_draw .nil pass0 (pa_cons (pv 0) (pa_cons (pe_op op_add (pv 1) pe_int) pa_nil))))
      (pss_cons (ps_set (i := 5) sc_law_unfit.nd rfl (.inl rfl) (pe_call G_law_draw hr_law_draw (by rfl) T.g_law_draw T.F_law_draw.kp T.b_law_draw .nil pass0 (pa_cons (pv 0) (pa_cons pe_int pa_nil))))
      (pss_cons (ps_if (pt_cmpR op_eq (pv 5) pe_int (nomark _)) (pss_one (ps_ret (pe_tup (pa_cons (pe_op op_sub pe_int (pv 2)) (pa_cons (pv 4) (pa_cons (pv 3) pa_nil)))))) pss_nil)
      (pss_cons (ps_if (pt_cmpR op_eq (pv 5) pe_int (nomark _)) (pss_one (ps_ret (pe_tup (pa_cons (pv 4) (pa_cons (pe_op op_add (pv 1) (pv 2)) (pa_cons (pv 3) pa_nil)))))) pss_nil)
      (pss_cons (ps_if (pt_cmpR op_eq (pv 5) pe_int (nomark _)) (pss_one (ps_ret (pe_tup (pa_cons (pe_op op_add (pv 1) (pv 2)) (pa_cons (pe_op op_add (pv 1) (pv 2)) (pa_cons (pv 3) pa_nil)))))) pss_nil)
      (pss_cons (ps_if (pt_cmpR op_eq (pv 5) pe_int (nomark _)) (pss_one (ps_ret (pe_tup (pa_cons (pe_op op_sub pe_int (pv 2)) (pa_cons (pe_op op_sub pe_int (pv 2)) (pa_cons (pv 3) pa_nil)))))) pss_nil)
      (pss_cons (ps_if (pt_cmpR op_eq (pv 5) pe_int (nomark _)) (pss_one (ps_ret (pe_tup (pa_cons (pe_op op_add (pv 4) (pv 2)) (pa_cons (pv 4) (pa_cons (pv 3) pa_nil)))))) pss_nil)
      (pss_one (ps_ret (pe_tup (pa_cons (pv 4) (pa_cons (pe_op op_sub (pv 4) (pv 2)) (pa_cons (pv 3) pa_nil))))))))))))))), ?_⟩
    refine ⟨_, rfl, 10, 9, rfl, rfl, ⟨by decide, by decide, by decide⟩, 10, 30, rfl, rfl, ⟨by decide, by decide, by decide⟩, by show 6 ≤ sizeLine; decide, fun p np => ?_⟩
    refine ⟨r, _, rfl, hr0.new np, .inr ⟨p, _, rfl, (hr0.ne np).symm, SqL.of upd_same, by show 0 < 6; decide, fun v H1 hv hb1 hR1 => ?_⟩⟩
    obtain ⟨k, hk, rfl⟩ := mem_ints (l := [1, 1, 2, 9, 10 ^ (9 : Int).toNat, 10 ^ (30 : Int).toNat]) hv
    refine ⟨_, rfl, r, _, 0, 2, rfl, hR1, by decide +kernel, by decide +kernel, by decide, by decide, by decide, fun x H2 x0 x1 xz hb2 hR2 => ?_⟩
    refine ⟨_, rfl, _, rfl, n, 1, rfl, rfl, r, _, rfl, hR2, by omega, fun pl H3 p0 p1 hb3 hR3 => ?_⟩
    refine ⟨_, rfl, r, _, rfl, hR3, by decide, fun f H4 f0 f1 hb4 hR4 => ?_⟩
    have hb : But r H H4 := (But.new np).trans (hb1.trans (hb2.trans (hb3.trans hb4)))
    have hx : (cs x).length ≤ 2 := by omega
    have k1 : 1 ≤ k := by
      rcases List.mem_cons.mp hk with h | hk
      · omega
      rcases List.mem_cons.mp hk with h | hk
      · omega
      rcases List.mem_cons.mp hk with h | hk
      · omega
      rcases List.mem_cons.mp hk with h | hk
      · omega
      rcases List.mem_cons.mp hk with h | hk
      · rw [h]
        decide +kernel
      rcases List.mem_cons.mp hk with h | hk
      · rw [h]
        decide +kernel
      · exact absurd hk List.not_mem_nil
    have fin : ∀ (a b : Int) (t : Addr), (0 ≤ a → a ≤ b → b ≤ n → False) → H4 t = none → Q (.ref t) (upd H4 t (.tup [.int a, .int b, .str x])) := fun a b t bad nt =>
      q _ _ (a, b, x) ⟨t, rfl, upd_same⟩ hx (fun c hc => (tok_of (by decide +kernel) : TOk _) c (xz c hc)) (fun m em f => bad f.1 f.2.1 (by have h3 := f.2.2; rw [em] at h3; exact h3)) (hb.trans (But.new nt)) (hR4.new nt)
    refine ⟨_, rfl, rfl, _, rfl, ite2 (fun e => ?_) (fun e => ?_)⟩
    · exact ⟨_, rfl, 0, k, rfl, rfl, _, rfl, _, rfl, by show 3 ≤ sizeLine; decide, fun t nt => fin _ _ t (by omega) nt⟩
    refine ⟨_, rfl, rfl, _, rfl, ite2 (fun e => ?_) (fun e => ?_)⟩
    · exact ⟨_, rfl, _, rfl, _, rfl, n, k, rfl, rfl, _, rfl, by show 3 ≤ sizeLine; decide, fun t nt => fin _ _ t (by omega) nt⟩
    refine ⟨_, rfl, rfl, _, rfl, ite2 (fun e => ?_) (fun e => ?_)⟩
    · exact ⟨_, rfl, _, rfl, n, k, rfl, rfl, _, rfl, _, rfl, n, k, rfl, rfl, _, rfl, by show 3 ≤ sizeLine; decide, fun t nt => fin _ _ t (by omega) nt⟩
    refine ⟨_, rfl, rfl, _, rfl, ite2 (fun e => ?_) (fun e => ?_)⟩
    · exact ⟨_, rfl, 0, k, rfl, rfl, _, rfl, 0, k, rfl, rfl, _, rfl, by show 3 ≤ sizeLine; decide, fun t nt => fin _ _ t (by omega) nt⟩
    refine ⟨_, rfl, rfl, _, rfl, ite2 (fun e => ?_) (fun e => ?_)⟩
    · exact ⟨_, rfl, _, rfl, pl, k, rfl, rfl, _, rfl, _, rfl, by show 3 ≤ sizeLine; decide, fun t nt => fin _ _ t (by omega) nt⟩
    · exact ⟨_, rfl, _, rfl, _, rfl, pl, k, rfl, rfl, _, rfl, by show 3 ≤ sizeLine; decide, fun t nt => fin _ _ t (by omega) nt⟩
def spPlanted : Sp := fun vs H Q _ => ∃ (r l : Addr) (z : Str) (m : Int) (us : List V) (es : List Ed), vs = [.ref r, .str z, .ref l, .int m] ∧ ReelAt H r ∧ H l = some (.lst us) ∧ l ≠ r ∧ EdsIn H us es ∧ Short es ∧ fitsL (cs z).length es ∧
  (cs z).length ≤ 2000 ∧ es.length ≤ 1000 ∧ 0 ≤ m ∧ m ≤ 1000 ∧
  ∀ l' H' us' es', H' l' = some (.lst us') → l' ≠ r → EdsIn H' us' es' → es'.length ≤ es.length + m.toNat → Short es' → (∀ k, fitsL (cs z).length (es'.take k) → es'.take k = es.take k) → But r H H' → ReelAt H' r → Q (.ref l') H'
/-- a list of ints that are not below 0 -/
def nats (l : List Nat) : List V := l.map fun (n : Nat) => V.int (n : Int)
theorem nats_snoc (l : List Nat) (n : Nat) : nats l ++ [V.int (n : Int)] = nats (l ++ [n]) := by
  unfold nats
  rw [List.map_append]
  rfl
theorem nats_get {l : List Nat} {i : Nat} (h : i < l.length) : ∃ n : Nat, (nats l)[i]? = some (.int (n : Int)) := by
  refine ⟨l[i], ?_⟩
  unfold nats
  rw [List.getElem?_map, List.getElem?_eq_getElem h]
  rfl
theorem ok_planted (T : Txt K mg) : FnOk P w K mg base CX0 5 T.a_law_planted T.fd_law_planted ["reel", "text", "edits", "many"] spPlanted := by
  have G_law_draw : FnOk P w K mg base CX0 1 T.a_law_draw T.fd_law_draw ["reel", "size"] spDraw := ok_draw T
  have G_law_unfit : FnOk P w K mg base CX0 4 T.a_law_unfit T.fd_law_unfit ["reel", "size"] spUnfit := ok_unfit T
  refine T.F_law_planted.ok sc_law_planted (fun vs H Q E h => ?_) (fun cdv A outer s H vs Q E hr h => ?_)
  · obtain ⟨r, l, z, m, us, es, rfl, _⟩ := h
    rfl
  · have hr_law_draw : Room 1 _ := hr.mono (by decide)
    have hr_law_unfit : Room 4 _ := hr
    obtain ⟨r, l, z, m, us, es, rfl, hr0, hl, hlr, hes, hsh, hfit, hz, hn, hm0, hm1, q⟩ := h
    refine ⟨_, (pss_cons (ps_set (i := 4) sc_law_planted.nd rfl (.inl rfl) (pe_lst (pa_cons (pe_callB call_len_str (by rfl) T.m_len PySem.boot_len (pa_cons (pv 1) pa_nil)) pa_nil)))
      (pss_cons (ps_for PassesOwn.never rfl (pi_list (pv 2)) (pg_name (i := 5) sc_law_planted.nd rfl (.inl rfl)) (pss_one (ps_expr (pe_bm PySem.F.plainAttrs_list PySem.F.slot_list_append PySem.F.type_list_append mt_append (pv 4) (pa_cons (pe_op op_add (pe_op op_sub (pe_ix ix_list (pv 4) (pe_un un_neg pe_int) (fun _ _ => rfl)) (pe_op op_sub (pe_ix ix_tup (pv 5) pe_int (fun _ _ => rfl)) (pe_ix ix_tup (pv 5) pe_int (fun _ _ => rfl)))) (pe_callB call_len (by rfl) T.m_len PySem.boot_len (pa_cons (pe_ix ix_tup (pv 5) pe_int (fun _ _ => rfl)) pa_nil))) pa_nil)))))
      (pss_cons (ps_set (i := 6) sc_law_planted.nd rfl (.inl rfl) (pe_callTy call_list_of (by rfl) T.m_list (by decide +kernel) (pa_cons (pv 2) pa_nil)))
      (pss_cons (ps_for PassesOwn.never rfl (pi_range1 (by rfl) T.m_range (pa_cons (pv 3) pa_nil)) (pg_name (i := 7) sc_law_planted.nd rfl (.inl rfl)) (pss_cons (ps_set (i := 8) sc_law_planted.nd rfl (.inl rfl) (pe_call G_law_draw hr_law_draw (by rfl) T.g_law_draw T.F_law_draw.kp T.b_law_draw .nil pass0 (pa_cons (pv 0) (pa_cons (pe_callB (call_min2 rfl) (by rfl) T.m_min (by decide +kernel) (pa_cons pe_int (pa_cons (pe_callB call_len_seq (by rfl) T.m_len PySem.boot_len (pa_cons (pv 4) pa_nil)) pa_nil))) pa_nil))))
      (pss_one (ps_set (i := 6) sc_law_planted.nd rfl (.inl rfl) (pe_op op_cat (pe_op op_cat (pe_slice sl_list (pv 6) po_none (po_some (pv 8))) (pe_lst (pa_cons (pe_call G_law_unfit hr_law_unfit (by rfl) T.g_law_unfit T.F_law_unfit.kp T.b_law_unfit .nil pass0 (pa_cons (pv 0) (pa_cons (pe_ix ix_list (pv 4) (pv 8) (fun _ _ => rfl)) pa_nil))) pa_nil))) (pe_slice sl_list (pv 6) (po_some (pe_op op_add (pv 8) pe_int)) po_none))))))
      (pss_one (ps_ret (pv 6))))))), ?_⟩
    have elz := len_cs z
    have hle := paired_len hes
    -- sizes = [len(text)]
    refine ⟨_, rfl, _, rfl, sz1 (by omega), by show 1 ≤ sizeLine; decide, fun p np => ?_⟩
    have lp : l ≠ p := ne_of_none hl np
    -- for edit in edits
    refine ⟨_, rfl, l, rfl, ⟨_, SqL.of (by rw [upd_ne lp]; exact hl)⟩, ?_⟩
    refine for_list (K := K) (a := l) (xs := us) (fun i σ H' => ∃ y6 y7 y8 y9, σ = [some (.ref r), some (.str z), some (.ref l), some (.int m), some (.ref p), y6, y7, y8, y9] ∧ Same H H' ∧ ∃ ini : List Nat, H' p = some (.lst (nats (ini ++ [sizeL (cs z).length (es.take i)]))) ∧ ini = (List.range i).map (fun k => sizeL (cs z).length (es.take k)))
      ⟨none, none, none, none, rfl, same_upd np, [], (by rw [upd_same, elz] <;> rfl), rfl⟩ (fun i σ H' _ ⟨_, _, _, _, _, sm, _⟩ => sm.seq (SqL.of hl)) ?_ ?_
    · rintro i x σ H1 hx ⟨y6, y7, y8, y9, rfl, sm, ini, hp, hin⟩
      have hi : ini.length = i := by rw [hin, List.length_map, List.length_range]
      obtain ⟨e, he⟩ : ∃ e, es[i]? = some e := ⟨_, List.getElem?_eq_getElem (by rw [← hle]; exact (List.getElem?_eq_some_iff.mp hx).1)⟩
      obtain ⟨x', hx', t, rfl, ht⟩ := paired_get hes he
      rw [hx] at hx'
      have h1 := Option.some.inj hx'
      subst h1
      have ht1 := sm t _ ht
      have hf := fitsL_get hfit he
      have hlen := (hsh e (List.mem_of_getElem? he)).1
      have le := len_cs e.2.2
      refine ⟨.ref p, rfl, .inl ⟨rfl, _, SqL.of hp⟩, _, rfl, 1, rfl, p, _, _, _, rfl, rfl, SqL.of hp, (by rw [← nats_snoc]; exact atI_last _ _), ?_⟩
      refine ⟨_, rfl, t, _, 1, .int e.2.1, rfl, rfl, SqT.of ht1, atI_nat (j := 1) rfl, _, rfl, t, _, 0, .int e.1, rfl, rfl, SqT.of ht1, atI_nat (j := 0) rfl, _, _, rfl, rfl, _, _, rfl, rfl, ?_⟩
      refine ⟨_, rfl, t, _, 2, .str e.2.2, rfl, rfl, SqT.of ht1, atI_nat (j := 2) rfl, _, _, rfl, ⟨sz1 (by rw [le]; exact Nat.le_trans hlen (by decide)), rfl⟩, _, _, rfl, rfl, ?_⟩
      refine ⟨p, _, _, rfl, rfl, hp, ?_, ?_⟩
      · unfold nats
        rw [List.length_map, List.length_append]
        have : i < es.length := (List.getElem?_eq_some_iff.mp he).1
        exact sz2 (by simp only [List.length_singleton]; omega)
      · refine ⟨_, _, _, _, rfl, same_mut sm np, ini ++ [sizeL (cs z).length (es.take i)], ?_, by rw [List.range_succ, List.map_append, hin]; rfl⟩
        rw [upd_same, take_more he, sizeL_snoc, ← nats_snoc (ini ++ _)]
        have e3 : ((sizeL (cs z).length (es.take i) : Nat) : Int) - (e.2.1 - e.1) + (e.2.2.length : Int) = ((size1 (sizeL (cs z).length (es.take i)) e : Nat) : Int) := by
          obtain ⟨f1, f2, f3⟩ := hf
          have v4 : size1 (sizeL (cs z).length (es.take i)) e = sizeL (cs z).length (es.take i) - (e.2.1.toNat - e.1.toNat) + (cs e.2.2).length := rfl
          omega
        rw [← e3]
    · rintro σ H1 ⟨y6, y7, y8, y9, rfl, sm, ini, hp, hin⟩
      have hi : ini.length = us.length := by rw [hin, List.length_map, List.length_range]
      have hl1 := sm l _ hl
      have hR1 : ReelAt H1 r := by
        obtain ⟨z1, c1, e1, e2⟩ := hr0
        exact ⟨z1, c1, sm _ _ e1, e2⟩
      have hpr : p ≠ r := (hr0.ne np).symm
      -- rows = list(edits)
      refine ⟨_, rfl, l, us, rfl, .inl (SqL.of hl1), fun p2 np2 => ?_⟩
      refine ⟨_, rfl, m, rfl, by omega, by omega, ?_⟩
      refine for_range (lo := 0) (n := m.toNat) (fun i σ H' => ∃ (y6 y7 y8 : Option V) (rows : Addr) (us' : List V) (es' : List Ed), σ = [some (.ref r), some (.str z), some (.ref l), some (.int m), some (.ref p), y6, some (.ref rows), y7, y8] ∧ But r H H' ∧ ReelAt H' r ∧
          H' p = some (.lst (nats (ini ++ [sizeL (cs z).length (es.take us.length)]))) ∧ H' rows = some (.lst us') ∧ rows ≠ r ∧ EdsIn H' us' es' ∧ es'.length ≤ es.length + i ∧ Short es' ∧ (∀ k, fitsL (cs z).length (es'.take k) → es'.take k = es.take k))
        ⟨_, _, _, p2, us, es, rfl, (But.of sm).trans (But.new np2), hR1.new np2, by rw [upd_ne (ne_of_none hp np2)]; exact hp, upd_same, (hR1.ne np2).symm, hes.mono ((show Tups H H1 from fun b xs e => sm b _ e).trans (Tups.new np2)), by omega, hsh, fun _ _ => rfl⟩ ?_ ?_
      · rintro i σ H2 hi2 ⟨y6, y7, y8, rows, us', es', rfl, hb, hR, hp2, hrows, hrr, hed, hel, hsh', hJ⟩
        have lini : (nats (ini ++ [sizeL (cs z).length (es.take us.length)])).length = us.length + 1 := by
          unfold nats
          rw [List.length_map, List.length_append, hi]
          rfl
        refine ⟨_, rfl, _, rfl, p, _, rfl, .inl (SqL.of hp2), 200, _, rfl, r, _, rfl, hR, by rw [lini]; split <;> omega, fun ax H3 a0 a1 hb3 hR3 => ?_⟩
        rw [lini] at a1
        obtain ⟨a, rfl⟩ := nat_of a0
        have ha : a < us.length + 1 := by split at a1 <;> omega
        have hrows3 := hb3 rows _ hrr hrows
        have hp3 := hb3 p _ hpr hp2
        have hed3 := hed.mono (hb3.tups hR)
        -- rows[:at]
        refine ⟨_, rfl, _, rfl, _, rfl, rows, us', rfl, SqL.of hrows3, fun c1 nc1 => ?_⟩
        rw [cutV_pre]
        obtain ⟨nm, enm⟩ : ∃ nm, nm = sizeL (cs z).length (es.take a) := ⟨_, rfl⟩
        have hnm : (nats (ini ++ [sizeL (cs z).length (es.take us.length)]))[a]? = some (V.int (nm : Int)) := by
          unfold nats
          rw [List.getElem?_map]
          by_cases ca : a < us.length
          · rw [List.getElem?_append_left (by omega), hin, List.getElem?_map, List.getElem?_range ca, enm]
            rfl
          · have ea : a = us.length := by omega
            rw [List.getElem?_append_right (by omega), hi, ea, Nat.sub_self, enm, ea]
            rfl
        -- [_law_unfit(reel, sizes[at])]
        refine ⟨_, rfl, _, rfl, _, rfl, p, _, (a : Int), .int (nm : Int), rfl, rfl, SqL.of (by rw [upd_ne (ne_of_none hp3 nc1)]; exact hp3), atI_nat hnm, r, _, rfl, hR3.new nc1, by omega, fun v H4 e hv he heo bad hb4 hR4 => ?_⟩
        refine ⟨by show 1 ≤ sizeLine; decide, fun c2 nc2 => ?_⟩
        have c1r : c1 ≠ r := (hR3.ne nc1).symm
        have hc1 : H4 c1 = some (.lst (us'.take a)) := hb4 c1 _ c1r upd_same
        have lu := paired_len hed3
        have hc1' : (upd H4 c2 (.lst [v])) c1 = some (.lst (us'.take a)) := by rw [upd_ne (ne_of_none hc1 nc2)]; exact hc1
        refine ⟨c1, c2, us'.take a, [v], rfl, rfl, hc1', upd_same, sz1 (by rw [List.length_take]; show _ + 1 ≤ _; omega), fun c3 nc3 => ?_⟩
        -- rows[at + 1:]
        have b5 : But r (upd H3 c1 (.lst (us'.take a))) (upd (upd H4 c2 (.lst [v])) c3 (.lst (us'.take a ++ [v]))) := hb4.trans ((But.new nc2).trans (But.new nc3))
        have hrows5 : (upd (upd H4 c2 (.lst [v])) c3 (.lst (us'.take a ++ [v]))) rows = some (.lst us') := b5 rows _ hrr (by rw [upd_ne (ne_of_none hrows3 nc1)]; exact hrows3)
        refine ⟨_, rfl, _, rfl, (a : Int), 1, rfl, rfl, _, rfl, rows, us', rfl, SqL.of hrows5, fun c4 nc4 => ?_⟩
        have e1 : (a : Int) + 1 = ((a + 1 : Nat) : Int) := by omega
        rw [e1, cutV_suf]
        have n34 : c3 ≠ c4 := ne_of_none upd_same nc4
        refine ⟨c3, c4, us'.take a ++ [v], us'.drop (a + 1), rfl, rfl, by rw [upd_ne n34, upd_same], upd_same, sz1 (by rw [List.length_append, List.length_take, List.length_drop]; show _ + 1 + _ ≤ _; omega), fun c5 nc5 => ?_⟩
        have b6 := b5.trans ((But.new (o := .lst (us'.drop (a + 1))) nc4).trans (But.new (o := .lst (us'.take a ++ [v] ++ us'.drop (a + 1))) nc5))
        have b7 := (But.new (r := r) (o := .lst (us'.take a)) nc1).trans b6
        have t3 : Tups H3 (upd H3 c1 (.lst (us'.take a))) := Tups.new nc1
        have t4 := b6.tups (hR3.new nc1)
        have t5 : Tups H4 (upd (upd (upd (upd H4 c2 (.lst [v])) c3 (.lst (us'.take a ++ [v]))) c4 (.lst (us'.drop (a + 1)))) c5 (.lst (us'.take a ++ [v] ++ us'.drop (a + 1)))) := (Tups.new nc2).trans ((Tups.new nc3).trans ((Tups.new nc4).trans (Tups.new nc5)))
        have r5 := ((hR4.new (o := .lst [v]) nc2).new (o := .lst (us'.take a ++ [v])) nc3).new (o := .lst (us'.drop (a + 1))) nc4
        refine ⟨_, _, _, c5, _, es'.take a ++ [e] ++ es'.drop (a + 1), rfl, (hb.trans hb3).trans b7, r5.new nc5, b7 p _ hpr hp3, upd_same, (r5.ne nc5).symm, paired_app (paired_app (paired_take a (hed3.mono (t3.trans t4))) (.cons (hv.mono t5) .nil)) (paired_drop (a + 1) (hed3.mono (t3.trans t4))), ?_, ?_, ?_⟩
        · rw [List.length_append, List.length_append, List.length_take, List.length_drop]
          show _ + 1 + _ ≤ _
          have h9 : us.length = es.length := hle
          omega
        · intro x hx
          rcases List.mem_append.mp hx with hx | hx
          · rcases List.mem_append.mp hx with hx | hx
            · exact hsh' x (List.mem_of_mem_take hx)
            · rw [List.mem_singleton.mp hx]
              exact ⟨by omega, heo⟩
          · exact hsh' x (List.mem_of_mem_drop hx)
        · intro k hk
          by_cases ck : k ≤ (es'.take a).length
          · rw [List.append_assoc, List.take_append_of_le_length ck] at hk ⊢
            rw [List.take_take] at hk ⊢
            have h8 := hJ (min k a) hk
            rw [h8]
            rw [List.length_take] at ck
            rw [show min k a = k by omega]
          · exfalso
            have h10 : (es'.take a ++ [e] ++ es'.drop (a + 1)).take k = es'.take a ++ [e] ++ (es'.drop (a + 1)).take (k - ((es'.take a).length + 1)) := by
              have l1 : (es'.take a ++ [e]).length = (es'.take a).length + 1 := by rw [List.length_append]; rfl
              rw [List.take_append, List.take_of_length_le (by omega), l1]
            rw [h10] at hk
            have h11 := (fitsL_app.mp hk).1
            have h12 := (fitsL_snoc _ _ _).mp h11
            have h13 := hJ a h12.1
            rw [h13, ← enm] at h12
            exact bad nm rfl h12.2
      · rintro σ H2 ⟨y6, y7, y8, rows, us', es', rfl, hb, hR, hp2, hrows, hrr, hed, hel, hsh', hJ⟩
        exact ⟨_, rfl, q rows H2 us' es' hrows hrr hed hel hsh' hJ hb hR⟩


/-! ### splicing, the way back, equal edits -/
def Lim (t : List Nat) (es : List Ed) : Prop := ∀ k, (appl t (es.take k)).length ≤ 4000000
def EdsAt (H : Hp) (l : Addr) (es : List Ed) : Prop := ∃ us, H l = some (.lst us) ∧ EdsIn H us es
theorem EdsAt.mono {H H' : Hp} {l : Addr} {es : List Ed} (h : EdsAt H l es) (s : Same H H') : EdsAt H' l es := by
  obtain ⟨us, h1, h2⟩ := h
  exact ⟨us, s _ _ h1, h2.mono fun b xs e => s b _ e⟩
theorem szM {n : Nat} (h : n ≤ 4000000) : n ≤ sizeLine := Nat.le_trans h (by decide)
theorem str_eq (x : Str) : (⟨(cs x).toArray⟩ : Str) = x := cs_inj rfl
theorem mkS_eq {x : Str} {l : List Nat} (h : cs x = l) : x = ⟨l.toArray⟩ := cs_inj h
/-- an edit that fits has places -/
theorem fit_nat {n : Nat} {e : Ed} (h : fit1 n e) : ∃ a b : Nat, e = ((a : Int), (b : Int), e.2.2) ∧ a ≤ b ∧ b ≤ n := by
  obtain ⟨x, y, s⟩ := e
  obtain ⟨h1, h2, h3⟩ := h
  simp only at h1 h2 h3
  obtain ⟨a, rfl⟩ := nat_of h1
  obtain ⟨b, rfl⟩ := nat_of (show 0 ≤ y by omega)
  exact ⟨a, b, rfl, by omega, by omega⟩
def spSplice : Sp := fun vs H Q _ => ∃ (z : Str) (l : Addr) (es : List Ed), vs = [.str z, .ref l] ∧ EdsAt H l es ∧ fitsL (cs z).length es ∧ Lim (cs z) es ∧ Q (.str ⟨(appl (cs z) es).toArray⟩) H
theorem cut_pre_len (z : Str) (a : Nat) : (cutS z none (some (a : Int))).length ≤ a := by
  rw [len_cs, cut_pre, List.length_take]
  exact Nat.min_le_left _ _
theorem spl_pre (t : List Nat) (a b : Nat) (s : List Nat) : (t.take a).length + s.length ≤ (spliceL t a b s).length := by
  unfold spliceL
  rw [List.length_append, List.length_append]
  omega
theorem ok_splice (T : Txt K mg) : FnOk P w K mg base CX0 1 T.a_law_splice T.fd_law_splice ["text", "edits"] spSplice := by
  refine T.F_law_splice.ok sc_law_splice (fun vs H Q E h => ?_) (fun cdv A outer s H vs Q E hr h => ?_)
  · obtain ⟨z, l, es, rfl, _⟩ := h
    rfl
  · obtain ⟨z, l, es, rfl, ⟨us, hl, hes⟩, hfit, hlim, q⟩ := h
    have hle := paired_len hes
    refine ⟨_, (pss_cons (ps_set (i := 2) sc_law_splice.nd rfl (.inl rfl) (pv 0))
      (pss_cons (ps_for PassesOwn.never rfl (pi_list (pv 1)) (pg_name (i := 3) sc_law_splice.nd rfl (.inl rfl)) (pss_one (ps_set (i := 2) sc_law_splice.nd rfl (.inl rfl) (pe_op op_add_str (pe_op op_add_str (pe_slice sl_str (pv 2) po_none (po_some (pe_ix ix_tup (pv 3) pe_int (fun _ _ => rfl)))) (pe_ix ix_tup (pv 3) pe_int (fun _ _ => rfl))) (pe_slice sl_str (pv 2) (po_some (pe_ix ix_tup (pv 3) pe_int (fun _ _ => rfl))) po_none)))))
      (pss_one (ps_ret (pv 2))))), ?_⟩
    refine ⟨_, rfl, ?_⟩
    refine ⟨_, rfl, l, rfl, ⟨_, SqL.of hl⟩, ?_⟩
    refine for_list (K := K) (a := l) (xs := us) (fun i σ H' => H' = H ∧ ∃ (now : Str) (y3 : Option V), σ = [some (.str z), some (.ref l), some (.str now), y3] ∧ cs now = appl (cs z) (es.take i))
      ⟨rfl, z, none, rfl, rfl⟩ (fun i σ H' _ ⟨e, _⟩ => by rw [e]; exact SqL.of hl) ?_ ?_
    · rintro i x σ H1 hx ⟨rfl, now, y3, rfl, hnow⟩
      obtain ⟨e, he⟩ : ∃ e, es[i]? = some e := ⟨_, List.getElem?_eq_getElem (by rw [← hle]; exact (List.getElem?_eq_some_iff.mp hx).1)⟩
      obtain ⟨x', hx', t, rfl, ht⟩ := paired_get hes he
      rw [hx] at hx'
      have h1 := Option.some.inj hx'
      subst h1
      have hf := fitsL_get hfit he
      rw [← appl_len (fitsL_take i hfit), ← hnow] at hf
      obtain ⟨a, b, hab, h2, h3⟩ := fit_nat hf
      have lim1 := hlim (i + 1)
      rw [take_more he, appl_snoc, ← hnow] at lim1
      rw [hab] at ht lim1
      have lim2 : (spliceL (cs now) a b (cs e.2.2)).length ≤ 4000000 := lim1
      have lim0 := hlim i
      rw [← hnow] at lim0
      have sp := spl_pre (cs now) a b (cs e.2.2)
      have l1 : (cutS now none (some (a : Int))).length = ((cs now).take a).length := by rw [len_cs, cut_pre]
      refine ⟨_, rfl, _, rfl, t, _, 0, .int (a : Int), rfl, rfl, SqT.of ht, atI_nat (j := 0) rfl, _, rfl, now, rfl, szM (by rw [len_cs]; exact lim0), ?_⟩
      refine ⟨_, rfl, t, _, 2, .str e.2.2, rfl, rfl, SqT.of ht, atI_nat (j := 2) rfl, _, _, rfl, rfl, szM (by rw [l1, len_cs]; omega), ?_⟩
      refine ⟨_, rfl, _, rfl, t, _, 1, .int (b : Int), rfl, rfl, SqT.of ht, atI_nat (j := 1) rfl, _, rfl, now, rfl, szM (by rw [len_cs]; exact lim0), ?_⟩
      refine ⟨_, _, rfl, rfl, ?_, rfl, _, _, rfl, ?_⟩
      · have h9 : (cutS now none (some (a : Int)) ++ e.2.2 ++ cutS now (some (b : Int)) none).length = (cutS now none (some (a : Int)) ++ e.2.2).length + (cutS now (some (b : Int)) none).length := by
          rw [len_cs, len_cs, len_cs, cs_app, List.length_append]
        rw [← h9, len_cs, cs_splice]
        exact szM lim2
      · rw [cs_splice, take_more he, appl_snoc, ← hnow]
        rw [hab]
        rfl
    · rintro σ H1 ⟨rfl, now, y3, rfl, hnow⟩
      rw [hle, List.take_length] at hnow
      refine ⟨_, rfl, ?_⟩
      rw [mkS_eq hnow]
      exact q

/-- the answer of the search for the first edit that does not fit -/
def unfitI (n : Nat) (es : List Ed) : Int := match unfit n es with
  | some k => (k : Int)
  | none => -1
theorem unfit_here : ∀ {n i : Nat} {es : List Ed} {e : Ed}, fitsL n (es.take i) → es[i]? = some e → ¬ fit1 (sizeL n (es.take i)) e → unfit n es = some i
  | _, _, [], _, _, h, _ => by simp at h
  | n, 0, x :: r, e, _, g, h => by
    have q := Option.some.inj g
    subst q
    show (if fit1 n x then (unfit (size1 n x) r).map (· + 1) else some 0) = some 0
    rw [if_neg (show ¬ fit1 n x from h)]
  | n, i + 1, x :: r, e, f, g, h => by
    have ih := unfit_here (n := size1 n x) (i := i) (es := r) f.2 (by simpa using g) h
    show (if fit1 n x then (unfit (size1 n x) r).map (· + 1) else some 0) = some (i + 1)
    rw [if_pos f.1, ih]
    rfl
def spFirst : Sp := fun vs H Q _ => ∃ (n : Nat) (l : Addr) (es : List Ed), vs = [.int (n : Int), .ref l] ∧ EdsAt H l es ∧ Short es ∧ es.length ≤ 100000 ∧ Q (.int (unfitI n es)) H
theorem ok_first (T : Txt K mg) : FnOk P w K mg base CX0 1 T.a_law_first_unfit T.fd_law_first_unfit ["size", "edits"] spFirst := by
  refine T.F_law_first_unfit.ok sc_law_first_unfit (fun vs H Q E h => ?_) (fun cdv A outer s H vs Q E hr h => ?_)
  · obtain ⟨z, l, es, rfl, _⟩ := h
    rfl
  · obtain ⟨n, l, es, rfl, ⟨us, hl, hes⟩, hsh, hn, q⟩ := h
    have hle := paired_len hes
    refine ⟨_, (pss_cons (ps_set (i := 2) sc_law_first_unfit.nd rfl (.inl rfl) (pv 0))
      (pss_cons (ps_for PassesOwn.never rfl (pi_range1 (by rfl) T.m_range (pa_cons (pe_callB call_len_seq (by rfl) T.m_len PySem.boot_len (pa_cons (pv 1) pa_nil)) pa_nil)) (pg_name (i := 3) sc_law_first_unfit.nd rfl (.inl rfl)) (pss_cons (ps_set (i := 4) sc_law_first_unfit.nd rfl (.inl rfl) (pe_ix ix_tup (pe_ix ix_list (pv 1) (pv 3) (fun _ _ => rfl)) pe_int (fun _ _ => rfl)))
      (pss_cons (ps_set (i := 5) sc_law_first_unfit.nd rfl (.inl rfl) (pe_ix ix_tup (pe_ix ix_list (pv 1) (pv 3) (fun _ _ => rfl)) pe_int (fun _ _ => rfl)))
      (pss_cons (ps_if (PW.pt (pw_or (pt_cmpR op_lt (pv 4) pe_int (nomark _)) (pw_or (pt_cmpR op_lt (pv 5) (pv 4) (nomark _)) (pw_or1 (pt_cmpR op_gt (pv 5) (pv 2) (nomark _)))))) (pss_one (ps_ret (pv 3))) pss_nil)
      (pss_one (ps_set (i := 2) sc_law_first_unfit.nd rfl (.inl rfl) (pe_op op_add (pe_op op_sub (pv 2) (pe_op op_sub (pv 5) (pv 4))) (pe_callB call_len (by rfl) T.m_len PySem.boot_len (pa_cons (pe_ix ix_tup (pe_ix ix_list (pv 1) (pv 3) (fun _ _ => rfl)) pe_int (fun _ _ => rfl)) pa_nil)))))))))
      (pss_one (ps_ret (pe_un un_neg pe_int))))), ?_⟩
    refine ⟨_, rfl, ?_⟩
    refine ⟨_, rfl, l, _, rfl, .inl (SqL.of hl), _, rfl, by omega, by omega, ?_⟩
    refine for_range (lo := 0) (n := ((us.length : Int)).toNat) (fun i σ H' => H' = H ∧ ∃ (y3 y4 y5 : Option V), σ = [some (.int (n : Int)), some (.ref l), some (.int ((sizeL n (es.take i) : Nat) : Int)), y3, y4, y5] ∧ fitsL n (es.take i))
      ⟨rfl, none, none, none, rfl, True.intro⟩ ?_ ?_
    · rintro i σ H1 hi ⟨rfl, y3, y4, y5, rfl, hf⟩
      have hi' : i < es.length := by omega
      obtain ⟨e, he⟩ : ∃ e, es[i]? = some e := ⟨_, List.getElem?_eq_getElem hi'⟩
      obtain ⟨x', hx', t, rfl, ht⟩ := paired_get hes he
      have len2 := hsh e (List.mem_of_getElem? he)
      have at1 : atI us (0 + (i : Int)) = some (.ref t) := at_of (j := i) (by omega) hx'
      refine ⟨_, rfl, _, rfl, l, _, _, _, rfl, rfl, SqL.of hl, at1, t, _, 0, .int e.1, rfl, rfl, SqT.of ht, atI_nat (j := 0) rfl, ?_⟩
      refine ⟨_, rfl, _, rfl, l, _, _, _, rfl, rfl, SqL.of hl, at1, t, _, 1, .int e.2.1, rfl, rfl, SqT.of ht, atI_nat (j := 1) rfl, ?_⟩
      have bad : ¬ fit1 (sizeL n (es.take i)) e → Q (.int (0 + (i : Int))) H1 := fun h => by
        have h1 := unfit_here hf he h
        have h2 : unfitI n es = 0 + (i : Int) := by
          unfold unfitI
          rw [h1]
          show (i : Int) = 0 + (i : Int)
          omega
        rw [← h2]
        exact q
      refine ⟨_, rfl, e.1, 0, rfl, rfl, _, rfl, ite2 (fun c => ?_) (fun c => ?_)⟩
      · refine iteT ⟨_, rfl, bad fun f => ?_⟩
        have := of_decide_eq_true c
        have := f.1
        omega
      · refine ⟨_, rfl, _, rfl, e.2.1, e.1, rfl, rfl, _, rfl, ite2 (fun c2 => ?_) (fun c2 => ?_)⟩
        · refine iteT ⟨_, rfl, bad fun f => ?_⟩
          have := of_decide_eq_true c2
          have := f.2.1
          omega
        · refine ⟨_, rfl, _, rfl, e.2.1, _, rfl, rfl, _, rfl, ite2 (fun c3 => ?_) (fun c3 => ?_)⟩
          · refine ⟨_, rfl, bad fun f => ?_⟩
            have := of_decide_eq_true c3
            have := f.2.2
            omega
          · have f1 : fit1 (sizeL n (es.take i)) e := by
              have g1 : ¬ e.1 < 0 := fun h => c (decide_eq_true h)
              have g2 : ¬ e.2.1 < e.1 := fun h => c2 (decide_eq_true h)
              have g3 : ¬ ((sizeL n (es.take i) : Nat) : Int) < e.2.1 := fun h => c3 (decide_eq_true h)
              exact ⟨by omega, by omega, by omega⟩
            refine ⟨_, rfl, _, rfl, _, rfl, e.2.1, e.1, rfl, rfl, _, _, rfl, rfl, ?_⟩
            refine ⟨_, rfl, _, rfl, l, _, _, _, rfl, rfl, SqL.of hl, at1, t, _, 2, .str e.2.2, rfl, rfl, SqT.of ht, atI_nat (j := 2) rfl, _, _, rfl, ⟨sz1 (by rw [len_cs]; exact Nat.le_trans len2.1 (by decide)), rfl⟩, _, _, rfl, rfl, ?_⟩
            have e3 : ((sizeL n (es.take i) : Nat) : Int) - (e.2.1 - e.1) + (e.2.2.length : Int) = ((sizeL n (es.take (i + 1)) : Nat) : Int) := by
              obtain ⟨a1, a2, a3⟩ := f1
              rw [take_more he, sizeL_snoc]
              have v4 : size1 (sizeL n (es.take i)) e = sizeL n (es.take i) - (e.2.1.toNat - e.1.toNat) + (cs e.2.2).length := rfl
              have v5 := len_cs e.2.2
              omega
            refine ⟨rfl, some (.int (0 + (i : Int))), some (.int e.1), some (.int e.2.1), ?_, ?_⟩
            · rw [← e3]
              rfl
            · rw [take_more he]
              exact (fitsL_snoc _ _ _).mpr ⟨hf, f1⟩
    · rintro σ H1 ⟨rfl, y3, y4, y5, rfl, hf⟩
      rw [Int.toNat_natCast, hle, List.take_length] at hf
      have h1 : unfitI n es = -1 := by
        unfold unfitI
        rw [unfit_none.mpr hf]
      rw [h1] at q
      exact ⟨1, rfl, q⟩
/-- an edit as data -/


def edD (e : Ed) : PyData := .tuple [.int e.1, .int e.2.1, .str e.2.2]
theorem edD_lay {e : Ed} (h : TOk e.2.2) : (edD e).canLay0 = true := by
  have h1 : PyData.strOk e.2.2 = true := by
    unfold PyData.strOk
    rw [← Array.all_toList]
    exact List.all_eq_true.mpr fun c hc => decide_eq_true (h c hc)
  unfold edD
  simp [PyData.canLay0, PyData.canLayAll0, h1]
theorem edD_depth (e : Ed) : (edD e).depth ≤ 3 := by
  unfold edD
  simp [PyData.depth, PyData.depthAll]
theorem edD_shaped {e : Ed} (h : TOk e.2.2) : SeqAt.shaped (edD e) = true := by
  unfold SeqAt.shaped
  rw [edD_lay h]
  have := edD_depth e
  simp only [Bool.true_and, decide_eq_true_eq]
  omega
theorem EdAt.dp {H : Hp} {v : V} {e : Ed} (h : EdAt H v e) : Dp K H v (edD e) := by
  obtain ⟨t, rfl, ht⟩ := h
  exact .tup (SqT.of ht) (.cons (.int _) (.cons (.int _) (.cons (.str _) .nil)))

/-! ### what the program promises of edits -/
def Lim2 (t : List Nat) (es : List Ed) : Prop := ∀ k, fitsL t.length (es.take k) → (appl t (es.take k)).length ≤ 4000000
theorem Lim2.lim {t : List Nat} {es : List Ed} (h : Lim2 t es) (f : fitsL t.length es) : Lim t es := fun k => h k (fitsL_take k f)
theorem Lim2.take {t : List Nat} {es : List Ed} (h : Lim2 t es) (j : Nat) : Lim2 t (es.take j) := fun k f => by
  rw [List.take_take] at f ⊢
  exact h _ f
def Sized (es : List Ed) : Prop := ∀ e ∈ es, e.len ≤ 4000000 ∧ TOk e.2.2
theorem Short.sized {es : List Ed} (h : Short es) : Sized es := fun e he => ⟨Nat.le_trans (h e he).1 (by decide), (h e he).2⟩
/-- an EditError with its index -/
def ErrAt (C : Addr) (H : Hp) (E : XK) (k : Nat) : Prop := ∀ d H', Same H H' → H d = none → H' d = some (.xd [(("index" : Str), .int (k : Int))]) → E (.ref C) (some d) H'
def spApply (C : Addr) : Sp := fun vs H Q E => ∃ (z : Str) (l : Addr) (es : List Ed), vs = [.str z, .ref l] ∧ EdsAt H l es ∧ Sized es ∧ es.length ≤ 2000 ∧ (cs z).length ≤ 4000000 ∧ TOk z ∧ Lim2 (cs z) es ∧
  (fitsL (cs z).length es → ∀ H', Same H H' → Q (.str ⟨(appl (cs z) es).toArray⟩) H') ∧ (∀ k, unfit (cs z).length es = some k → ErrAt C H E k)
def spInverse (C : Addr) : Sp := fun vs H Q E => ∃ (z : Str) (l : Addr) (es : List Ed), vs = [.str z, .ref l] ∧ EdsAt H l es ∧ Sized es ∧ es.length ≤ 2000 ∧ (cs z).length ≤ 4000000 ∧ TOk z ∧ Lim2 (cs z) es ∧
  (fitsL (cs z).length es → ∀ l' H', Same H H' → H l' = none → EdsAt H' l' (backL (cs z) es) → Q (.ref l') H') ∧ (∀ k, unfit (cs z).length es = some k → ErrAt C H E k)
theorem short_lim : ∀ {es : List Ed} {t : List Nat}, Short es → fitsL t.length es → (appl t es).length ≤ t.length + es.length * 2000
  | [], t, _, _ => Nat.le_add_right _ _
  | e :: r, t, h, f => by
    obtain ⟨f1, f2⟩ := f
    have e1 := spl1_len f1
    rw [← e1] at f2
    have ih := short_lim (es := r) (t := spl1 t e) (fun x hx => h x (List.mem_cons_of_mem _ hx)) f2
    have h1 := (h e List.mem_cons_self).1
    have s1 : size1 t.length e ≤ t.length + e.len := by
      unfold size1
      omega
    show (appl (spl1 t e) r).length ≤ t.length + (r.length + 1) * 2000
    rw [e1] at ih
    omega
theorem short_lim2 {es : List Ed} {t : List Nat} (h : Short es) (ht : t.length ≤ 2000) (hn : es.length ≤ 1500) : Lim2 t es := fun k f => by
  have h1 := short_lim (es := es.take k) (t := t) (fun x hx => h x (List.mem_of_mem_take hx)) f
  have h2 : (es.take k).length ≤ es.length := by rw [List.length_take]; exact Nat.min_le_right _ _
  omega
theorem EdsAt.cut {H : Hp} {l p : Addr} {es : List Ed} (h : EdsAt H l es) (np : H p = none) (k : Nat) : ∃ us, H l = some (.lst us) ∧ EdsAt (upd H p (.lst (cutV us none (some (k : Int))))) p (es.take k) := by
  obtain ⟨us, h1, h2⟩ := h
  refine ⟨us, h1, us.take k, ?_, paired_take k (h2.mono (Tups.new np))⟩
  rw [cutV_pre, upd_same]

theorem edDs_lay : ∀ {es : List Ed}, (∀ e ∈ es, TOk e.2.2) → PyData.canLayAll0 (es.map edD) = true
  | [], _ => rfl
  | e :: r, h => by
    rw [List.map_cons]
    simp only [PyData.canLayAll0]
    rw [edD_lay (h e List.mem_cons_self), edDs_lay fun x hx => h x (List.mem_cons_of_mem _ hx)]
    rfl
theorem edDs_depth : ∀ es : List Ed, PyData.depthAll (es.map edD) ≤ 3
  | [] => by simp [PyData.depthAll]
  | e :: r => by
    have h1 := edD_depth e
    have h2 := edDs_depth r
    rw [List.map_cons]
    simp only [PyData.depthAll]
    omega
theorem edL_lay {es : List Ed} (h : ∀ e ∈ es, TOk e.2.2) : (PyData.list (es.map edD)).canLay0 = true := by
  simp only [PyData.canLay0]
  exact edDs_lay h
theorem edL_shaped {es : List Ed} (h : ∀ e ∈ es, TOk e.2.2) : SeqAt.shaped (.list (es.map edD)) = true := by
  unfold SeqAt.shaped
  rw [edL_lay h]
  have := edDs_depth es
  have d : (PyData.list (es.map edD)).depth = PyData.depthAll (es.map edD) + 1 := by simp only [PyData.depth]
  rw [d, Bool.true_and, decide_eq_true_eq]
  omega
theorem eds_dp {H : Hp} : ∀ {vs : List V} {es : List Ed}, EdsIn H vs es → DpAll K H vs (es.map edD)
  | _, _, .nil => .nil
  | _, _, .cons r t => .cons r.dp (eds_dp t)
theorem EdsAt.dp {H : Hp} {l : Addr} {es : List Ed} (h : EdsAt H l es) : Dp K H (.ref l) (.list (es.map edD)) := by
  obtain ⟨us, h1, h2⟩ := h
  exact .lst (SqL.of h1) (eds_dp h2)
theorem EdsAt.out {H : Hp} {l p : Addr} {es : List Ed} {o : HO} (h : EdsAt H l es) (n : l ≠ p) (t : Tups H (upd H p o)) : EdsAt (upd H p o) l es := by
  obtain ⟨us, h1, h2⟩ := h
  exact ⟨us, by rw [upd_ne n]; exact h1, h2.mono t⟩

/-! ### walks over texts -/
theorem for_strS {x : Str} {g : L2.TG} {tb : L2.TS} {D : L2.Ends} {σ : L2.St} {H : Hp} (Pv : Nat → L2.St → Hp → Prop) (h0 : Pv 0 σ H)
    (hs : ∀ i c σ H, x.cps[i]? = some c → Pv i σ H → g (.str ⟨#[c]⟩) σ H fun σ2 H2 => tb { D with nx := Pv (i + 1), ct := Pv (i + 1), bk := D.nx } σ2 H2) (hd : ∀ σ H, Pv x.cps.size σ H → D.nx σ H) :
    ∃ Wk : Nat → Nat → L2.St → Hp → Prop, (∃ mm, Wk 0 mm σ H) ∧ ∀ i mm σ H, Wk i mm σ H →
      ((Its x).stop i H ∧ D.nx σ H) ∨ ((Its x).go i H ∧ ∃ N : L2.St → Hp → Prop, (∀ σ' H', N σ' H' → ∃ mm', mm' < mm ∧ Wk (i + 1) mm' σ' H') ∧ ∀ y H', (Its x).yld i H y H' → g y σ H' fun σ2 H2 => tb { D with nx := N, ct := N, bk := D.nx } σ2 H2) := by
  refine ⟨fun i mm σ H => mm = x.cps.size - i ∧ i ≤ x.cps.size ∧ Pv i σ H, ⟨x.cps.size, by simp, Nat.zero_le _, h0⟩, ?_⟩
  rintro i mm σ H ⟨rfl, hi, pz⟩
  by_cases hlt : i < x.cps.size
  · refine .inr ⟨hlt, Pv (i + 1), fun σ' H' pz' => ⟨x.cps.size - (i + 1), by omega, rfl, hlt, pz'⟩, fun y H' hy => ?_⟩
    obtain ⟨rfl, c, hc, rfl⟩ := hy
    exact hs i c σ H' hc pz
  · have ee : i = x.cps.size := by omega
    subst ee
    exact .inl ⟨Nat.le_refl _, hd σ H pz⟩
theorem lc_strS {x : Str} {g : L2.TG} {tt : L2.TT} {te : L2.TE} {vs : List Nat} {σ : L2.St} {H1 : Hp} {D : Addr} {Qd : Hp → Prop} (Pv : Nat → Hp → Prop) (h0 : Pv 0 (upd H1 D (.lst [])))
    (hs : ∀ i c H, x.cps[i]? = some c → Pv i H → g (.str ⟨#[c]⟩) (wipe σ vs) H fun σ2 H2 => wipe σ2 vs = wipe σ vs ∧ tt σ2 H2 fun b H3 =>
      if b = true then te σ2 H3 fun y H4 => ∃ acc, H4 D = some (.lst acc) ∧ acc.length < sizeLine ∧ Pv (i + 1) (upd H4 D (.lst (acc ++ [y]))) else Pv (i + 1) H3) (hd : ∀ H, Pv x.cps.size H → Qd H) :
    ∃ Wk : Nat → Nat → Hp → Prop, (∃ mm, Wk 0 mm (upd H1 D (.lst []))) ∧ ∀ i mm H, Wk i mm H →
      ((Its x).stop i H ∧ Qd H) ∨ ((Its x).go i H ∧ ∃ Nx : Hp → Prop, (∀ H', Nx H' → ∃ mm', mm' < mm ∧ Wk (i + 1) mm' H') ∧ ∀ y H', (Its x).yld i H y H' → g y (wipe σ vs) H' fun σ2 H2 => wipe σ2 vs = wipe σ vs ∧ tt σ2 H2 fun b H3 =>
        if b = true then te σ2 H3 fun y H4 => ∃ acc, H4 D = some (.lst acc) ∧ acc.length < sizeLine ∧ Nx (upd H4 D (.lst (acc ++ [y]))) else Nx H3) := by
  refine ⟨fun i mm H => mm = x.cps.size - i ∧ i ≤ x.cps.size ∧ Pv i H, ⟨x.cps.size, by simp, Nat.zero_le _, h0⟩, ?_⟩
  rintro i mm H ⟨rfl, hi, pz⟩
  by_cases hlt : i < x.cps.size
  · refine .inr ⟨hlt, Pv (i + 1), fun H' pz' => ⟨x.cps.size - (i + 1), by omega, rfl, hlt, pz'⟩, fun y H' hy => ?_⟩
    obtain ⟨rfl, c, hc, rfl⟩ := hy
    exact hs i c H' hc pz
  · have ee : i = x.cps.size := by omega
    subst ee
    exact .inl ⟨Nat.le_refl _, hd H pz⟩
/-- a walk over enumerate(xs) -/
theorem for_enumS {K : PySem.W.Frag} {a : Addr} {xs : List V} {g : L2.TG} {tb : L2.TS} {D : L2.Ends} {σ : L2.St} {H : Hp} (Pv : Nat → L2.St → Hp → Prop) (h0 : Pv 0 σ H) (hl : ∀ i σ H, i ≤ xs.length → Pv i σ H → SqL K H a xs)
    (hs : ∀ i x t σ H, xs[i]? = some x → Pv i σ H → H t = none → g (.ref t) σ (upd H t (.tup [.int (i : Nat), x])) fun σ2 H2 => tb { D with nx := Pv (i + 1), ct := Pv (i + 1), bk := D.nx } σ2 H2) (hd : ∀ σ H, Pv xs.length σ H → D.nx σ H) :
    ∃ Wk : Nat → Nat → L2.St → Hp → Prop, (∃ mm, Wk 0 mm σ H) ∧ ∀ i mm σ H, Wk i mm σ H →
      ((Ite K a).stop i H ∧ D.nx σ H) ∨ ((Ite K a).go i H ∧ ∃ N : L2.St → Hp → Prop, (∀ σ' H', N σ' H' → ∃ mm', mm' < mm ∧ Wk (i + 1) mm' σ' H') ∧ ∀ y H', (Ite K a).yld i H y H' → g y σ H' fun σ2 H2 => tb { D with nx := N, ct := N, bk := D.nx } σ2 H2) := by
  refine ⟨fun i mm σ H => mm = xs.length - i ∧ i ≤ xs.length ∧ Pv i σ H, ⟨xs.length, by simp, Nat.zero_le _, h0⟩, ?_⟩
  rintro i mm σ H ⟨rfl, hi, pz⟩
  have q := hl i σ H hi pz
  by_cases hlt : i < xs.length
  · have hx : xs[i]? = some (xs[i]) := List.getElem?_eq_getElem hlt
    refine .inr ⟨⟨xs, xs[i], q, hx⟩, Pv (i + 1), fun σ' H' pz' => ⟨xs.length - (i + 1), by omega, rfl, hlt, pz'⟩, fun y H' hy => ?_⟩
    obtain ⟨t, x, rfl, ht, rfl, hall⟩ := hy
    exact hs i x t σ H (hall xs q) pz ht
  · have ee : i = xs.length := by omega
    subst ee
    exact .inl ⟨⟨xs, q, Nat.le_refl _⟩, hd σ H pz⟩

def okNum (v : V) : Prop := ∃ n : Int, v = .int n ∧ 0 ≤ n ∧ n ≤ 100000

/-! ### the error's making -/
theorem log_small {i : Int} (h0 : 0 ≤ i) (h : i ≤ 1000000) : i.natAbs.log2 < 1920 := by
  have h1 : i.natAbs ≤ 1000000 := by omega
  have h2 : i.natAbs < 2 ^ 1920 := Nat.lt_of_le_of_lt h1 (by decide +kernel)
  by_cases hz : i.natAbs = 0
  · rw [hz]
    decide +kernel
  · exact (Nat.log2_lt hz).mpr h2
theorem ok_EditError_init (T : Txt K mg) : FnOk P w K mg base CX0 2 T.a_EditError_init T.fd_EditError_init ["self", "index"] (spInit1 "index" T.C_EditError okNum) := by
  refine T.F_EditError_init.ok sc_EditError_init (fun vs H Q E h => ?_) (fun cdv A outer s H vs Q E hr h => ?_)
  · obtain ⟨a, v, rfl, _⟩ := h
    rfl
  · obtain ⟨a, v, rfl, ⟨n, rfl, n0, n1⟩, ha, q⟩ := h
    refine ⟨_, (pss_cons (ps_expr (pe_baseInit (by rfl) T.G_MendedError T.B_MendedError (pa_cons (pv 0) (pa_cons (pe_joined (.cons pe_str (.cons (pe_fmt (pv 1)) (.cons pe_str .nil)))) pa_nil))))
      (pss_one (ps_ost (pv 0) (pv 1)))), ?_⟩
    have big : sizeLine = 2 ^ 24 := rfl
    have ln := PyProof.Rows.int_text_len_1921 (log_small n0 (by omega))
    refine ⟨_, rfl, _, rfl, ?_, _, rfl, .inr ⟨n, rfl, log_small n0 (by omega), _, rfl, ?_, _, rfl, ?_, ?_⟩⟩
    · rw [strLen_append, big]
      show 0 + 9 ≤ _
      omega
    · rw [strLen_append, strLen_append, big]
      show 0 + 9 + (Str.ofString (toString n)).length ≤ _
      omega
    · rw [strLen_append, strLen_append, strLen_append, big]
      show 0 + 9 + (Str.ofString (toString n)).length + 13 ≤ _
      omega
    refine ⟨a, _, _, rfl, by show 1 ≤ 1000; decide, T.E_EditError.oex, ha, ?_⟩
    refine ⟨_, rfl, _, rfl, a, _, rfl, T.E_EditError.oex, T.n_EditError_index, .inl ⟨ha, fun dx nd hne => ?_⟩⟩
    exact q dx nd hne

/-! ### the first edit that does not fit -/
def unfitV (n : Nat) (es : List Ed) : V := match unfit n es with
  | some k => .int (k : Int)
  | none => .non
def spFU : Sp := fun vs H Q _ => ∃ (n : Nat) (l : Addr) (es : List Ed), vs = [.int (n : Int), .ref l] ∧ EdsAt H l es ∧ Sized es ∧ es.length ≤ 2000 ∧ ∀ H', Same H H' → Q (unfitV n es) H'
theorem ok_first_misfit (T : Txt K mg) : FnOk P w K mg base CX0 2 T.a_first_misfit T.fd_first_misfit ["length", "edits"] spFU := by
  refine T.F_first_misfit.ok sc_first_misfit (fun vs H Q E h => ?_) (fun cdv A outer s H vs Q E hr h => ?_)
  · obtain ⟨n, l, es, rfl, _⟩ := h
    rfl
  · obtain ⟨n, l, es, rfl, hE, hS, hn, q⟩ := h
    obtain ⟨us, hus, hue⟩ := id hE
    have lu := paired_len hue
    refine ⟨_, (pss_cons (ps_for PassesOwn.never rfl (pi_enum (by rfl) T.m_enumerate (pa_cons (pv 1) pa_nil)) (pg_tup (by rfl) (pgs_cons (pg_name (i := 2) sc_first_misfit.nd rfl (.inl rfl)) (pgs_cons (pg_tup (by rfl) (pgs_cons (pg_name (i := 3) sc_first_misfit.nd rfl (.inl rfl)) (pgs_cons (pg_name (i := 4) sc_first_misfit.nd rfl (.inl rfl)) (pgs_cons (pg_name (i := 5) sc_first_misfit.nd rfl (.inl rfl)) pgs_nil)))) pgs_nil))) (pss_cons (ps_if (PW.pt (pw_or (pt_cmpR op_lt (pv 3) pe_int (nomark _)) (pw_or (pt_cmpR op_lt (pv 4) (pv 3) (nomark _)) (pw_or1 (pt_cmpR op_gt (pv 4) (pv 0) (nomark _)))))) (pss_one (ps_ret (pv 2))) pss_nil)
      (pss_one (ps_set (i := 0) sc_first_misfit.nd rfl (.inl rfl) (pe_op op_sub (pe_op op_add (pv 0) (pe_callB call_len_str (by rfl) T.m_len PySem.boot_len (pa_cons (pv 5) pa_nil))) (pe_op op_sub (pv 4) (pv 3)))))))
      (pss_one (ps_ret pe_non))), ?_⟩
    refine ⟨_, rfl, l, us, rfl, SqL.of hus, ?_⟩
    refine for_enumS (K := K) (a := l) (xs := us) (fun i σ H' => Same H H' ∧ fitsL n (es.take i) ∧ ∃ y3 y4 y5 y6 : Option V, σ = [some (.int ((sizeL n (es.take i) : Nat) : Int)), some (.ref l), y3, y4, y5, y6])
      ⟨Same.refl _, True.intro, none, none, none, none, rfl⟩ (fun i σ H' _ ⟨s, _⟩ => SqL.of (s _ _ hus)) ?_ ?_
    · rintro i x t σ H1 hx ⟨sm, hf, y3, y4, y5, y6, rfl⟩ nt
      obtain ⟨e, he⟩ : ∃ e, es[i]? = some e := ⟨_, List.getElem?_eq_getElem (by rw [← lu]; exact (List.getElem?_eq_some_iff.mp hx).1)⟩
      obtain ⟨x', hx', te, rfl, hte⟩ := paired_get hue he
      rw [hx] at hx'
      have h1 := Option.some.inj hx'
      subst h1
      have len2 := (hS e (List.mem_of_getElem? he)).1
      have l2 : e.2.2.length ≤ 4000000 := by rw [len_cs]; exact len2
      have s1 := sm.trans (same_upd (o := .tup [.int ((i : Nat) : Int), .ref te]) nt)
      refine ⟨t, _, rfl, SqT.of upd_same, rfl, _, _, rfl, _, _, rfl, te, _, rfl, SqT.of (s1 _ _ hte), rfl, _, _, rfl, _, _, rfl, _, _, rfl, rfl, rfl, ?_⟩
      have bad : ¬ fit1 (sizeL n (es.take i)) e → Q (.int (i : Int)) (upd H1 t (.tup [.int ((i : Nat) : Int), .ref te])) := fun h => by
        have h1 := unfit_here hf he h
        have h2 : unfitV n es = .int (i : Int) := by
          unfold unfitV
          rw [h1]
        have h3 := q _ s1
        rw [h2] at h3
        exact h3
      refine ⟨_, rfl, e.1, 0, rfl, rfl, _, rfl, ite2 (fun c => ?_) (fun c => ?_)⟩
      · refine iteT ⟨_, rfl, bad fun f => ?_⟩
        have := of_decide_eq_true c
        have := f.1
        omega
      · refine ⟨_, rfl, _, rfl, e.2.1, e.1, rfl, rfl, _, rfl, ite2 (fun c2 => ?_) (fun c2 => ?_)⟩
        · refine iteT ⟨_, rfl, bad fun f => ?_⟩
          have := of_decide_eq_true c2
          have := f.2.1
          omega
        · refine ⟨_, rfl, _, rfl, e.2.1, _, rfl, rfl, _, rfl, ite2 (fun c3 => ?_) (fun c3 => ?_)⟩
          · refine ⟨_, rfl, bad fun f => ?_⟩
            have := of_decide_eq_true c3
            have := f.2.2
            omega
          · have f1 : fit1 (sizeL n (es.take i)) e := by
              have g1 : ¬ e.1 < 0 := fun h => c (decide_eq_true h)
              have g2 : ¬ e.2.1 < e.1 := fun h => c2 (decide_eq_true h)
              have g3 : ¬ ((sizeL n (es.take i) : Nat) : Int) < e.2.1 := fun h => c3 (decide_eq_true h)
              refine And.intro ?_ (And.intro ?_ ?_) <;> omega
            refine ⟨_, rfl, _, rfl, _, rfl, szM (by omega), _, _, rfl, rfl, _, rfl, _, rfl, _, _, rfl, rfl, _, _, rfl, rfl, ?_⟩
            have e3 : ((sizeL n (es.take i) : Nat) : Int) + (e.2.2.length : Int) - (e.2.1 - e.1) = ((sizeL n (es.take (i + 1)) : Nat) : Int) := by
              obtain ⟨a1, a2, a3⟩ := f1
              rw [take_more he, sizeL_snoc]
              have v4 : size1 (sizeL n (es.take i)) e = sizeL n (es.take i) - (e.2.1.toNat - e.1.toNat) + (cs e.2.2).length := rfl
              have v5 := len_cs e.2.2
              omega
            refine ⟨s1, ?_, some (.int ((i : Nat) : Int)), some (.int e.1), some (.int e.2.1), some (.str e.2.2), ?_⟩
            · rw [take_more he]
              exact (fitsL_snoc _ _ _).mpr ⟨hf, f1⟩
            · rw [← e3]
              rfl
    · rintro σ H1 ⟨sm, hf, y3, y4, y5, y6, rfl⟩
      rw [lu, List.take_length] at hf
      have h1 : unfitV n es = .non := by
        unfold unfitV
        rw [unfit_none.mpr hf]
      rw [h1] at q
      exact q _ sm
/-! ### check -/
def spCheck (C : Addr) : Sp := fun vs H Q E => ∃ (n : Nat) (l : Addr) (es : List Ed), vs = [.int (n : Int), .ref l] ∧ EdsAt H l es ∧ Sized es ∧ es.length ≤ 2000 ∧ (fitsL n es → ∀ H', Same H H' → Q .non H') ∧ (∀ k, unfit n es = some k → ErrAt C H E k)
theorem ok_check_fits (T : Txt K mg) : FnOk P w K mg base (L2.CX P w) 4 T.a_check_fits T.fd_check_fits ["length", "edits"] (spCheck T.C_EditError) := by
  have G_first_misfit : FnOk P w K mg base CX0 2 T.a_first_misfit T.fd_first_misfit ["length", "edits"] spFU := ok_first_misfit T
  have G_EditError_init : FnOk P w K mg base CX0 2 T.a_EditError_init T.fd_EditError_init ["self", "index"] (spInit1 "index" T.C_EditError okNum) := ok_EditError_init T
  refine T.F_check_fits.okX sc_check_fits (fun vs H Q E h => ?_) (fun cdv A outer s H vs Q E hr h => ?_)
  · obtain ⟨n, l, es, rfl, _⟩ := h
    rfl
  · have hr_first_misfit : Room 2 _ := hr.mono (by decide)
    have hr_EditError_init : Room 3 _ := hr
    obtain ⟨n, l, es, rfl, hE, hS, hn, q1, q2⟩ := h
    refine ⟨_, (pss_cons (ps_set (i := 2) sc_check_fits.nd rfl (.inl rfl) (pe_call G_first_misfit hr_first_misfit (by rfl) T.g_first_misfit T.F_first_misfit.kp T.b_first_misfit .nil pass0 (pa_cons (pv 0) (pa_cons (pv 1) pa_nil))))
      (pss_one (ps_if (pt_cmpR op_notN (pv 2) pe_non (nomark _)) (pss_one (ps_raise rfl (takes_of rfl rfl rfl rfl) (pmk_oex T.E_EditError.oex T.E_EditError.iC T.E_EditError.tI G_EditError_init hr_EditError_init T.b_EditError_init .nil pass0 (by rfl) T.E_EditError.g (pa_cons (pv 2) pa_nil)))) pss_nil))), ?_⟩
    refine ⟨_, rfl, _, rfl, n, l, es, rfl, hE, hS, hn, fun H1 s1 => ?_⟩
    cases hun : unfit n es with
    | none =>
      have e1 : unfitV n es = .non := by unfold unfitV; rw [hun]
      rw [e1]
      refine ⟨_, rfl, rfl, _, rfl, iteF ?_⟩
      exact q1 (unfit_none.mp hun) _ s1
    | some k =>
      obtain ⟨_, hkl⟩ := unfit_take hun
      have e1 : unfitV n es = .int (k : Int) := by unfold unfitV; rw [hun]
      rw [e1]
      refine ⟨_, rfl, rfl, _, rfl, iteT ?_⟩
      refine mk1 (ta := tCons (tVar 2) tNil) (f := "index") (ok := okNum) ?_ ?_
      · refine ⟨_, rfl, .int (k : Int), rfl, ⟨_, rfl, by omega, by omega⟩, fun d H' sm nd hd => ?_⟩
        have nd0 : H d = none := by
          cases e : H d with
          | none => rfl
          | some o =>
            rw [s1 _ _ e] at nd
            cases nd
        exact q2 k hun d H' (s1.trans sm) nd0 hd
      · rintro Q1 Q2 h ⟨x, e1, q⟩
        exact ⟨x, e1, h _ _ q⟩

/-! ### ropes, in plain Lean -/
inductive RT where
  | leaf (p : Addr) (z : Str)
  | node (p : Addr) (l r : RT)
def RT.at : RT → Addr
  | .leaf p _ => p
  | .node p _ _ => p
def RT.size : RT → Nat
  | .leaf _ z => (cs z).length
  | .node _ l r => l.size + r.size
def RT.ht : RT → Nat
  | .leaf _ z => min (cs z).length 1
  | .node _ l r => 1 + max l.ht r.ht
def RT.txt : RT → List Nat
  | .leaf _ z => cs z
  | .node _ l r => l.txt ++ r.txt
/-- a rope that is not empty -/
def RT.Sol : RT → Prop
  | .leaf _ z => 1 ≤ (cs z).length ∧ (cs z).length ≤ 16
  | .node _ l r => l.Sol ∧ r.Sol ∧ l.ht ≤ r.ht + 1 ∧ r.ht ≤ l.ht + 1
def RT.Ok (t : RT) : Prop := (∃ p z, cs z = [] ∧ t = .leaf p z) ∨ t.Sol
theorem RT.txt_len : ∀ t : RT, t.txt.length = t.size
  | .leaf _ _ => rfl
  | .node _ l r => by
    show (l.txt ++ r.txt).length = l.size + r.size
    rw [List.length_append, RT.txt_len l, RT.txt_len r]
theorem RT.Sol.pos : ∀ {t : RT}, t.Sol → 1 ≤ t.size ∧ 1 ≤ t.ht
  | .leaf _ z, h => by
    have h1 := h.1
    show 1 ≤ (cs z).length ∧ 1 ≤ min (cs z).length 1
    omega
  | .node _ l r, h => by
    have h1 := RT.Sol.pos h.1
    show 1 ≤ l.size + r.size ∧ 1 ≤ 1 + max l.ht r.ht
    omega
theorem RT.Ok.zero {t : RT} (h : t.Ok) (e : t.size = 0) : ∃ p z, cs z = [] ∧ t = .leaf p z := by
  rcases h with h | h
  · exact h
  · have := h.pos.1
    omega
theorem RT.Ok.sol {t : RT} (h : t.Ok) (e : t.size ≠ 0) : t.Sol := by
  rcases h with h | h
  · obtain ⟨p, z, hz, rfl⟩ := h
    exact absurd (congrArg List.length hz) e
  · exact h
theorem RT.Ok.ht0 {t : RT} (h : t.Ok) : t.size = 0 → t.ht = 0 := fun e => by
  obtain ⟨p, z, hz, rfl⟩ := h.zero e
  show min (cs z).length 1 = 0
  rw [hz]
  rfl
/-- heights are small -/
theorem RT.Sol.low : ∀ {t : RT}, t.Sol → 2 ^ (t.ht - 1) ≤ t.size * t.size
  | .leaf _ z, h => by
    obtain ⟨h1, h2⟩ := h
    have e : min (cs z).length 1 = 1 := by
      omega
    show 2 ^ (min (cs z).length 1 - 1) ≤ (cs z).length * (cs z).length
    rw [e]
    show 2 ^ 0 ≤ (cs z).length * (cs z).length
    have := Nat.mul_le_mul h1 h1
    omega
  | .node _ l r, h => by
    obtain ⟨hl, hr, b1, b2⟩ := h
    have il := RT.Sol.low hl
    have ir := RT.Sol.low hr
    have pl := hl.pos
    have pr := hr.pos
    show 2 ^ (1 + max l.ht r.ht - 1) ≤ (l.size + r.size) * (l.size + r.size)
    have key : ∀ a b : Nat, ∀ x y : Nat, 1 ≤ x → x ≤ y + 1 → y ≤ x + 1 → 1 ≤ y → 1 ≤ a → 1 ≤ b → 2 ^ (x - 1) ≤ a * a → 2 ^ (y - 1) ≤ b * b → y ≤ x → 2 ^ x ≤ (a + b) * (a + b) := fun a b x y x1 xy yx y1 a1 b1 ha hb hyx => by
      have e1 : 2 ^ x = 2 * 2 ^ (x - 1) := by
        rw [← Nat.pow_succ']
        congr 1
        omega
      have h2 : 2 ^ (x - 1) ≤ 2 * (b * b) := by
        have h3 : 2 ^ (x - 1) ≤ 2 ^ (y - 1 + 1) := Nat.pow_le_pow_right (by decide) (by omega)
        rw [Nat.pow_succ] at h3
        omega
      have e2 : (a + b) * (a + b) = a * a + b * b + 2 * (a * b) := by
        rw [Nat.add_mul, Nat.mul_add, Nat.mul_add, Nat.mul_comm b a]
        omega
      have h4 : a ≤ b ∨ b ≤ a := Nat.le_total a b
      rw [e1, e2]
      rcases h4 with h4 | h4
      · have h5 := Nat.mul_le_mul_left a h4
        omega
      · have h5 := Nat.mul_le_mul_right b h4
        rw [Nat.mul_comm a b] at *
        omega
    rcases Nat.le_total r.ht l.ht with c | c
    · rw [show 1 + max l.ht r.ht - 1 = l.ht by omega]
      exact key l.size r.size l.ht r.ht pl.2 (by omega) (by omega) pr.2 pl.1 pr.1 il ir c
    · rw [show 1 + max l.ht r.ht - 1 = r.ht by omega, Nat.add_comm l.size]
      exact key r.size l.size r.ht l.ht pr.2 (by omega) (by omega) pl.2 pr.1 pl.1 ir il c
theorem RT.Ok.low {t : RT} (h : t.Ok) (hs : t.size < 16384) : t.ht ≤ 28 := by
  by_cases e : t.size = 0
  · rw [h.ht0 e]
    decide
  · have h1 := (h.sol e).low
    have h2 : t.size * t.size ≤ 16383 * 16383 := Nat.mul_le_mul (by omega) (by omega)
    by_cases c : t.ht ≤ 28
    · exact c
    · have h3 : 2 ^ 28 ≤ 2 ^ (t.ht - 1) := Nat.pow_le_pow_right (by decide) (by omega)
      omega
/-- the pieces, in their order -/
def RT.lvs : RT → List (Addr × Str)
  | .leaf p z => if (cs z).length = 0 then [] else [(p, z)]
  | .node _ l r => l.lvs ++ r.lvs
theorem RT.txt_lvs : ∀ t : RT, t.txt = (t.lvs.map fun x => cs x.2).flatten
  | .leaf p z => by
    show cs z = ((if (cs z).length = 0 then [] else [(p, z)] : List (Addr × Str)).map fun x => cs x.2).flatten
    split
    · rename_i h
      exact List.eq_nil_of_length_eq_zero h
    · simp
  | .node _ l r => by
    show l.txt ++ r.txt = ((l.lvs ++ r.lvs).map fun x => cs x.2).flatten
    rw [List.map_append, List.flatten_append, RT.txt_lvs l, RT.txt_lvs r]
theorem RT.size_lvs {a b c : RT} (h : a.lvs = b.lvs ++ c.lvs) : a.txt = b.txt ++ c.txt ∧ a.size = b.size + c.size := by
  have e : a.txt = b.txt ++ c.txt := by rw [RT.txt_lvs, h, List.map_append, List.flatten_append, ← RT.txt_lvs, ← RT.txt_lvs]
  refine ⟨e, ?_⟩
  rw [← RT.txt_len, e, List.length_append, RT.txt_len, RT.txt_len]
theorem RT.Ok.lvs0 {t : RT} (h : t.Ok) (e : t.size = 0) : t.lvs = [] := by
  obtain ⟨p, z, hz, rfl⟩ := h.zero e
  show (if (cs z).length = 0 then [] else [(p, z)] : List (Addr × Str)) = []
  rw [hz]
  rfl

/-! ### ropes, where they stand -/
def rfl5 (z : Str) (a b : V) (n h : Nat) : List (Str × V) := putF "height" (.int (h : Int)) (putF "size" (.int (n : Int)) (putF "right" b (putF "left" a (putF "piece" (.str z) []))))
theorem putF_le (f : Str) (v : V) : ∀ fs : List (Str × V), (putF f v fs).length ≤ fs.length + 1
  | [] => Nat.le_refl _
  | (g, u) :: r => by
    have ih := putF_le f v r
    show (if g = f then _ else _ : List (Str × V)).length ≤ _
    split
    · rw [List.length_cons, List.length_cons]
      omega
    · rw [List.length_cons, List.length_cons]
      omega
section
variable (z : Str) (a b : V) (n h : Nat)
theorem r5h : (rfl5 z a b n h).lookup ("height" : Str) = some (.int (h : Int)) := by
  unfold rfl5
  rw [lookup_putF, if_pos rfl]
theorem r5n : (rfl5 z a b n h).lookup ("size" : Str) = some (.int (n : Int)) := by
  unfold rfl5
  rw [lookup_putF, if_neg (by decide +kernel), lookup_putF, if_pos rfl]
theorem r5b : (rfl5 z a b n h).lookup ("right" : Str) = some b := by
  unfold rfl5
  rw [lookup_putF, if_neg (by decide +kernel), lookup_putF, if_neg (by decide +kernel), lookup_putF, if_pos rfl]
theorem r5a : (rfl5 z a b n h).lookup ("left" : Str) = some a := by
  unfold rfl5
  rw [lookup_putF, if_neg (by decide +kernel), lookup_putF, if_neg (by decide +kernel), lookup_putF, if_neg (by decide +kernel), lookup_putF, if_pos rfl]
theorem r5z : (rfl5 z a b n h).lookup ("piece" : Str) = some (.str z) := by
  unfold rfl5
  rw [lookup_putF, if_neg (by decide +kernel), lookup_putF, if_neg (by decide +kernel), lookup_putF, if_neg (by decide +kernel), lookup_putF, if_neg (by decide +kernel), lookup_putF, if_pos rfl]
theorem r5_no {m : Str} (h1 : ¬ m = "height") (h2 : ¬ m = "size") (h3 : ¬ m = "right") (h4 : ¬ m = "left") (h5 : ¬ m = "piece") : (rfl5 z a b n h).lookup m = none := by
  unfold rfl5
  rw [lookup_putF, if_neg h1, lookup_putF, if_neg h2, lookup_putF, if_neg h3, lookup_putF, if_neg h4, lookup_putF, if_neg h5]
  rfl
end
def RT.pc : RT → Str
  | .leaf _ z => z
  | .node _ _ _ => ""
def RT.lf : RT → V
  | .leaf _ _ => .non
  | .node _ l _ => .ref l.at
def RT.rt : RT → V
  | .leaf _ _ => .non
  | .node _ _ r => .ref r.at
def RT.fs (t : RT) : List (Str × V) := rfl5 t.pc t.lf t.rt t.size t.ht
def RopeAt (C : Addr) (H : Hp) : RT → Prop
  | .leaf p z => ∃ dx, H p = some (.ins C dx (RT.leaf p z).fs)
  | .node p l r => (∃ dx, H p = some (.ins C dx (RT.node p l r).fs)) ∧ RopeAt C H l ∧ RopeAt C H r
theorem RopeAt.same {C : Addr} {H H' : Hp} (s : Same H H') : ∀ {t : RT}, RopeAt C H t → RopeAt C H' t
  | .leaf p z, ⟨dx, h⟩ => ⟨dx, s _ _ h⟩
  | .node p l r, ⟨⟨dx, h⟩, h1, h2⟩ => ⟨⟨dx, s _ _ h⟩, RopeAt.same s h1, RopeAt.same s h2⟩
theorem RopeAt.it {C : Addr} {H : Hp} : ∀ {t : RT}, RopeAt C H t → ∃ dx, H t.at = some (.ins C dx t.fs)
  | .leaf p z, h => h
  | .node p l r, h => h.1
theorem RopeAt.l {C : Addr} {H : Hp} {p : Addr} {l r : RT} (h : RopeAt C H (.node p l r)) : RopeAt C H l := h.2.1
theorem RopeAt.r {C : Addr} {H : Hp} {p : Addr} {l r : RT} (h : RopeAt C H (.node p l r)) : RopeAt C H r := h.2.2
/-! ### Rope(..) -/
def spRInit (C : Addr) : Sp := fun vs H Q _ => ∃ (p dx : Addr), H p = some (.ins C dx []) ∧
  ((∃ z : Str, vs = [.ref p, .str z, .non, .non] ∧ (cs z).length ≤ 4000000 ∧ Q .non (upd H p (.ins C dx (rfl5 z .non .non (cs z).length (min (cs z).length 1))))) ∨
   (∃ l r : RT, vs = [.ref p, .str "", .ref l.at, .ref r.at] ∧ RopeAt C H l ∧ RopeAt C H r ∧ Q .non (upd H p (.ins C dx (rfl5 "" (.ref l.at) (.ref r.at) (l.size + r.size) (1 + max l.ht r.ht))))))
theorem RopeAt.mut {C D : Addr} {H : Hp} {p dx : Addr} (h0 : H p = some (.ins D dx [])) {o : HO} : ∀ {t : RT}, RopeAt C H t → RopeAt C (upd H p o) t := by
  have key : ∀ (q : Addr) (t : RT) (e : Addr), H q = some (.ins C e t.fs) → q ≠ p := fun q t e h => by
    rintro rfl
    rw [h0] at h
    have h1 := HO.ins.inj (Option.some.inj h)
    have h2 := r5n t.pc t.lf t.rt t.size t.ht
    have h3 : ([] : List (Str × V)) = rfl5 t.pc t.lf t.rt t.size t.ht := h1.2.2
    rw [← h3] at h2
    cases h2
  intro t
  induction t with
  | leaf q z =>
    rintro ⟨e, h⟩
    exact ⟨e, by rw [upd_ne (key q _ e h)]; exact h⟩
  | node q l r il ir =>
    rintro ⟨⟨e, h⟩, h1, h2⟩
    exact ⟨⟨e, by rw [upd_ne (key q _ e h)]; exact h⟩, il h1, ir h2⟩

theorem lk_top (f : Str) (v : V) (fs : List (Str × V)) : (putF f v fs).lookup f = some v := by rw [lookup_putF, if_pos rfl]
theorem ok_Rope_init (T : Txt K mg) : FnOk P w K mg base CX0 1 T.a_Rope_init T.fd_Rope_init ["self", "piece", "left", "right"] (spRInit T.C_Rope) := by
  refine T.F_Rope_init.ok sc_Rope_init (fun vs H Q E h => ?_) (fun cdv A outer s H vs Q E hr h => ?_)
  · obtain ⟨p, dx, _, h⟩ := h
    rcases h with ⟨z, rfl, _⟩ | ⟨l, r, rfl, _⟩
    · rfl
    · rfl
  · obtain ⟨p, dx, hp, h⟩ := h
    refine ⟨_, (pss_cons (ps_fld (pv 0) (pv 1) rfl)
      (pss_cons (ps_fld (pv 0) (pv 2) rfl)
      (pss_cons (ps_fld (pv 0) (pv 3) rfl)
      (pss_one (ps_if (pt_cmpR op_isN (pv 2) pe_non (nomark _)) (pss_cons (ps_fld (pv 0) (pe_callB call_len_str (by rfl) T.m_len PySem.boot_len (pa_cons (pv 1) pa_nil)) rfl)
      (pss_one (ps_fld (pv 0) (pe_callB (call_min2 rfl) (by rfl) T.m_min (by decide +kernel) (pa_cons (pe_fld (pv 0) rfl) (pa_cons pe_int pa_nil))) rfl))) (pss_cons (ps_fld (pv 0) (pe_op op_add (pe_fld (pv 2) rfl) (pe_fld (pv 3) rfl)) rfl)
      (pss_one (ps_fld (pv 0) (pe_op op_add pe_int (pe_callB (call_max2 rfl) (by rfl) T.m_max (by decide +kernel) (pa_cons (pe_fld (pv 2) rfl) (pa_cons (pe_fld (pv 3) rfl) pa_nil)))) rfl)))))))), ?_⟩
    have ln0 : ([] : List (Str × V)).length = 0 := rfl
    rcases h with ⟨z, rfl, hz, q⟩ | ⟨l, r, rfl, hl, hr', q⟩
    · have l1 := putF_le "piece" (.str z) []
      have l2 := putF_le "left" .non (putF "piece" (.str z) [])
      have l3 := putF_le "right" .non (putF "left" .non (putF "piece" (.str z) []))
      have l4 := putF_le "size" (.int ((cs z).length : Int)) (putF "right" .non (putF "left" .non (putF "piece" (.str z) [])))
      refine ⟨_, rfl, _, rfl, p, _, dx, _, rfl, hp, T.CL_Rope, T.NA_Rope_piece, by show 0 < 1000; decide, ?_⟩
      refine ⟨_, rfl, _, rfl, p, _, dx, _, rfl, upd_same, T.CL_Rope, T.NA_Rope_left, by omega, ?_⟩
      refine ⟨_, rfl, _, rfl, p, _, dx, _, rfl, upd_same, T.CL_Rope, T.NA_Rope_right, by omega, ?_⟩
      rw [upd_upd, upd_upd]
      refine ⟨_, rfl, rfl, _, rfl, iteT ?_⟩
      have lz := len_cs z
      refine ⟨_, rfl, z, rfl, szM (by omega), _, rfl, p, _, dx, _, rfl, upd_same, T.CL_Rope, T.NA_Rope_size, by omega, ?_⟩
      rw [upd_upd, lz]
      refine ⟨_, rfl, p, _, dx, _, _, rfl, upd_same, T.CL_Rope, T.NA_Rope_size, lk_top _ _ _, _, _, rfl, ?_⟩
      have e : (if (1 : Int) < ((cs z).length : Int) then (1 : Int) else ((cs z).length : Int)) = ((min (cs z).length 1 : Nat) : Int) := by
        split <;> omega
      rw [e]
      refine ⟨_, rfl, p, _, dx, _, rfl, upd_same, T.CL_Rope, T.NA_Rope_height, by omega, ?_⟩
      rw [upd_upd]
      exact q
    · have l1 := putF_le "piece" (.str "") []
      have l2 := putF_le "left" (.ref l.at) (putF "piece" (.str "") [])
      have l3 := putF_le "right" (.ref r.at) (putF "left" (.ref l.at) (putF "piece" (.str "") []))
      have l4 := putF_le "size" (.int ((l.size + r.size : Nat) : Int)) (putF "right" (.ref r.at) (putF "left" (.ref l.at) (putF "piece" (.str "") [])))
      refine ⟨_, rfl, _, rfl, p, _, dx, _, rfl, hp, T.CL_Rope, T.NA_Rope_piece, by show 0 < 1000; decide, ?_⟩
      refine ⟨_, rfl, _, rfl, p, _, dx, _, rfl, upd_same, T.CL_Rope, T.NA_Rope_left, by omega, ?_⟩
      refine ⟨_, rfl, _, rfl, p, _, dx, _, rfl, upd_same, T.CL_Rope, T.NA_Rope_right, by omega, ?_⟩
      rw [upd_upd, upd_upd]
      refine ⟨_, rfl, rfl, _, rfl, iteF ?_⟩
      obtain ⟨dl, kl⟩ := (hl.mut (o := .ins T.C_Rope dx (putF "right" (.ref r.at) (putF "left" (.ref l.at) (putF "piece" (.str "") [])))) hp).it
      obtain ⟨dr, kr⟩ := (hr'.mut (o := .ins T.C_Rope dx (putF "right" (.ref r.at) (putF "left" (.ref l.at) (putF "piece" (.str "") [])))) hp).it
      refine ⟨_, rfl, _, _, _, _, _, rfl, kl, T.CL_Rope, T.NA_Rope_size, r5n _ _ _ _ _, _, rfl, _, _, _, _, _, rfl, kr, T.CL_Rope, T.NA_Rope_size, r5n _ _ _ _ _, _, _, rfl, rfl, _, rfl, p, _, dx, _, rfl, upd_same, T.CL_Rope, T.NA_Rope_size, by omega, ?_⟩
      rw [upd_upd]
      have e1 : (fun i j : Int => V.int (i + j)) (l.size : Int) (r.size : Int) = V.int ((l.size + r.size : Nat) : Int) := congrArg V.int (by omega)
      rw [e1]
      obtain ⟨dl, kl⟩ := (hl.mut (o := .ins T.C_Rope dx (putF "size" (.int ((l.size + r.size : Nat) : Int)) (putF "right" (.ref r.at) (putF "left" (.ref l.at) (putF "piece" (.str "") []))))) hp).it
      obtain ⟨dr, kr⟩ := (hr'.mut (o := .ins T.C_Rope dx (putF "size" (.int ((l.size + r.size : Nat) : Int)) (putF "right" (.ref r.at) (putF "left" (.ref l.at) (putF "piece" (.str "") []))))) hp).it
      refine ⟨_, rfl, _, _, _, _, _, rfl, kl, T.CL_Rope, T.NA_Rope_height, r5h _ _ _ _ _, _, rfl, _, _, _, _, _, rfl, kr, T.CL_Rope, T.NA_Rope_height, r5h _ _ _ _ _, _, _, rfl, _, _, rfl, rfl, _, rfl, p, _, dx, _, rfl, upd_same, T.CL_Rope, T.NA_Rope_height, by omega, ?_⟩
      rw [upd_upd]
      have e2 : (fun i j : Int => V.int (i + j)) 1 (if (r.ht : Int) > (l.ht : Int) then (r.ht : Int) else (l.ht : Int)) = V.int ((1 + max l.ht r.ht : Nat) : Int) := congrArg V.int (by split <;> omega)
      rw [e2]
      exact q

/-! ### a new leaf, a new node -/
theorem mk_leaf {C : Addr} {H : Hp} {R : Addr → Hp → Prop} {E : XK} {z : Str} (hz : (cs z).length ≤ 4000000) (k : ∀ x H', Same H H' → H x = none → RopeAt C H' (.leaf x z) → R x H') (x dx : Addr) (nx : H x = none) (nd : H dx = none) (ne : dx ≠ x) :
    spRInit C [.ref x, .str z, .non, .non] (upd (upd H dx (.own x)) x (.ins C dx [])) (fun v H2 => v = .non ∧ R x H2) E := by
  refine ⟨x, dx, upd_same, .inl ⟨z, rfl, hz, rfl, ?_⟩⟩
  rw [upd_upd]
  exact k x _ (fun b o e => by rw [upd_ne (ne_of_none e nx), upd_ne (ne_of_none e nd)]; exact e) nx ⟨dx, upd_same⟩
theorem mk_node {C : Addr} {H : Hp} {R : Addr → Hp → Prop} {E : XK} {l r : RT} {x y : Addr} (ex : x = l.at) (ey : y = r.at) (hl : RopeAt C H l) (hr : RopeAt C H r) (k : ∀ p H', Same H H' → H p = none → RopeAt C H' (.node p l r) → R p H') (p dx : Addr) (nx : H p = none) (nd : H dx = none) (ne : dx ≠ p) :
    spRInit C [.ref p, .str "", .ref x, .ref y] (upd (upd H dx (.own p)) p (.ins C dx [])) (fun v H2 => v = .non ∧ R p H2) E := by
  subst ex
  subst ey
  have s0 : Same H (upd (upd H dx (.own p)) p (.ins C dx [])) := fun b o e => by
    rw [upd_ne (ne_of_none e nx), upd_ne (ne_of_none e nd)]
    exact e
  refine ⟨p, dx, upd_same, .inr ⟨l, r, rfl, hl.same s0, hr.same s0, rfl, ?_⟩⟩
  rw [upd_upd]
  have s1 : Same H (upd (upd H dx (.own p)) p (.ins C dx (RT.node p l r).fs)) := fun b o e => by
    rw [upd_ne (ne_of_none e nx), upd_ne (ne_of_none e nd)]
    exact e
  exact k p _ s1 nx ⟨⟨dx, upd_same⟩, hl.same s1, hr.same s1⟩
/-! ### _tree -/
theorem free_of {H H' : Hp} (s : Same H H') {p : Addr} (h : H' p = none) : H p = none := by
  cases e : H p with
  | none => rfl
  | some o =>
    rw [s _ _ e] at h
    cases h
/-- the height of a tree of n pieces -/
def HtOf (n h : Nat) : Prop := 1 ≤ h ∧ n ≤ 2 ^ (h - 1) ∧ 2 ^ (h - 1) < 2 * n
theorem ht_both {m k a b : Nat} (hk : k = m ∨ k = m + 1) (hm : 1 ≤ m) (ha : HtOf m a) (hb : HtOf k b) : a ≤ b + 1 ∧ b ≤ a + 1 ∧ HtOf (m + k) (1 + max a b) := by
  obtain ⟨a1, a2, a3⟩ := ha
  obtain ⟨b1, b2, b3⟩ := hb
  have mono : ∀ {x y : Nat}, x ≤ y → 2 ^ x ≤ 2 ^ y := fun h => Nat.pow_le_pow_right (by decide) h
  have h1 : a ≤ b := by
    by_cases c : a ≤ b
    · exact c
    · have h2 : 2 ^ (b - 1 + 1) ≤ 2 ^ (a - 1) := mono (by omega)
      rw [Nat.pow_succ] at h2
      omega
  have h2 : b ≤ a + 1 := by
    by_cases c : b ≤ a + 1
    · exact c
    · have h2 : 2 ^ (a - 1 + 2) ≤ 2 ^ (b - 1) := mono (by omega)
      have h3 : 2 ^ (a - 1 + 2) = 4 * 2 ^ (a - 1) := by rw [Nat.pow_succ, Nat.pow_succ]; omega
      omega
  refine ⟨by omega, h2, by omega, ?_, ?_⟩
  · have e : 1 + max a b - 1 = b - 1 + 1 := by omega
    rw [e, Nat.pow_succ]
    omega
  · have e : 1 + max a b - 1 = b - 1 + 1 := by omega
    rw [e, Nat.pow_succ]
    by_cases c : b = 1
    · subst c
      show 2 ^ 0 * 2 < _
      omega
    · have e2 : b - 1 = b - 2 + 1 := by omega
      rw [e2, Nat.pow_succ] at b3 ⊢
      omega
structure IsTree (C : Addr) (H H' : Hp) (zs : List Str) (t : RT) : Prop where
  same : Same H H'
  here : RopeAt C H' t
  sol : t.Sol
  lv : t.lvs.map Prod.snd = zs
  new : ∀ x ∈ t.lvs, H x.1 = none
  ht : HtOf zs.length t.ht
def spTree (C : Addr) (d : Nat) : Sp := fun vs H Q _ => ∃ (a : Addr) (zs : List Str), vs = [.ref a] ∧ H a = some (.lst (zs.map V.str)) ∧ 1 ≤ zs.length ∧ zs.length ≤ 2 ^ d ∧ d ≤ 20 ∧ (∀ z ∈ zs, 1 ≤ (cs z).length ∧ (cs z).length ≤ 16) ∧
  ∀ t H', IsTree C H H' zs t → Q (.ref t.at) H'
theorem tree_step (T : Txt K mg) (d : Nat) (G_tree : FnOk P w K mg base CX0 (d + 2) T.a_tree T.fd_tree ["pieces"] (fun vs H Q E => 1 ≤ d ∧ spTree T.C_Rope (d - 1) vs H Q E)) :
    FnOk P w K mg base CX0 (d + 3) T.a_tree T.fd_tree ["pieces"] (spTree T.C_Rope d) := by
  have G_Rope_init : FnOk P w K mg base CX0 1 T.a_Rope_init T.fd_Rope_init ["self", "piece", "left", "right"] (spRInit T.C_Rope) := ok_Rope_init T
  refine T.F_tree.ok sc_tree (fun vs H Q E h => ?_) (fun cdv A outer s H vs Q E hr h => ?_)
  · obtain ⟨a, zs, rfl, _⟩ := h
    rfl
  · obtain ⟨a, zs, rfl, ha, h1, hd, hdd, hz, q⟩ := h
    have hr_tree : Room (d + 2) _ := hr
    have hr_Rope_init : Room 2 _ := hr.mono (by omega)
    refine ⟨_, (pss_cons (ps_if (pt_cmpR op_eq (pe_callB call_len_seq (by rfl) T.m_len PySem.boot_len (pa_cons (pv 0) pa_nil)) pe_int (nomark _)) (pss_one (ps_ret (pe_make T.MK_Rope G_Rope_init hr_Rope_init (by rfl) T.G_Rope T.b_Rope_init .nil pass0 (pa_cons (pe_ix ix_list (pv 0) pe_int (fun _ _ => rfl)) (pa_cons pe_non (pa_cons pe_non pa_nil)))))) pss_nil)
      (pss_cons (ps_set (i := 1) sc_tree.nd rfl (.inl rfl) (pe_op op_fdiv (pe_callB call_len_seq (by rfl) T.m_len PySem.boot_len (pa_cons (pv 0) pa_nil)) pe_int))
      (pss_one (ps_ret (pe_make T.MK_Rope G_Rope_init hr_Rope_init (by rfl) T.G_Rope T.b_Rope_init .nil pass0 (pa_cons pe_str (pa_cons (pe_call G_tree hr_tree (by rfl) T.g_tree T.F_tree.kp T.b_tree .nil pass0 (pa_cons (pe_slice sl_list (pv 0) po_none (po_some (pv 1))) pa_nil)) (pa_cons (pe_call G_tree hr_tree (by rfl) T.g_tree T.F_tree.kp T.b_tree .nil pass0 (pa_cons (pe_slice sl_list (pv 0) (po_some (pv 1)) po_none) pa_nil)) pa_nil)))))))), ?_⟩
    have hlen : (zs.map V.str).length = zs.length := List.length_map _
    refine ⟨_, rfl, a, _, rfl, .inl (SqL.of ha), rfl, _, rfl, ite2 (fun c => ?_) (fun c => ?_)⟩
    · have c1 : zs.length = 1 := by
        have : V.int ((zs.map V.str).length : Int) = V.int 1 := of_decide_eq_true c
        have := V.int.inj this
        omega
      obtain ⟨z, rfl⟩ := List.length_eq_one_iff.mp c1
      have hz1 := hz z List.mem_cons_self
      refine ⟨_, rfl, a, _, 0, .str z, rfl, rfl, SqL.of ha, atI_nat (j := 0) rfl, mk_leaf (by omega) fun x H' s1 nx hx => ?_⟩
      refine q (.leaf x z) H' ⟨s1, hx, hz1, ?_, ?_, ⟨?_, ?_, ?_⟩⟩
      · show (if (cs z).length = 0 then [] else [(x, z)] : List (Addr × Str)).map Prod.snd = [z]
        rw [if_neg (by omega)]
        rfl
      · intro y hy
        have hy : y ∈ (if (cs z).length = 0 then [] else [(x, z)] : List (Addr × Str)) := hy
        rw [if_neg (by omega)] at hy
        rw [List.mem_singleton.mp hy]
        exact nx
      · show 1 ≤ min (cs z).length 1
        omega
      · show 1 ≤ 2 ^ (min (cs z).length 1 - 1)
        rw [show min (cs z).length 1 - 1 = 0 by omega]
        decide
      · show 2 ^ (min (cs z).length 1 - 1) < 2 * 1
        rw [show min (cs z).length 1 - 1 = 0 by omega]
        decide
    · have c1 : zs.length ≠ 1 := fun e => c (decide_eq_true (show V.int ((zs.map V.str).length : Int) = V.int 1 by rw [hlen, e]; rfl))
      have d1 : 1 ≤ d := by
        rcases Nat.eq_zero_or_pos d with e | e
        · subst e
          have : zs.length ≤ 2 ^ 0 := hd
          omega
        · exact e
      have e2 : 2 ^ d = 2 * 2 ^ (d - 1) := by
        rw [← Nat.pow_succ']
        congr 1
        omega
      obtain ⟨m, hm⟩ : ∃ m : Nat, m = zs.length / 2 := ⟨_, rfl⟩
      refine ⟨_, rfl, a, _, rfl, .inl (SqL.of ha), _, 2, rfl, rfl, ⟨by decide, by decide⟩, ?_⟩
      rw [show (fun i j : Int => V.int (i / j)) ((zs.map V.str).length : Int) 2 = V.int (m : Int) from congrArg V.int (by omega)]
      refine ⟨_, rfl, _, rfl, _, rfl, a, _, rfl, SqL.of ha, fun x nx => ?_⟩
      refine ⟨d1, x, zs.take m, rfl, ?_, ?_, ?_, by omega, fun z h => hz z (List.mem_of_mem_take h), fun l H1 tl => ?_⟩
      · rw [upd_same, cutV_pre, List.map_take]
      · rw [List.length_take]
        omega
      · rw [List.length_take]
        omega
      have s1 := (same_upd nx).trans tl.same
      refine ⟨_, rfl, _, rfl, _, rfl, a, _, rfl, SqL.of (s1 _ _ ha), fun y ny => ?_⟩
      refine ⟨d1, y, zs.drop m, rfl, ?_, ?_, ?_, by omega, fun z h => hz z (List.mem_of_mem_drop h), fun r H2 tr => ?_⟩
      · rw [upd_same, cutV_suf, List.map_drop]
      · rw [List.length_drop]
        omega
      · rw [List.length_drop]
        omega
      have s2 : Same H1 H2 := (same_upd ny).trans tr.same
      refine mk_node rfl rfl (tl.here.same s2) tr.here fun p H' s3 np hp => ?_
      have s4 : Same H H' := (s1.trans s2).trans s3
      have lm : (zs.take m).length = m := by
        rw [List.length_take]
        omega
      have lk : (zs.drop m).length = m ∨ (zs.drop m).length = m + 1 := by
        rw [List.length_drop]
        omega
      have hh := ht_both lk (by omega) (by have := tl.ht; rwa [lm] at this) tr.ht
      refine q (.node p l r) H' ⟨s4, hp, ⟨tl.sol, tr.sol, hh.1, hh.2.1⟩, ?_, ?_, ?_⟩
      · show (l.lvs ++ r.lvs).map Prod.snd = zs
        rw [List.map_append, tl.lv, tr.lv, List.take_append_drop]
      · intro b hb
        rcases List.mem_append.mp hb with h | h
        · exact free_of (same_upd nx) (tl.new b h)
        · exact free_of (s1.trans (same_upd ny)) (tr.new b h)
      · have e3 : m + (zs.drop m).length = zs.length := by
          rw [List.length_drop]
          omega
        rw [← e3]
        exact hh.2.2
theorem ok_tree (T : Txt K mg) : ∀ d : Nat, FnOk P w K mg base CX0 (d + 3) T.a_tree T.fd_tree ["pieces"] (spTree T.C_Rope d)
  | 0 => tree_step T 0 ⟨fun _ _ _ _ h => absurd h.1 (by decide), fun _ _ _ _ _ _ _ _ _ _ _ _ _ h => absurd h.1 (by decide)⟩
  | d + 1 => tree_step T (d + 1) ((ok_tree T d).imp fun _ _ _ _ h => h.2)

/-! ### Rope.of -/
def spOf (C : Addr) : Sp := fun vs H Q _ => ∃ (z : Str), vs = [.str z] ∧ (cs z).length ≤ 2000 ∧ ∀ t H', Same H H' → RopeAt C H' t → t.Ok → t.txt = cs z → (∀ x ∈ t.lvs, H x.1 = none) → 16 * t.lvs.length < (cs z).length + 16 → Q (.ref t.at) H'
theorem rg16 {n : Nat} (h : n ≤ 4000000) : RgC 0 (n : Int) 16 ((n + 15) / 16) := by
  have e : Builtin.Range.rangeSize 0 (n : Int) 16 = (((n + 15) / 16 : Nat) : Int) := by
    unfold Builtin.Range.rangeSize
    simp only [show (16 : Int) > 0 by decide, if_true]
    split <;> omega
  refine ⟨by decide, by decide, ?_, e⟩
  unfold Builtin.Range.small
  rw [e]
  have hk : (n + 15) / 16 ≤ n + 15 := Nat.div_le_self _ _
  generalize (n + 15) / 16 = k at hk
  have c16 : (16 : Int) ≤ 1000 := by decide
  have c17 : (0 : Int) ≤ 16 := by decide
  generalize (16 : Int) = c at c16 c17
  simp only [Builtin.Range.rangeFitsLong, Bool.and_eq_true, Bool.or_eq_true, decide_eq_true_eq, beq_iff_eq]
  clear e
  split
  · simp only [Bool.and_eq_true, decide_eq_true_eq]
    omega
  · simp only [Bool.and_eq_true, decide_eq_true_eq]
    omega
theorem cs_nil {z : Str} (h : (cs z).length = 0) : z = "" := cs_inj (by rw [List.eq_nil_of_length_eq_zero h]; rfl)
theorem ok_Rope_of (T : Txt K mg) : FnOk P w K mg base CX0 11 T.a_Rope_of T.fd_Rope_of ["text"] (spOf T.C_Rope) := by
  have G_tree : FnOk P w K mg base CX0 10 T.a_tree T.fd_tree ["pieces"] (spTree T.C_Rope 7) := ok_tree T 7
  have G_Rope_init : FnOk P w K mg base CX0 1 T.a_Rope_init T.fd_Rope_init ["self", "piece", "left", "right"] (spRInit T.C_Rope) := ok_Rope_init T
  refine T.F_Rope_of.ok sc_Rope_of (fun vs H Q E h => ?_) (fun cdv A outer s H vs Q E hr h => ?_)
  · obtain ⟨z, rfl, _⟩ := h
    rfl
  · obtain ⟨z, rfl, hz, q⟩ := h
    have hr_tree : Room 10 _ := hr
    have hr_Rope_init : Room 2 _ := hr.mono (by decide)
    refine ⟨_, (pss_cons (ps_if (pt_cmpR op_eq (pv 0) pe_str (nomark _)) (pss_one (ps_ret (pe_make T.MK_Rope G_Rope_init hr_Rope_init (by rfl) T.G_Rope T.b_Rope_init .nil pass0 (pa_cons pe_str (pa_cons pe_non (pa_cons pe_non pa_nil)))))) pss_nil)
      (pss_one (ps_ret (pe_call G_tree hr_tree (by rfl) T.g_tree T.F_tree.kp T.b_tree .nil pass0 (pa_cons (pe_lc (own := [("at", 1)]) (g := gName 1) (by rfl) sc_Rope_of.nd (pi_range3 (by rfl) T.m_range (pa_cons pe_int (pa_cons (pe_callB call_len_str (by rfl) T.m_len PySem.boot_len (pa_cons (pv 0) pa_nil)) (pa_cons (pe_glob (v := .int 16) (by rfl) T.c_LONGEST.choose_spec ⟨_, rfl⟩) pa_nil)))) (blkOk_by (own := [("at", 1)]) (N := ["text", "at"]) (sc := defScope s_Rope_of) (by decide +kernel)) (fun _ _ _ _ _ => pg_name (i := 1) sc_Rope_of.nd rfl (Or.inl rfl)) (fun _ _ _ _ _ => pts_nil) (fun _ _ _ _ _ => (pe_slice sl_str (pv 0) (po_some (pv 1)) (po_some (pe_op op_add (pv 1) (pe_glob (v := .int 16) (by rfl) T.c_LONGEST.choose_spec ⟨_, rfl⟩)))))) pa_nil))))), ?_⟩
    refine ⟨_, rfl, rfl, _, rfl, ite2 (fun c => ?_) (fun c => ?_)⟩
    · have c1 : z = "" := V.str.inj (of_decide_eq_true c)
      subst c1
      refine mk_leaf (by decide +kernel) fun x H' s1 nx hx => ?_
      refine q (.leaf x "") H' s1 hx (.inl ⟨x, "", rfl, rfl⟩) rfl (fun y hy => ?_) (by show 16 * ([] : List (Addr × Str)).length < 0 + 16; decide)
      have hy : y ∈ ([] : List (Addr × Str)) := hy
      cases hy
    · have c1 : (cs z).length ≠ 0 := fun e => c (decide_eq_true (by rw [cs_nil e]))
      have lz := len_cs z
      refine ⟨_, rfl, z, rfl, szM (by omega), 0, _, 16, (z.length + 15) / 16, rfl, rg16 (by omega), fun D nD => ?_⟩
      refine lc_it (walk_rangeC (lo := 0) (c := 16) (n := (z.length + 15) / 16)) (fun i H' => ∃ zs : List Str, H' D = some (.lst (zs.map V.str)) ∧ zs.length = i ∧ (zs.map cs).flatten = (cs z).take (16 * i) ∧ (∀ y ∈ zs, 1 ≤ (cs y).length ∧ (cs y).length ≤ 16) ∧ Same H H')
        ⟨[], upd_same, rfl, rfl, (fun y hy => absurd hy List.not_mem_nil), same_upd nD⟩ (fun _ _ _ _ => trivial) ?_ ?_
      · rintro i x H1 H2 hi ⟨zs, hD, hl, ht, ho, s1⟩ ⟨rfl, rfl⟩
        refine ⟨rfl, _, rfl, _, rfl, _, rfl, _, rfl, _, _, rfl, rfl, _, rfl, z, rfl, szM (by omega), ?_⟩
        have e1 : (0 + (i : Int) * 16) = ((16 * i : Nat) : Int) := by omega
        have e2 : (0 + (i : Int) * 16 + 16) = ((16 * i + 16 : Nat) : Int) := by omega
        have ec : cs (cutS z (some (0 + (i : Int) * 16)) (some (0 + (i : Int) * 16 + 16))) = ((cs z).take (16 * i + 16)).drop (16 * i) := by rw [e2, e1, cut_mid]
        have el : (((cs z).take (16 * i + 16)).drop (16 * i)).length = min (16 * i + 16) (cs z).length - 16 * i := by rw [List.length_drop, List.length_take]
        refine ⟨_, hD, sz2 (by rw [List.length_map]; omega), zs ++ [cutS z (some (0 + (i : Int) * 16)) (some (0 + (i : Int) * 16 + 16))], ?_, ?_, ?_, ?_, same_mut s1 nD⟩
        · exact upd_same.trans (by rw [List.map_append]; rfl)
        · rw [List.length_append, hl]
          rfl
        · rw [List.map_append, List.flatten_append, ht]
          show (cs z).take (16 * i) ++ (cs (cutS z (some (0 + (i : Int) * 16)) (some (0 + (i : Int) * 16 + 16))) ++ []) = _
          rw [ec, List.append_nil, List.drop_take, ← List.take_add]
          congr 1
          omega
        · intro y hy
          rcases List.mem_append.mp hy with h | h
          · exact ho y h
          · rw [List.mem_singleton.mp h]
            show 1 ≤ (cs (cutS z (some (0 + (i : Int) * 16)) (some (0 + (i : Int) * 16 + 16)))).length ∧ (cs (cutS z (some (0 + (i : Int) * 16)) (some (0 + (i : Int) * 16 + 16)))).length ≤ 16
            rw [ec, el]
            omega
      · rintro H1 ⟨zs, hD, hl, ht, ho, s1⟩
        refine ⟨D, zs, rfl, hD, by omega, by rw [hl]; show _ ≤ 128; omega, by decide, ho, fun t H2 it => ?_⟩
        have hc : (cs z).take (16 * ((z.length + 15) / 16)) = cs z := List.take_of_length_le (by omega)
        rw [hc] at ht
        refine q t H2 (s1.trans it.same) it.here (.inr it.sol) ?_ (fun x hx => free_of s1 (it.new x hx)) ?_
        · rw [RT.txt_lvs, ← ht, ← it.lv, List.map_map]
          rfl
        · have e : t.lvs.length = zs.length := by rw [← it.lv, List.length_map]
          omega

/-! ### _balanced -/
theorem RT.node_of {t : RT} (h : 2 ≤ t.ht) : ∃ p l r, t = .node p l r := by
  cases t with
  | leaf p z =>
    have h : 2 ≤ min (cs z).length 1 := h
    omega
  | node p l r => exact ⟨p, l, r, rfl⟩
structure IsCat (C : Addr) (H H' : Hp) (l r t : RT) : Prop where
  same : Same H H'
  here : RopeAt C H' t
  sol : t.Sol
  lv : t.lvs = l.lvs ++ r.lvs
  lo : max l.ht r.ht ≤ t.ht
  hi : t.ht ≤ max l.ht r.ht + 1
  one : l.ht ≤ r.ht + 1 → r.ht ≤ l.ht + 1 → t.ht = 1 + max l.ht r.ht
def spBal (C : Addr) : Sp := fun vs H Q _ => ∃ (l r : RT), vs = [.ref l.at, .ref r.at] ∧ RopeAt C H l ∧ RopeAt C H r ∧ l.Sol ∧ r.Sol ∧ l.ht ≤ r.ht + 2 ∧ r.ht ≤ l.ht + 2 ∧ ∀ t H', IsCat C H H' l r t → Q (.ref t.at) H'
theorem ok_balanced (T : Txt K mg) : FnOk P w K mg base CX0 3 T.a_balanced T.fd_balanced ["left", "right"] (spBal T.C_Rope) := by
  have G_Rope_init : FnOk P w K mg base CX0 1 T.a_Rope_init T.fd_Rope_init ["self", "piece", "left", "right"] (spRInit T.C_Rope) := ok_Rope_init T
  refine T.F_balanced.ok sc_balanced (fun vs H Q E h => ?_) (fun cdv A outer s H vs Q E hr h => ?_)
  · obtain ⟨l, r, rfl, _⟩ := h
    rfl
  · obtain ⟨l, r, rfl, hl, hr', sl, sr, b1, b2, q⟩ := h
    have hr_Rope_init : Room 2 _ := hr
    refine ⟨_, (pss_cons (ps_if (pt_cmpR op_gt (pe_fld (pv 0) rfl) (pe_op op_add (pe_fld (pv 1) rfl) pe_int) (nomark _)) (pss_cons (ps_if (pt_cmpR op_ge (pe_fld (pe_fld (pv 0) rfl) rfl) (pe_fld (pe_fld (pv 0) rfl) rfl) (nomark _)) (pss_one (ps_ret (pe_make T.MK_Rope G_Rope_init hr_Rope_init (by rfl) T.G_Rope T.b_Rope_init .nil pass0 (pa_cons pe_str (pa_cons (pe_fld (pv 0) rfl) (pa_cons (pe_make T.MK_Rope G_Rope_init hr_Rope_init (by rfl) T.G_Rope T.b_Rope_init .nil pass0 (pa_cons pe_str (pa_cons (pe_fld (pv 0) rfl) (pa_cons (pv 1) pa_nil)))) pa_nil)))))) pss_nil)
      (pss_cons (ps_set (i := 2) sc_balanced.nd rfl (.inl rfl) (pe_fld (pv 0) rfl))
      (pss_one (ps_ret (pe_make T.MK_Rope G_Rope_init hr_Rope_init (by rfl) T.G_Rope T.b_Rope_init .nil pass0 (pa_cons pe_str (pa_cons (pe_make T.MK_Rope G_Rope_init hr_Rope_init (by rfl) T.G_Rope T.b_Rope_init .nil pass0 (pa_cons pe_str (pa_cons (pe_fld (pv 0) rfl) (pa_cons (pe_fld (pv 2) rfl) pa_nil)))) (pa_cons (pe_make T.MK_Rope G_Rope_init hr_Rope_init (by rfl) T.G_Rope T.b_Rope_init .nil pass0 (pa_cons pe_str (pa_cons (pe_fld (pv 2) rfl) (pa_cons (pv 1) pa_nil)))) pa_nil)))))))) pss_nil)
      (pss_cons (ps_if (pt_cmpR op_gt (pe_fld (pv 1) rfl) (pe_op op_add (pe_fld (pv 0) rfl) pe_int) (nomark _)) (pss_cons (ps_if (pt_cmpR op_ge (pe_fld (pe_fld (pv 1) rfl) rfl) (pe_fld (pe_fld (pv 1) rfl) rfl) (nomark _)) (pss_one (ps_ret (pe_make T.MK_Rope G_Rope_init hr_Rope_init (by rfl) T.G_Rope T.b_Rope_init .nil pass0 (pa_cons pe_str (pa_cons (pe_make T.MK_Rope G_Rope_init hr_Rope_init (by rfl) T.G_Rope T.b_Rope_init .nil pass0 (pa_cons pe_str (pa_cons (pv 0) (pa_cons (pe_fld (pv 1) rfl) pa_nil)))) (pa_cons (pe_fld (pv 1) rfl) pa_nil)))))) pss_nil)
      (pss_cons (ps_set (i := 2) sc_balanced.nd rfl (.inl rfl) (pe_fld (pv 1) rfl))
      (pss_one (ps_ret (pe_make T.MK_Rope G_Rope_init hr_Rope_init (by rfl) T.G_Rope T.b_Rope_init .nil pass0 (pa_cons pe_str (pa_cons (pe_make T.MK_Rope G_Rope_init hr_Rope_init (by rfl) T.G_Rope T.b_Rope_init .nil pass0 (pa_cons pe_str (pa_cons (pv 0) (pa_cons (pe_fld (pv 2) rfl) pa_nil)))) (pa_cons (pe_make T.MK_Rope G_Rope_init hr_Rope_init (by rfl) T.G_Rope T.b_Rope_init .nil pass0 (pa_cons pe_str (pa_cons (pe_fld (pv 2) rfl) (pa_cons (pe_fld (pv 1) rfl) pa_nil)))) pa_nil)))))))) pss_nil)
      (pss_one (ps_ret (pe_make T.MK_Rope G_Rope_init hr_Rope_init (by rfl) T.G_Rope T.b_Rope_init .nil pass0 (pa_cons pe_str (pa_cons (pv 0) (pa_cons (pv 1) pa_nil)))))))), ?_⟩
    obtain ⟨dl, kl⟩ := hl.it
    obtain ⟨dr, kr⟩ := hr'.it
    refine ⟨_, rfl, _, _, _, _, _, rfl, kl, T.CL_Rope, T.NA_Rope_height, r5h _ _ _ _ _, _, rfl, _, _, _, _, _, rfl, kr, T.CL_Rope, T.NA_Rope_height, r5h _ _ _ _ _, _, _, rfl, rfl, _, _, rfl, rfl, _, rfl, ite2 (fun c => ?_) (fun c => ?_)⟩
    · have c1 : r.ht + 1 < l.ht := by
        have := of_decide_eq_true c
        omega
      have p1 := sr.pos
      obtain ⟨p, a, b, rfl⟩ := RT.node_of (t := l) (by omega)
      have ha := hl.l
      have hb := hl.r
      obtain ⟨da, ka⟩ := ha.it
      obtain ⟨db, kb⟩ := hb.it
      have eh : (RT.node p a b).ht = 1 + max a.ht b.ht := rfl
      have sb := sl.2.1
      have sa := sl.1
      have s1 := sl.2.2
      refine ⟨_, rfl, _, _, _, _, _, rfl, kl, T.CL_Rope, T.NA_Rope_left, r5a _ _ _ _ _, _, _, _, _, _, rfl, ka, T.CL_Rope, T.NA_Rope_height, r5h _ _ _ _ _, _, rfl, _, _, _, _, _, rfl, kl, T.CL_Rope, T.NA_Rope_right, r5b _ _ _ _ _, _, _, _, _, _, rfl, kb, T.CL_Rope, T.NA_Rope_height, r5h _ _ _ _ _, _, _, rfl, rfl, _, rfl, ite2 (fun c2 => ?_) (fun c2 => ?_)⟩
      · have c3 : b.ht ≤ a.ht := by
          have := of_decide_eq_true c2
          omega
        refine ⟨_, rfl, _, _, _, _, _, rfl, kl, T.CL_Rope, T.NA_Rope_left, r5a _ _ _ _ _, _, rfl, _, _, _, _, _, rfl, kl, T.CL_Rope, T.NA_Rope_right, r5b _ _ _ _ _, _, rfl, mk_node rfl rfl hb hr' fun x H1 t1 nx hx => ?_⟩
        refine mk_node rfl rfl (ha.same t1) hx fun y H2 t2 ny hy => ?_
        have e1 : (RT.node x b r).ht = 1 + max b.ht r.ht := rfl
        have e2 : (RT.node y a (.node x b r)).ht = 1 + max a.ht (RT.node x b r).ht := rfl
        refine q (.node y a (.node x b r)) H2 ⟨t1.trans t2, hy, ⟨sa, ⟨sb, sr, by omega, by omega⟩, by omega, by omega⟩, ?_, by omega, by omega, by omega⟩
        show a.lvs ++ (b.lvs ++ r.lvs) = (a.lvs ++ b.lvs) ++ r.lvs
        rw [List.append_assoc]
      · have c3 : a.ht < b.ht := by
          have : ¬ ((b.ht : Int) ≤ (a.ht : Int)) := fun z => c2 (decide_eq_true z)
          omega
        have p2 := sa.pos
        obtain ⟨m, u, v, rfl⟩ := RT.node_of (t := b) (by omega)
        have hu := hb.l
        have hv := hb.r
        have su := sb.1
        have sv := sb.2.1
        have s2 := sb.2.2
        have eb : (RT.node m u v).ht = 1 + max u.ht v.ht := rfl
        refine ⟨_, rfl, _, _, _, _, _, rfl, kl, T.CL_Rope, T.NA_Rope_right, r5b _ _ _ _ _, _, rfl, _, _, _, _, _, rfl, kl, T.CL_Rope, T.NA_Rope_left, r5a _ _ _ _ _, _, rfl, _, _, _, _, _, rfl, kb, T.CL_Rope, T.NA_Rope_left, r5a _ _ _ _ _, mk_node rfl rfl ha hu fun x H1 t1 nx hx => ?_⟩
        have kb1 := t1 _ _ kb
        refine ⟨_, rfl, _, _, _, _, _, rfl, kb1, T.CL_Rope, T.NA_Rope_right, r5b _ _ _ _ _, _, rfl, mk_node rfl rfl (hv.same t1) (hr'.same t1) fun y H2 t2 ny hy => ?_⟩
        refine mk_node rfl rfl (hx.same t2) hy fun o H3 t3 no ho => ?_
        have e1 : (RT.node x a u).ht = 1 + max a.ht u.ht := rfl
        have e2 : (RT.node y v r).ht = 1 + max v.ht r.ht := rfl
        have e3 : (RT.node o (.node x a u) (.node y v r)).ht = 1 + max (RT.node x a u).ht (RT.node y v r).ht := rfl
        refine q (.node o (.node x a u) (.node y v r)) H3 ⟨(t1.trans t2).trans t3, ho, ⟨⟨sa, su, by omega, by omega⟩, ⟨sv, sr, by omega, by omega⟩, by omega, by omega⟩, ?_, by omega, by omega, by omega⟩
        show (a.lvs ++ u.lvs) ++ (v.lvs ++ r.lvs) = (a.lvs ++ (u.lvs ++ v.lvs)) ++ r.lvs
        simp only [List.append_assoc]
    · have c0 : ¬ r.ht + 1 < l.ht := fun z => c (decide_eq_true (by omega))
      refine ⟨_, rfl, _, _, _, _, _, rfl, kr, T.CL_Rope, T.NA_Rope_height, r5h _ _ _ _ _, _, rfl, _, _, _, _, _, rfl, kl, T.CL_Rope, T.NA_Rope_height, r5h _ _ _ _ _, _, _, rfl, rfl, _, _, rfl, rfl, _, rfl, ite2 (fun c => ?_) (fun c => ?_)⟩
      · have c1 : l.ht + 1 < r.ht := by
          have := of_decide_eq_true c
          omega
        have p1 := sl.pos
        obtain ⟨p, a, b, rfl⟩ := RT.node_of (t := r) (by omega)
        have ha := hr'.l
        have hb := hr'.r
        obtain ⟨da, ka⟩ := ha.it
        obtain ⟨db, kb⟩ := hb.it
        have eh : (RT.node p a b).ht = 1 + max a.ht b.ht := rfl
        have sb := sr.2.1
        have sa := sr.1
        have s1 := sr.2.2
        refine ⟨_, rfl, _, _, _, _, _, rfl, kr, T.CL_Rope, T.NA_Rope_right, r5b _ _ _ _ _, _, _, _, _, _, rfl, kb, T.CL_Rope, T.NA_Rope_height, r5h _ _ _ _ _, _, rfl, _, _, _, _, _, rfl, kr, T.CL_Rope, T.NA_Rope_left, r5a _ _ _ _ _, _, _, _, _, _, rfl, ka, T.CL_Rope, T.NA_Rope_height, r5h _ _ _ _ _, _, _, rfl, rfl, _, rfl, ite2 (fun c2 => ?_) (fun c2 => ?_)⟩
        · have c3 : a.ht ≤ b.ht := by
            have := of_decide_eq_true c2
            omega
          refine ⟨_, rfl, _, rfl, _, _, _, _, _, rfl, kr, T.CL_Rope, T.NA_Rope_left, r5a _ _ _ _ _, mk_node rfl rfl hl ha fun x H1 t1 nx hx => ?_⟩
          have kr1 := t1 _ _ kr
          refine ⟨_, rfl, _, _, _, _, _, rfl, kr1, T.CL_Rope, T.NA_Rope_right, r5b _ _ _ _ _, mk_node rfl rfl hx (hb.same t1) fun y H2 t2 ny hy => ?_⟩
          have e1 : (RT.node x l a).ht = 1 + max l.ht a.ht := rfl
          have e2 : (RT.node y (.node x l a) b).ht = 1 + max (RT.node x l a).ht b.ht := rfl
          refine q (.node y (.node x l a) b) H2 ⟨t1.trans t2, hy, ⟨⟨sl, sa, by omega, by omega⟩, sb, by omega, by omega⟩, ?_, by omega, by omega, by omega⟩
          show (l.lvs ++ a.lvs) ++ b.lvs = l.lvs ++ (a.lvs ++ b.lvs)
          rw [List.append_assoc]
        · have c3 : b.ht < a.ht := by
            have : ¬ ((a.ht : Int) ≤ (b.ht : Int)) := fun z => c2 (decide_eq_true z)
            omega
          have p2 := sb.pos
          obtain ⟨m, u, v, rfl⟩ := RT.node_of (t := a) (by omega)
          have hu := ha.l
          have hv := ha.r
          have su := sa.1
          have sv := sa.2.1
          have s2 := sa.2.2
          have eb : (RT.node m u v).ht = 1 + max u.ht v.ht := rfl
          refine ⟨_, rfl, _, _, _, _, _, rfl, kr, T.CL_Rope, T.NA_Rope_left, r5a _ _ _ _ _, _, rfl, _, rfl, _, _, _, _, _, rfl, ka, T.CL_Rope, T.NA_Rope_left, r5a _ _ _ _ _, mk_node rfl rfl hl hu fun x H1 t1 nx hx => ?_⟩
          have ka1 := t1 _ _ ka
          have kr1 := t1 _ _ kr
          refine ⟨_, rfl, _, _, _, _, _, rfl, ka1, T.CL_Rope, T.NA_Rope_right, r5b _ _ _ _ _, _, rfl, _, _, _, _, _, rfl, kr1, T.CL_Rope, T.NA_Rope_right, r5b _ _ _ _ _, mk_node rfl rfl (hv.same t1) (hb.same t1) fun y H2 t2 ny hy => ?_⟩
          refine mk_node rfl rfl (hx.same t2) hy fun o H3 t3 no ho => ?_
          have e1 : (RT.node x l u).ht = 1 + max l.ht u.ht := rfl
          have e2 : (RT.node y v b).ht = 1 + max v.ht b.ht := rfl
          have e3 : (RT.node o (.node x l u) (.node y v b)).ht = 1 + max (RT.node x l u).ht (RT.node y v b).ht := rfl
          refine q (.node o (.node x l u) (.node y v b)) H3 ⟨(t1.trans t2).trans t3, ho, ⟨⟨sl, su, by omega, by omega⟩, ⟨sv, sb, by omega, by omega⟩, by omega, by omega⟩, ?_, by omega, by omega, by omega⟩
          show (l.lvs ++ u.lvs) ++ (v.lvs ++ b.lvs) = l.lvs ++ ((u.lvs ++ v.lvs) ++ b.lvs)
          simp only [List.append_assoc]
      · have c1 : ¬ l.ht + 1 < r.ht := fun z => c (decide_eq_true (by omega))
        refine ⟨_, rfl, _, rfl, mk_node rfl rfl hl hr' fun x H1 t1 nx hx => ?_⟩
        have e1 : (RT.node x l r).ht = 1 + max l.ht r.ht := rfl
        exact q (.node x l r) H1 ⟨t1, hx, ⟨sl, sr, by omega, by omega⟩, rfl, by omega, by omega, by omega⟩

/-! ### joined -/
theorem r5j (z : Str) (a b : V) (n h : Nat) : (rfl5 z a b n h).lookup ("joined" : Str) = none := r5_no _ _ _ _ _ (by decide +kernel) (by decide +kernel) (by decide +kernel) (by decide +kernel) (by decide +kernel)
theorem r5c (z : Str) (a b : V) (n h : Nat) : (rfl5 z a b n h).lookup ("cut" : Str) = none := r5_no _ _ _ _ _ (by decide +kernel) (by decide +kernel) (by decide +kernel) (by decide +kernel) (by decide +kernel)
theorem r5e (z : Str) (a b : V) (n h : Nat) : (rfl5 z a b n h).lookup ("edited" : Str) = none := r5_no _ _ _ _ _ (by decide +kernel) (by decide +kernel) (by decide +kernel) (by decide +kernel) (by decide +kernel)
structure IsJoin (C : Addr) (H H' : Hp) (l r t : RT) : Prop where
  same : Same H H'
  here : RopeAt C H' t
  ok : t.Ok
  lv : t.lvs = l.lvs ++ r.lvs
  cat : l.Sol → r.Sol → IsCat C H H' l r t
def spJoin (C : Addr) (n : Nat) : Sp := fun vs H Q _ => ∃ (l r : RT), vs = [.ref l.at, .ref r.at] ∧ RopeAt C H l ∧ RopeAt C H r ∧ l.Ok ∧ r.Ok ∧ l.ht + r.ht ≤ n ∧ ∀ t H', IsJoin C H H' l r t → Q (.ref t.at) H'
theorem IsCat.join {C : Addr} {H H' : Hp} {l r t : RT} (h : IsCat C H H' l r t) : IsJoin C H H' l r t := ⟨h.same, h.here, .inr h.sol, h.lv, fun _ _ => h⟩
theorem RT.Sol.size {t : RT} (h : t.Sol) : t.size ≠ 0 := by
  have := h.pos
  omega
theorem join_step (T : Txt K mg) (n : Nat) (G_Rope_joined : FnOk P w K mg base CX0 (n + 3) T.a_Rope_joined T.fd_Rope_joined ["self", "other"] (fun vs H Q E => 1 ≤ n ∧ spJoin T.C_Rope (n - 1) vs H Q E)) :
    FnOk P w K mg base CX0 (n + 4) T.a_Rope_joined T.fd_Rope_joined ["self", "other"] (spJoin T.C_Rope n) := by
  have G_Rope_init : FnOk P w K mg base CX0 1 T.a_Rope_init T.fd_Rope_init ["self", "piece", "left", "right"] (spRInit T.C_Rope) := ok_Rope_init T
  have G_balanced : FnOk P w K mg base CX0 3 T.a_balanced T.fd_balanced ["left", "right"] (spBal T.C_Rope) := ok_balanced T
  refine T.F_Rope_joined.ok sc_Rope_joined (fun vs H Q E h => ?_) (fun cdv A outer s H vs Q E hr h => ?_)
  · obtain ⟨l, r, rfl, _⟩ := h
    rfl
  · obtain ⟨l, r, rfl, hl, hr', ol, or, hn, q⟩ := h
    have hr_Rope_init : Room 2 _ := hr.mono (by omega)
    have hr_balanced : Room 3 _ := hr.mono (by omega)
    have hr_Rope_joined : Room (n + 3) _ := hr
    refine ⟨_, (pss_cons (ps_if (pt_cmpR op_eq (pe_fld (pv 0) rfl) pe_int (nomark _)) (pss_one (ps_ret (pv 1))) pss_nil)
      (pss_cons (ps_if (pt_cmpR op_eq (pe_fld (pv 1) rfl) pe_int (nomark _)) (pss_one (ps_ret (pv 0))) pss_nil)
      (pss_cons (ps_if (pt_cmpR op_gt (pe_fld (pv 0) rfl) (pe_op op_add (pe_fld (pv 1) rfl) pe_int) (nomark _)) (pss_one (ps_ret (pe_call G_balanced hr_balanced (by rfl) T.g_balanced T.F_balanced.kp T.b_balanced .nil pass0 (pa_cons (pe_fld (pv 0) rfl) (pa_cons (pe_meth (pe_fld (pv 0) rfl) T.CL_Rope T.ME_Ropejoined G_Rope_joined hr_Rope_joined T.b_Rope_joined .nil pass0 (pa_cons (pv 1) pa_nil)) pa_nil))))) pss_nil)
      (pss_cons (ps_if (pt_cmpR op_gt (pe_fld (pv 1) rfl) (pe_op op_add (pe_fld (pv 0) rfl) pe_int) (nomark _)) (pss_one (ps_ret (pe_call G_balanced hr_balanced (by rfl) T.g_balanced T.F_balanced.kp T.b_balanced .nil pass0 (pa_cons (pe_meth (pv 0) T.CL_Rope T.ME_Ropejoined G_Rope_joined hr_Rope_joined T.b_Rope_joined .nil pass0 (pa_cons (pe_fld (pv 1) rfl) pa_nil)) (pa_cons (pe_fld (pv 1) rfl) pa_nil))))) pss_nil)
      (pss_one (ps_ret (pe_make T.MK_Rope G_Rope_init hr_Rope_init (by rfl) T.G_Rope T.b_Rope_init .nil pass0 (pa_cons pe_str (pa_cons (pv 0) (pa_cons (pv 1) pa_nil)))))))))), ?_⟩
    obtain ⟨dl, kl⟩ := hl.it
    obtain ⟨dr, kr⟩ := hr'.it
    refine ⟨_, rfl, _, _, _, _, _, rfl, kl, T.CL_Rope, T.NA_Rope_size, r5n _ _ _ _ _, rfl, _, rfl, ite2 (fun c => ?_) (fun c => ?_)⟩
    · have c1 : l.size = 0 := by
        have := V.int.inj (of_decide_eq_true c)
        omega
      refine ⟨_, rfl, q r H ⟨Same.refl _, hr', or, by rw [ol.lvs0 c1]; rfl, fun s => absurd c1 s.size⟩⟩
    have sl : l.Sol := ol.sol fun e => c (decide_eq_true (by rw [e]; rfl))
    refine ⟨_, rfl, _, _, _, _, _, rfl, kr, T.CL_Rope, T.NA_Rope_size, r5n _ _ _ _ _, rfl, _, rfl, ite2 (fun c => ?_) (fun c => ?_)⟩
    · have c1 : r.size = 0 := by
        have := V.int.inj (of_decide_eq_true c)
        omega
      refine ⟨_, rfl, q l H ⟨Same.refl _, hl, ol, by rw [or.lvs0 c1, List.append_nil], fun _ s => absurd c1 s.size⟩⟩
    have sr : r.Sol := or.sol fun e => c (decide_eq_true (by rw [e]; rfl))
    refine ⟨_, rfl, _, _, _, _, _, rfl, kl, T.CL_Rope, T.NA_Rope_height, r5h _ _ _ _ _, _, rfl, _, _, _, _, _, rfl, kr, T.CL_Rope, T.NA_Rope_height, r5h _ _ _ _ _, _, _, rfl, rfl, _, _, rfl, rfl, _, rfl, ite2 (fun c => ?_) (fun c => ?_)⟩
    · have c1 : r.ht + 1 < l.ht := by
        have := of_decide_eq_true c
        omega
      have p1 := sr.pos
      obtain ⟨p, a, b, rfl⟩ := RT.node_of (t := l) (by omega)
      have ha := hl.l
      have hb := hl.r
      obtain ⟨db, kb⟩ := hb.it
      have eh : (RT.node p a b).ht = 1 + max a.ht b.ht := rfl
      have sb := sl.2.1
      have sa := sl.1
      have s1 := sl.2.2
      refine ⟨_, rfl, _, _, _, _, _, rfl, kl, T.CL_Rope, T.NA_Rope_left, r5a _ _ _ _ _, _, rfl, _, _, _, _, _, rfl, kl, T.CL_Rope, T.NA_Rope_right, r5b _ _ _ _ _, _, _, _, rfl, kb, r5j _ _ _ _ _, _, rfl, ⟨by omega, b, r, rfl, hb, hr', .inr sb, or, by omega, fun j H1 ij => ?_⟩⟩
      have ic := ij.cat sb sr
      have b1 := ic.lo
      have b2 := ic.hi
      refine ⟨a, j, rfl, ha.same ij.same, ij.here, sa, ic.sol, by omega, by omega, fun t H2 it => ?_⟩
      have b3 := it.lo
      have b4 := it.hi
      have b5 := it.one
      refine q t H2 (IsCat.join ⟨ij.same.trans it.same, it.here, it.sol, ?_, ?_, by omega, by omega⟩)
      · rw [it.lv, ij.lv]
        exact (List.append_assoc _ _ _).symm
      · by_cases w1 : a.ht ≤ j.ht + 1 ∧ j.ht ≤ a.ht + 1
        · have := b5 w1.1 w1.2
          omega
        · omega
    · have c0 : ¬ r.ht + 1 < l.ht := fun z => c (decide_eq_true (by omega))
      refine ⟨_, rfl, _, _, _, _, _, rfl, kr, T.CL_Rope, T.NA_Rope_height, r5h _ _ _ _ _, _, rfl, _, _, _, _, _, rfl, kl, T.CL_Rope, T.NA_Rope_height, r5h _ _ _ _ _, _, _, rfl, rfl, _, _, rfl, rfl, _, rfl, ite2 (fun c => ?_) (fun c => ?_)⟩
      · have c1 : l.ht + 1 < r.ht := by
          have := of_decide_eq_true c
          omega
        have p1 := sl.pos
        obtain ⟨p, a, b, rfl⟩ := RT.node_of (t := r) (by omega)
        have ha := hr'.l
        have hb := hr'.r
        have eh : (RT.node p a b).ht = 1 + max a.ht b.ht := rfl
        have sb := sr.2.1
        have sa := sr.1
        have s1 := sr.2.2
        refine ⟨_, rfl, _, _, _, rfl, kl, r5j _ _ _ _ _, _, rfl, _, _, _, _, _, rfl, kr, T.CL_Rope, T.NA_Rope_left, r5a _ _ _ _ _, ⟨by omega, l, a, rfl, hl, ha, ol, .inr sa, by omega, fun j H1 ij => ?_⟩⟩
        have ic := ij.cat sl sa
        have b1 := ic.lo
        have b2 := ic.hi
        have kr1 := ij.same _ _ kr
        refine ⟨_, rfl, _, _, _, _, _, rfl, kr1, T.CL_Rope, T.NA_Rope_right, r5b _ _ _ _ _, j, b, rfl, ij.here, hb.same ij.same, ic.sol, sb, by omega, by omega, fun t H2 it => ?_⟩
        have b3 := it.lo
        have b4 := it.hi
        have b5 := it.one
        refine q t H2 (IsCat.join ⟨ij.same.trans it.same, it.here, it.sol, ?_, ?_, by omega, by omega⟩)
        · rw [it.lv, ij.lv]
          exact List.append_assoc _ _ _
        · by_cases w1 : j.ht ≤ b.ht + 1 ∧ b.ht ≤ j.ht + 1
          · have := b5 w1.1 w1.2
            omega
          · omega
      · have c1 : ¬ l.ht + 1 < r.ht := fun z => c (decide_eq_true (by omega))
        refine ⟨_, rfl, _, rfl, mk_node rfl rfl hl hr' fun x H1 t1 nx hx => ?_⟩
        have e1 : (RT.node x l r).ht = 1 + max l.ht r.ht := rfl
        exact q (.node x l r) H1 (IsCat.join ⟨t1, hx, ⟨sl, sr, by omega, by omega⟩, rfl, by omega, by omega, by omega⟩)
theorem ok_Rope_joined (T : Txt K mg) : ∀ n : Nat, FnOk P w K mg base CX0 (n + 4) T.a_Rope_joined T.fd_Rope_joined ["self", "other"] (spJoin T.C_Rope n)
  | 0 => join_step T 0 ⟨fun _ _ _ _ h => absurd h.1 (by decide), fun _ _ _ _ _ _ _ _ _ _ _ _ _ h => absurd h.1 (by decide)⟩
  | n + 1 => join_step T (n + 1) ((ok_Rope_joined T n).imp fun _ _ _ _ h => h.2)

/-! ### cut -/
structure IsCut (C : Addr) (H H' : Hp) (t : RT) (s e : Nat) (u : RT) : Prop where
  same : Same H H'
  here : RopeAt C H' u
  ok : u.Ok
  txt : u.txt = (t.txt.take e).drop s
  lv : ∃ a m b, u.lvs = a ++ m ++ b ∧ (∀ x ∈ m, x ∈ t.lvs) ∧ a.length ≤ 1 ∧ b.length ≤ 1 ∧ (s = 0 → a = []) ∧ (e = t.size → b = []) ∧ (∀ x ∈ a, H x.1 = none) ∧ (∀ x ∈ b, H x.1 = none)
def spCut (C : Addr) (n : Nat) : Sp := fun vs H Q _ => ∃ (t : RT) (s e : Nat) (si ei : Int), vs = [.ref t.at, .int si, .int ei] ∧ si = (s : Int) ∧ ei = (e : Int) ∧ RopeAt C H t ∧ t.Ok ∧ s ≤ e ∧ e ≤ t.size ∧ t.size < 16384 ∧ t.ht ≤ n ∧
  ∀ u H', IsCut C H H' t s e u → Q (.ref u.at) H'
theorem RT.pc_len : ∀ t : RT, (cs t.pc).length ≤ t.size
  | .leaf _ _ => Nat.le_refl _
  | .node _ _ _ => Nat.zero_le _
theorem leaf_lvs (x : Addr) (z : Str) : (RT.leaf x z).lvs = if (cs z).length = 0 then [] else [(x, z)] := rfl
theorem cut_leaf {C : Addr} {H H' : Hp} {t : RT} {s e : Nat} {x : Addr} (ot : t.Ok) (h1 : s ≤ e) (h2 : e ≤ t.size) (hw : ¬ (s = 0 ∧ e = t.size)) (hl : s = e ∨ t.lf = .non) (sm : Same H H') (nx : H x = none) (hx : RopeAt C H' (.leaf x (cutS t.pc (some (s : Int)) (some (e : Int))))) :
    IsCut C H H' t s e (.leaf x (cutS t.pc (some (s : Int)) (some (e : Int)))) := by
  have ec : cs (cutS t.pc (some (s : Int)) (some (e : Int))) = ((cs t.pc).take e).drop s := cut_mid _ _ _
  have lc : (cs (cutS t.pc (some (s : Int)) (some (e : Int)))).length = min e (cs t.pc).length - s := by rw [ec, List.length_drop, List.length_take]
  have et : cs (cutS t.pc (some (s : Int)) (some (e : Int))) = (t.txt.take e).drop s := by
    rw [ec]
    cases t with
    | leaf p z => rfl
    | node p l r =>
      rcases hl with rfl | h
      · rw [List.drop_eq_nil_of_le (by rw [List.length_take]; omega), List.drop_eq_nil_of_le (by rw [List.length_take]; omega)]
      · cases h
  have l16 : (cs t.pc).length ≤ 16 := by
    rcases ot with ⟨p, z, hz, rfl⟩ | h
    · show (cs z).length ≤ 16
      rw [hz]
      decide
    · cases t with
      | leaf p z => exact h.2
      | node p l r => exact Nat.zero_le _
  refine ⟨sm, hx, ?_, et, ?_⟩
  · by_cases c : (cs (cutS t.pc (some (s : Int)) (some (e : Int)))).length = 0
    · exact .inl ⟨x, _, List.eq_nil_of_length_eq_zero c, rfl⟩
    · refine .inr ⟨by omega, by omega⟩
  · rw [leaf_lvs]
    by_cases c : (cs (cutS t.pc (some (s : Int)) (some (e : Int)))).length = 0
    · rw [if_pos c]
      exact ⟨[], [], [], rfl, fun _ h => absurd h List.not_mem_nil, by decide, by decide, fun _ => rfl, fun _ => rfl, fun _ h => absurd h List.not_mem_nil, fun _ h => absurd h List.not_mem_nil⟩
    · rw [if_neg c]
      have nn : ∀ y ∈ [(x, cutS t.pc (some (s : Int)) (some (e : Int)))], H y.1 = none := fun y hy => by rw [List.mem_singleton.mp hy]; exact nx
      by_cases c0 : s = 0
      · exact ⟨[], [], [_], rfl, fun _ h => absurd h List.not_mem_nil, by decide, by simp, fun _ => rfl, fun h => absurd ⟨c0, h⟩ hw, fun _ h => absurd h List.not_mem_nil, nn⟩
      · exact ⟨[_], [], [], rfl, fun _ h => absurd h List.not_mem_nil, by simp, by decide, fun h => absurd h c0, fun _ => rfl, nn, fun _ h => absurd h List.not_mem_nil⟩
theorem if_ev {tt : L2.TT} {a b : L2.TS} {D : L2.Ends} {σ : L2.St} {H : Hp} (R : Hp → Prop) (h : ∀ Qb : Bool → Hp → Prop, (∀ c H2, R H2 → Qb c H2) → tt σ H Qb) (ha : ∀ H2, R H2 → a D σ H2) (hb : ∀ H2, R H2 → b D σ H2) : tIfS tt a b D σ H := h _ (fun c H2 r => by
  cases c
  · exact iteF (hb H2 r)
  · exact iteT (ha H2 r))
theorem if_2 {tt : L2.TT} {a b : L2.TS} {D : L2.Ends} {σ : L2.St} {H : Hp} (R : Hp → Prop) (A : Prop) (h : ∀ Qb : Bool → Hp → Prop, (∀ c H2, R H2 → (c = true ↔ A) → Qb c H2) → tt σ H Qb) (ha : A → ∀ H2, R H2 → a D σ H2) (hb : ¬ A → ∀ H2, R H2 → b D σ H2) : tIfS tt a b D σ H := h _ (fun c H2 r i => by
  cases c
  · exact iteF (hb (fun z => absurd (i.mpr z) (by decide)) H2 r)
  · exact iteT (ha (i.mp rfl) H2 r))
theorem g_if {i : Nat} {x : V} {σ : L2.St} {H : Hp} {tt : L2.TT} {a b : L2.TS} {D : L2.Ends} {r : VK} {k c : L2.St → Hp → Prop} (h : tIfS tt a b D (σ.set i (some x)) H) : gName i x σ H (Ends.nx ⟨tIfS tt a b D, r, k, c⟩) := h
theorem g_seq {i : Nat} {x : V} {σ : L2.St} {H : Hp} {t u : L2.TS} {D : L2.Ends} {r : VK} {k c : L2.St → Hp → Prop} (h : tSeq t u D (σ.set i (some x)) H) : gName i x σ H (Ends.nx ⟨tSeq t u D, r, k, c⟩) := h
/-- if ..: a (and it ends here); the rest is told once -/
theorem sif {tt : L2.TT} {a c : L2.TS} {D : L2.Ends} {σ : L2.St} {H : Hp} (R : Hp → Prop) (A : Prop) (h : ∀ Qb : Bool → Hp → Prop, (∀ c H2, R H2 → (c = true ↔ A) → Qb c H2) → tt σ H Qb) (ha : A → ∀ H2, R H2 → a { D with nx := fun σ2 H2 => c D σ2 H2 } σ H2) (hb : ¬ A → ∀ H2, R H2 → c D σ H2) :
    tSeq (tIfS tt a tNext) c D σ H := if_2 (D := { D with nx := fun σ2 H2 => c D σ2 H2 }) R A h ha hb
theorem cut_step (T : Txt K mg) (n : Nat) (G_Rope_cut : FnOk P w K mg base CX0 (n + 60) T.a_Rope_cut T.fd_Rope_cut ["self", "start", "end"] (fun vs H Q E => 1 ≤ n ∧ spCut T.C_Rope (n - 1) vs H Q E)) :
    FnOk P w K mg base CX0 (n + 61) T.a_Rope_cut T.fd_Rope_cut ["self", "start", "end"] (spCut T.C_Rope n) := by
  have G_Rope_init : FnOk P w K mg base CX0 1 T.a_Rope_init T.fd_Rope_init ["self", "piece", "left", "right"] (spRInit T.C_Rope) := ok_Rope_init T
  have G_Rope_joined : FnOk P w K mg base CX0 60 T.a_Rope_joined T.fd_Rope_joined ["self", "other"] (spJoin T.C_Rope 56) := ok_Rope_joined T 56
  refine T.F_Rope_cut.ok sc_Rope_cut (fun vs H Q E h => ?_) (fun cdv A outer s H vs Q E hr h => ?_)
  · obtain ⟨t, s, e, si, ei, rfl, _⟩ := h
    rfl
  · obtain ⟨t, s, e, si, ei, rfl, es, ee, ht, ot, h1, h2, h3, h4, q⟩ := h
    subst es
    subst ee
    have hr_Rope_init : Room 2 _ := hr.mono (by omega)
    have hr_Rope_joined : Room 60 _ := hr.mono (by omega)
    have hr_Rope_cut : Room (n + 60) _ := hr
    refine ⟨_, (pss_cons (ps_if (PW.pt (pw_and (pt_cmpR op_eq (pv 1) pe_int (nomark _)) (pw_and1 (pt_cmpR op_eq (pv 2) (pe_fld (pv 0) rfl) (nomark _))))) (pss_one (ps_ret (pv 0))) pss_nil)
      (pss_cons (ps_if (PW.pt (pw_or (pt_cmpR op_eq (pv 1) (pv 2) (nomark _)) (pw_or1 (pt_cmpR op_isN (pe_fld (pv 0) rfl) pe_non (nomark _))))) (pss_one (ps_ret (pe_make T.MK_Rope G_Rope_init hr_Rope_init (by rfl) T.G_Rope T.b_Rope_init .nil pass0 (pa_cons (pe_slice sl_str (pe_fld (pv 0) rfl) (po_some (pv 1)) (po_some (pv 2))) (pa_cons pe_non (pa_cons pe_non pa_nil)))))) pss_nil)
      (pss_cons (ps_set (i := 3) sc_Rope_cut.nd rfl (.inl rfl) (pe_fld (pe_fld (pv 0) rfl) rfl))
      (pss_cons (ps_if (pt_cmpR op_le (pv 2) (pv 3) (nomark _)) (pss_one (ps_ret (pe_meth (pe_fld (pv 0) rfl) T.CL_Rope T.ME_Ropecut G_Rope_cut hr_Rope_cut T.b_Rope_cut .nil pass0 (pa_cons (pv 1) (pa_cons (pv 2) pa_nil))))) pss_nil)
      (pss_cons (ps_if (pt_cmpR op_ge (pv 1) (pv 3) (nomark _)) (pss_one (ps_ret (pe_meth (pe_fld (pv 0) rfl) T.CL_Rope T.ME_Ropecut G_Rope_cut hr_Rope_cut T.b_Rope_cut .nil pass0 (pa_cons (pe_op op_sub (pv 1) (pv 3)) (pa_cons (pe_op op_sub (pv 2) (pv 3)) pa_nil))))) pss_nil)
      (pss_one (ps_ret (pe_meth (pe_meth (pe_fld (pv 0) rfl) T.CL_Rope T.ME_Ropecut G_Rope_cut hr_Rope_cut T.b_Rope_cut .nil pass0 (pa_cons (pv 1) (pa_cons (pv 3) pa_nil))) T.CL_Rope T.ME_Ropejoined G_Rope_joined hr_Rope_joined T.b_Rope_joined .nil pass0 (pa_cons (pe_meth (pe_fld (pv 0) rfl) T.CL_Rope T.ME_Ropecut G_Rope_cut hr_Rope_cut T.b_Rope_cut .nil pass0 (pa_cons pe_int (pa_cons (pe_op op_sub (pv 2) (pv 3)) pa_nil))) pa_nil))))))))), ?_⟩
    obtain ⟨dl, kl⟩ := ht.it
    have lp := t.pc_len
    have lpc := len_cs t.pc
    have small : (cs (cutS t.pc (some (s : Int)) (some (e : Int)))).length ≤ 4000000 := Nat.le_trans (cut_len _ _ _) (by omega)
    have key : s = 0 ∧ e = t.size → IsCut T.C_Rope H H t s e t := fun ⟨c1, c2⟩ => by
      subst c1
      subst c2
      refine ⟨Same.refl _, ht, ot, ?_, [], t.lvs, [], by simp, fun _ h => h, by decide, by decide, fun _ => rfl, fun _ => rfl, fun _ h => absurd h List.not_mem_nil, fun _ h => absurd h List.not_mem_nil⟩
      rw [List.drop_zero, List.take_of_length_le (by rw [RT.txt_len]; omega)]
    refine sif (R := fun H2 => H2 = H) (A := s = 0 ∧ e = t.size) (fun Qb qb => ?_) (fun hA H2 e2 => ?_) (fun hA H2 e2 => ?_)
    · refine ⟨_, rfl, rfl, _, rfl, ite2 (fun c => ?_) (fun c => ?_)⟩
      · have c1 : s = 0 := by
          have := V.int.inj (of_decide_eq_true c)
          omega
        refine ⟨_, rfl, _, rfl, _, _, _, _, _, rfl, kl, T.CL_Rope, T.NA_Rope_size, r5n _ _ _ _ _, rfl, _, rfl, qb _ H rfl ?_⟩
        rw [decide_eq_true_eq]
        constructor
        · intro h
          have := V.int.inj h
          exact ⟨c1, by omega⟩
        · intro h
          rw [h.2]
      · exact qb _ H rfl ⟨fun h => absurd h (by decide), fun h => absurd (decide_eq_true (by rw [h.1]; rfl)) c⟩
    · cases e2
      exact ⟨_, rfl, q t _ (key hA)⟩
    · cases e2
      refine sif (R := fun H2 => H2 = H) (A := s = e ∨ t.lf = .non) (fun Qb qb => ?_) (fun hB H3 e3 => ?_) (fun hB H3 e3 => ?_)
      · refine ⟨_, rfl, _, rfl, rfl, _, rfl, ite2 (fun c => ?_) (fun c => ?_)⟩
        · refine qb _ H rfl ⟨fun _ => .inl ?_, fun _ => rfl⟩
          have := V.int.inj (of_decide_eq_true c)
          omega
        · refine ⟨_, rfl, _, _, _, _, _, rfl, kl, T.CL_Rope, T.NA_Rope_left, r5a _ _ _ _ _, rfl, _, rfl, qb _ H rfl ?_⟩
          rw [decide_eq_true_eq]
          refine ⟨fun h => .inr h, fun h => h.resolve_left fun z => c (decide_eq_true (by rw [z]))⟩
      · cases e3
        exact ⟨_, rfl, _, _, _, _, _, rfl, kl, T.CL_Rope, T.NA_Rope_piece, r5z _ _ _ _ _, _, rfl, _, rfl, _, rfl, _, rfl, _, rfl, szM (by omega), mk_leaf small fun x H' s1 nx hx => q _ _ (cut_leaf ot h1 h2 hA hB s1 nx hx)⟩
      · cases e3
        have hse : s < e := by
          have : s ≠ e := fun z => hB (.inl z)
          omega
        obtain ⟨p, a, b, rfl⟩ : ∃ p a b, t = .node p a b := by
          cases t with
          | leaf p z => exact absurd (.inr rfl) hB
          | node p a b => exact ⟨p, a, b, rfl⟩
        have st : (RT.node p a b).Sol := ot.sol (by omega)
        have sa := st.1
        have sb := st.2.1
        have pa := sa.pos
        have pb := sb.pos
        have ha := ht.l
        have hb := ht.r
        obtain ⟨da, ka⟩ := ha.it
        obtain ⟨db, kb⟩ := hb.it
        have eh : (RT.node p a b).ht = 1 + max a.ht b.ht := rfl
        have en : (RT.node p a b).size = a.size + b.size := rfl
        have et : (RT.node p a b).txt = a.txt ++ b.txt := rfl
        have ta := a.txt_len
        have tb := b.txt_len
        have inl : ∀ {x}, x ∈ a.lvs → x ∈ (RT.node p a b).lvs := fun h => List.mem_append_left _ h
        have inr : ∀ {x}, x ∈ b.lvs → x ∈ (RT.node p a b).lvs := fun h => List.mem_append_right _ h
        refine ⟨_, rfl, _, _, _, _, _, rfl, kl, T.CL_Rope, T.NA_Rope_left, r5a _ _ _ _ _, _, _, _, _, _, rfl, ka, T.CL_Rope, T.NA_Rope_size, r5n _ _ _ _ _, ?_⟩
        refine ⟨_, rfl, _, rfl, _, _, rfl, rfl, _, rfl, ite2 (fun c => ?_) (fun c => ?_)⟩
        · have c1 : e ≤ a.size := by
            have := of_decide_eq_true c
            omega
          refine ⟨_, rfl, _, _, _, _, _, rfl, kl, T.CL_Rope, T.NA_Rope_left, r5a _ _ _ _ _, _, _, _, rfl, ka, r5c _ _ _ _ _, _, rfl, _, rfl, by omega, a, s, e, _, _, rfl, rfl, rfl, ha, .inr sa, h1, c1, by omega, by omega, fun u H' iu => ?_⟩
          obtain ⟨x, m, y, e1, e2, e3, e4, e5, e6, e7, e8⟩ := iu.lv
          refine q u H' ⟨iu.same, iu.here, iu.ok, ?_, x, m, y, e1, fun z hz => inl (e2 z hz), e3, e4, e5, fun h => absurd h (by omega), e7, e8⟩
          rw [iu.txt, et, List.take_append_of_le_length (by omega)]
        · have c1 : a.size < e := by
            have : ¬ ((e : Int) ≤ (a.size : Int)) := fun z => c (decide_eq_true z)
            omega
          refine ⟨_, rfl, _, rfl, _, _, rfl, rfl, _, rfl, ite2 (fun c => ?_) (fun c => ?_)⟩
          · have c2 : a.size ≤ s := by
              have := of_decide_eq_true c
              omega
            refine ⟨_, rfl, _, _, _, _, _, rfl, kl, T.CL_Rope, T.NA_Rope_right, r5b _ _ _ _ _, _, _, _, rfl, kb, r5c _ _ _ _ _, _, rfl, _, rfl, _, _, rfl, rfl, _, rfl, _, rfl, _, _, rfl, rfl, by omega, b, s - a.size, e - a.size, _, _, rfl, by omega, by omega, hb, .inr sb, by omega, by omega, by omega, by omega, fun u H' iu => ?_⟩
            obtain ⟨x, m, y, e1, e2, e3, e4, e5, e6, e7, e8⟩ := iu.lv
            refine q u H' ⟨iu.same, iu.here, iu.ok, ?_, x, m, y, e1, fun z hz => inr (e2 z hz), e3, e4, fun h => absurd h (by omega), fun h => e6 (by omega), e7, e8⟩
            rw [iu.txt, et, List.take_append, List.take_of_length_le (l := a.txt) (by omega), List.drop_append, List.drop_eq_nil_of_le (as := a.txt) (by omega), List.nil_append, ta]
          · have c2 : s < a.size := by
              have : ¬ ((a.size : Int) ≤ (s : Int)) := fun z => c (decide_eq_true z)
              omega
            refine ⟨_, rfl, _, _, _, _, _, rfl, kl, T.CL_Rope, T.NA_Rope_left, r5a _ _ _ _ _, _, _, _, rfl, ka, r5c _ _ _ _ _, _, rfl, _, rfl, by omega, a, s, a.size, _, _, rfl, rfl, rfl, ha, .inr sa, by omega, Nat.le_refl _, by omega, by omega, fun u H1 iu => ?_⟩
            have kl1 := iu.same _ _ kl
            have kb1 := iu.same _ _ kb
            obtain ⟨du, ku⟩ := iu.here.it
            refine ⟨_, _, _, rfl, ku, r5j _ _ _ _ _, _, rfl, _, _, _, _, _, rfl, kl1, T.CL_Rope, T.NA_Rope_right, r5b _ _ _ _ _, _, _, _, rfl, kb1, r5c _ _ _ _ _, _, rfl, _, rfl, _, _, rfl, rfl, by omega, b, 0, e - a.size, _, _, rfl, by omega, by omega, hb.same iu.same, .inr sb, by omega, by omega, by omega, by omega, fun v H2 iv => ?_⟩
            have lu : u.size = a.size - s := by
              rw [← RT.txt_len, iu.txt, List.length_drop, List.length_take]
              omega
            have lv : v.size = e - a.size := by
              rw [← RT.txt_len, iv.txt, List.length_drop, List.length_take]
              omega
            have bu := iu.ok.low (by omega)
            have bv := iv.ok.low (by omega)
            refine ⟨u, v, rfl, iu.here.same iv.same, iv.here, iu.ok, iv.ok, by omega, fun w H3 iw => ?_⟩
            obtain ⟨x, m, y, e1, e2, e3, e4, e5, e6, e7, e8⟩ := iu.lv
            obtain ⟨x', m', y', f1, f2, f3, f4, f5, f6, f7, f8⟩ := iv.lv
            have ey := e6 rfl
            have ex := f5 rfl
            subst ey
            subst ex
            refine q w H3 ⟨(iu.same.trans iv.same).trans iw.same, iw.here, iw.ok, ?_, x, m ++ m', y', ?_, ?_, e3, f4, e5, fun h => f6 (by omega), e7, fun z hz => free_of iu.same (f8 z hz)⟩
            · rw [(RT.size_lvs iw.lv).1, iu.txt, iv.txt, et, List.take_append, List.take_of_length_le (l := a.txt) (i := e) (by omega), List.take_of_length_le (l := a.txt) (i := a.size) (by omega), List.drop_zero, List.drop_append_of_le_length (by omega), ta]
            · rw [iw.lv, e1, f1]
              simp only [List.append_assoc, List.append_nil, List.nil_append]
            · intro z hz
              rcases List.mem_append.mp hz with h | h
              · exact inl (e2 z h)
              · exact inr (f2 z h)
theorem ok_Rope_cut (T : Txt K mg) : ∀ n : Nat, FnOk P w K mg base CX0 (n + 61) T.a_Rope_cut T.fd_Rope_cut ["self", "start", "end"] (spCut T.C_Rope n)
  | 0 => cut_step T 0 ⟨fun _ _ _ _ h => absurd h.1 (by decide), fun _ _ _ _ _ _ _ _ _ _ _ _ _ h => absurd h.1 (by decide)⟩
  | n + 1 => cut_step T (n + 1) ((ok_Rope_cut T n).imp fun _ _ _ _ h => h.2)

/-! ### edited -/
def FewNew (k : Nat) (old new : List (Addr × Str)) : Prop := ∃ g : List (Addr × Str), g.length ≤ k ∧ ∀ x ∈ new, x ∈ old ∨ x ∈ g
theorem FewNew.refl (a : List (Addr × Str)) : FewNew 0 a a := ⟨[], Nat.le_refl _, fun _ h => .inl h⟩
theorem FewNew.trans {j k : Nat} {a b c : List (Addr × Str)} (h1 : FewNew j a b) (h2 : FewNew k b c) : FewNew (j + k) a c := by
  obtain ⟨g, g1, g2⟩ := h1
  obtain ⟨h, h1, h2⟩ := h2
  refine ⟨g ++ h, by rw [List.length_append]; omega, fun x hx => ?_⟩
  rcases h2 x hx with h3 | h3
  · rcases g2 x h3 with h4 | h4
    · exact .inl h4
    · exact .inr (List.mem_append_left _ h4)
  · exact .inr (List.mem_append_right _ h3)
def edCost (e : Ed) : Nat := 2 + (e.len + 15) / 16
structure IsEd (C : Addr) (H H' : Hp) (t : RT) (es : List Ed) (u : RT) : Prop where
  same : Same H H'
  here : RopeAt C H' u
  ok : u.Ok
  txt : u.txt = appl t.txt es
  few : FewNew (es.map edCost).sum t.lvs u.lvs
def spEdited (C D : Addr) : Sp := fun vs H Q E => ∃ (t : RT) (l : Addr) (es : List Ed), vs = [.ref t.at, .ref l] ∧ RopeAt C H t ∧ t.Ok ∧ EdsAt H l es ∧ Sized es ∧ es.length ≤ 2000 ∧ (∀ e ∈ es, e.len ≤ 2000) ∧ (∀ k, fitsL t.size (es.take k) → (appl t.txt (es.take k)).length < 16384) ∧
  (fitsL t.size es → ∀ u H', IsEd C H H' t es u → Q (.ref u.at) H') ∧ (∀ k, unfit t.size es = some k → ErrAt D H E k)
theorem ok_Rope_edited (T : Txt K mg) : FnOk P w K mg base (L2.CX P w) 90 T.a_Rope_edited T.fd_Rope_edited ["self", "edits"] (spEdited T.C_Rope T.C_EditError) := by
  have G_check_fits : FnOk P w K mg base (L2.CX P w) 4 T.a_check_fits T.fd_check_fits ["length", "edits"] (spCheck T.C_EditError) := ok_check_fits T
  have G_Rope_of : FnOk P w K mg base CX0 11 T.a_Rope_of T.fd_Rope_of ["text"] (spOf T.C_Rope) := ok_Rope_of T
  have G_Rope_joined : FnOk P w K mg base CX0 60 T.a_Rope_joined T.fd_Rope_joined ["self", "other"] (spJoin T.C_Rope 56) := ok_Rope_joined T 56
  have G_Rope_cut : FnOk P w K mg base CX0 89 T.a_Rope_cut T.fd_Rope_cut ["self", "start", "end"] (spCut T.C_Rope 28) := ok_Rope_cut T 28
  refine T.F_Rope_edited.okX sc_Rope_edited (fun vs H Q E h => ?_) (fun cdv A outer s H vs Q E hr h => ?_)
  · obtain ⟨t, l, es, rfl, _⟩ := h
    rfl
  · have hr_check_fits : Room 4 _ := hr.mono (by decide)
    have hr_Rope_of : Room 11 _ := hr.mono (by decide)
    have hr_Rope_joined : Room 60 _ := hr.mono (by decide)
    have hr_Rope_cut : Room 89 _ := hr
    obtain ⟨t, l, es, rfl, ht, ot, hE, hS, hn, h20, hlim, q1, q2⟩ := h
    refine ⟨_, (pss_cons (ps_expr (pe_call G_check_fits hr_check_fits (by rfl) T.g_check_fits T.F_check_fits.kp T.b_check_fits .nil (passes_call (takes_of rfl rfl rfl rfl) (fun _ _ _ _ z => z)) (pa_cons (pe_fld (pv 0) rfl) (pa_cons (pv 1) pa_nil))))
      (pss_cons (ps_set (i := 2) sc_Rope_edited.nd rfl (.inl rfl) (pv 0))
      (pss_cons (ps_for (passes_of rfl) rfl (pi_list (pv 1)) (pg_tup (by rfl) (pgs_cons (pg_name (i := 3) sc_Rope_edited.nd rfl (.inl rfl)) (pgs_cons (pg_name (i := 4) sc_Rope_edited.nd rfl (.inl rfl)) (pgs_cons (pg_name (i := 5) sc_Rope_edited.nd rfl (.inl rfl)) pgs_nil)))) (pss_cons (ps_set (i := 6) sc_Rope_edited.nd rfl (.inl rfl) (pe_meth (pv 2) T.CL_Rope T.ME_Ropecut G_Rope_cut hr_Rope_cut T.b_Rope_cut .nil pass0 (pa_cons (pv 4) (pa_cons (pe_fld (pv 2) rfl) pa_nil))))
      (pss_one (ps_set (i := 2) sc_Rope_edited.nd rfl (.inl rfl) (pe_meth (pe_meth (pe_meth (pv 2) T.CL_Rope T.ME_Ropecut G_Rope_cut hr_Rope_cut T.b_Rope_cut .nil pass0 (pa_cons pe_int (pa_cons (pv 3) pa_nil))) T.CL_Rope T.ME_Ropejoined G_Rope_joined hr_Rope_joined T.b_Rope_joined .nil pass0 (pa_cons (OwnOp.pe_stat (pe_glob (v := .ref T.C_Rope) (by rfl) T.G_Rope rfl) T.ST_Ropeof G_Rope_of hr_Rope_of T.b_Rope_of .nil pass0 (pa_cons (pv 5) pa_nil)) pa_nil)) T.CL_Rope T.ME_Ropejoined G_Rope_joined hr_Rope_joined T.b_Rope_joined .nil pass0 (pa_cons (pv 6) pa_nil))))))
      (pss_one (ps_ret (pv 2)))))), ?_⟩
    obtain ⟨dt, kt⟩ := ht.it
    refine ⟨_, rfl, _, _, _, _, _, rfl, kt, T.CL_Rope, T.NA_Rope_size, r5n _ _ _ _ _, _, rfl, t.size, l, es, rfl, hE, hS, hn, fun hf H1 s1 => ?_, q2⟩
    obtain ⟨us, hus, hue⟩ := id hE
    have lu := paired_len hue
    have tl := t.txt_len
    refine ⟨_, rfl, ?_⟩
    refine ⟨_, rfl, l, rfl, ⟨_, SqL.of (s1 _ _ hus)⟩, ?_⟩
    refine for_list (K := K) (a := l) (xs := us) (fun i σ H' => Same H H' ∧ ∃ (u : RT) (y3 y4 y5 y6 : Option V), σ = [some (.ref t.at), some (.ref l), some (.ref u.at), y3, y4, y5, y6] ∧ IsEd T.C_Rope H H' t (es.take i) u)
      ⟨s1, t, none, none, none, none, rfl, s1, ht.same s1, ot, rfl, FewNew.refl _⟩ (fun i σ H' _ ⟨e, _⟩ => SqL.of (e _ _ hus)) ?_ ?_
    · rintro i x σ H2 hx ⟨s2, u, y3, y4, y5, y6, rfl, iu⟩
      obtain ⟨e, he⟩ : ∃ e, es[i]? = some e := ⟨_, List.getElem?_eq_getElem (by rw [← lu]; exact (List.getElem?_eq_some_iff.mp hx).1)⟩
      obtain ⟨x', hx', g, rfl, ht0⟩ := paired_get hue he
      rw [hx] at hx'
      have h1 := Option.some.inj hx'
      subst h1
      have hg := s2 _ _ ht0
      have hf1 := fitsL_get hf he
      have lt1 : (appl t.txt (es.take i)).length = u.size := by rw [← iu.txt, RT.txt_len]
      have hfi : fitsL t.txt.length (es.take i) := by rw [tl]; exact fitsL_take i hf
      rw [← tl, ← appl_len hfi, lt1] at hf1
      obtain ⟨a, b, hab, h2, h3⟩ := fit_nat hf1
      have lim1 := hlim (i + 1) (fitsL_take _ hf)
      have lim0 := hlim i (fitsL_take _ hf)
      rw [lt1] at lim0
      rw [take_more he, appl_snoc, ← iu.txt] at lim1
      have e20 := h20 e (List.mem_of_getElem? he)
      rw [hab] at hg lim1
      have hg : H2 g = some (.tup [.int (a : Int), .int (b : Int), .str e.2.2]) := hg
      have lim2 : (spliceL u.txt a b (cs e.2.2)).length < 16384 := lim1
      obtain ⟨du, ku⟩ := iu.here.it
      refine ⟨g, _, rfl, SqT.of hg, rfl, _, _, rfl, _, _, rfl, _, _, rfl, rfl, ?_⟩
      have lc : (spliceL u.txt a b (cs e.2.2)).length = a + e.len + (u.size - b) := by
        have := u.txt_len
        show (u.txt.take a ++ cs e.2.2 ++ u.txt.drop b).length = _
        rw [List.length_append, List.length_append, List.length_take, List.length_drop]
        show min a u.txt.length + e.len + _ = _
        omega
      have bu := iu.ok.low lim0
      refine ⟨_, rfl, _, _, _, rfl, ku, r5c _ _ _ _ _, _, rfl, _, rfl, _, _, _, _, _, rfl, ku, T.CL_Rope, T.NA_Rope_size, r5n _ _ _ _ _, u, b, u.size, _, _, rfl, rfl, rfl, iu.here, iu.ok, h3, Nat.le_refl _, lim0, bu, fun v H3 iv => ?_⟩
      have ku3 := iv.same _ _ ku
      refine ⟨_, rfl, _, _, _, rfl, ku3, r5c _ _ _ _ _, _, rfl, u, 0, a, _, _, rfl, rfl, rfl, iu.here.same iv.same, iu.ok, Nat.zero_le _, by omega, lim0, bu, fun c H4 ic => ?_⟩
      obtain ⟨dc, kc⟩ := ic.here.it
      refine ⟨_, _, _, rfl, kc, r5j _ _ _ _ _, rfl, _, rfl, e.2.2, rfl, e20, fun o H5 so ho oo xo no fo => ?_⟩
      have lv : v.size = u.size - b := by
        have := u.txt_len
        rw [← RT.txt_len, iv.txt, List.length_drop, List.length_take]
        omega
      have lcz : c.size = a := by
        have := u.txt_len
        rw [← RT.txt_len, ic.txt, List.length_drop, List.length_take]
        omega
      have lo : o.size = e.len := by rw [← RT.txt_len, xo]
      have bv := iv.ok.low (by omega)
      have bc := ic.ok.low (by omega)
      have bo := oo.low (by omega)
      refine ⟨c, o, rfl, ic.here.same so, ho, ic.ok, oo, by omega, fun m H6 im => ?_⟩
      have lm := (RT.size_lvs im.lv).2
      have bm := im.ok.low (by omega)
      obtain ⟨dm, km⟩ := im.here.it
      refine ⟨_, _, _, rfl, km, r5j _ _ _ _ _, _, rfl, m, v, rfl, im.here, iv.here.same ((ic.same.trans so).trans im.same), im.ok, iv.ok, by omega, fun n H7 iN => ?_⟩
      have s7 : Same H2 H7 := (((iv.same.trans ic.same).trans so).trans im.same).trans iN.same
      refine ⟨s2.trans s7, n, _, _, _, _, rfl, s2.trans s7, iN.here, iN.ok, ?_, ?_⟩
      · rw [take_more he, appl_snoc, ← iu.txt, (RT.size_lvs iN.lv).1, (RT.size_lvs im.lv).1, ic.txt, xo, iv.txt, hab]
        show (u.txt.take a).drop 0 ++ cs e.2.2 ++ (u.txt.take u.size).drop b = u.txt.take a ++ cs e.2.2 ++ u.txt.drop b
        rw [List.drop_zero, List.take_of_length_le (l := u.txt) (i := u.size) (by rw [RT.txt_len]; omega)]
      · rw [take_more he, List.map_append, List.sum_append]
        refine iu.few.trans ?_
        obtain ⟨x, p, y, e1, e2, e3, e4, e5, e6, e7, e8⟩ := iv.lv
        obtain ⟨x', p', y', f1, f2, f3, f4, f5, f6, f7, f8⟩ := ic.lv
        have ey := e6 rfl
        have ex := f5 rfl
        subst ey
        subst ex
        refine ⟨y' ++ o.lvs ++ x, ?_, fun z hz => ?_⟩
        · rw [List.length_append, List.length_append]
          show _ ≤ (2 + (e.len + 15) / 16) + 0
          have fo : 16 * o.lvs.length < e.len + 16 := fo
          omega
        · rw [iN.lv, im.lv, f1, e1] at hz
          simp only [List.mem_append, List.not_mem_nil, false_or, or_false] at hz ⊢
          rcases hz with ((h | h) | h) | h | h
          · exact .inl (f2 z h)
          · exact .inr (.inl (.inl h))
          · exact .inr (.inl (.inr h))
          · exact .inr (.inr h)
          · exact .inl (e2 z h)
    · rintro σ H2 ⟨s2, u, y3, y4, y5, y6, rfl, iu⟩
      rw [lu, List.take_length] at iu
      exact ⟨_, rfl, q1 hf u _ iu⟩

/-! ### shared by the laws of ropes -/
theorem itT {c : Bool} {A B : Prop} (h : c = true) (a : A) : if c = true then A else B := by
  rw [if_pos h]
  exact a
theorem itF {c : Bool} {A B : Prop} (h : c = false) (b : B) : if c = true then A else B := by
  rw [h]
  exact iteF b
theorem pe_fldK {X : Cx} {K : PySem.W.Frag} {e : Expr} {ta : TE} {f : Str} {pos : Pos} (h : X.K = K) (he : PE X e ta) (hb : attributeBase e f X.env (eval e X.env) = eval e X.env) : PE X (.Attribute e f pos) (tFld K ta f) := by
  subst h
  exact pe_fld he hb
def RT.nd : RT → Nat
  | .leaf _ _ => 1
  | .node _ l r => 1 + l.nd + r.nd
theorem RT.Sol.nd : ∀ {t : RT}, t.Sol → t.nd + 1 ≤ 2 * t.size
  | .leaf _ z, h => by
    have h1 := h.1
    show 1 + 1 ≤ 2 * (cs z).length
    omega
  | .node _ l r, h => by
    have h1 := RT.Sol.nd h.1
    have h2 := RT.Sol.nd h.2.1
    show 1 + l.nd + r.nd + 1 ≤ 2 * (l.size + r.size)
    omega
theorem RT.Ok.nd {t : RT} (h : t.Ok) : t.nd < 2 * t.size + 2 := by
  rcases h with ⟨p, z, hz, rfl⟩ | h
  · show 1 < _
    omega
  · have := h.nd
    omega
def atV (t : RT) : V := .ref t.at
def lvV (x : Addr × Str) : V := .ref x.1
theorem RopeAt.mutL {C : Addr} {H : Hp} {p : Addr} {xs : List V} (h0 : H p = some (.lst xs)) {o : HO} : ∀ {t : RT}, RopeAt C H t → RopeAt C (upd H p o) t := by
  have key : ∀ (q e : Addr) (fs : List (Str × V)), H q = some (.ins C e fs) → q ≠ p := fun q e fs h => by
    rintro rfl
    rw [h0] at h
    cases h
  intro t
  induction t with
  | leaf q z =>
    rintro ⟨e, h⟩
    exact ⟨e, by rw [upd_ne (key q _ _ h)]; exact h⟩
  | node q l r il ir =>
    rintro ⟨⟨e, h⟩, h1, h2⟩
    exact ⟨⟨e, by rw [upd_ne (key q _ _ h)]; exact h⟩, il h1, ir h2⟩
theorem RT.lvs_nd : ∀ t : RT, t.lvs.length ≤ t.nd
  | .leaf p z => by
    rw [leaf_lvs]
    show _ ≤ 1
    split
    · exact Nat.zero_le _
    · exact Nat.le_refl _
  | .node p l r => by
    have h1 := RT.lvs_nd l
    have h2 := RT.lvs_nd r
    show (l.lvs ++ r.lvs).length ≤ 1 + l.nd + r.nd
    rw [List.length_append]
    omega
theorem RT.nd_pos : ∀ t : RT, 1 ≤ t.nd
  | .leaf _ _ => Nat.le_refl _
  | .node _ l r => by
    show 1 ≤ 1 + l.nd + r.nd
    omega
theorem nds_len : ∀ S : List RT, S.length ≤ (S.map RT.nd).sum
  | [] => Nat.le_refl _
  | t :: S => by
    have h1 := t.nd_pos
    have h2 := nds_len S
    show S.length + 1 ≤ t.nd + (S.map RT.nd).sum
    omega
theorem RopeAt.but {C r : Addr} {H H' : Hp} (b : But r H H') (hr : ReelAt H r) : ∀ {t : RT}, RopeAt C H t → RopeAt C H' t := by
  have key : ∀ (q e : Addr) (fs : List (Str × V)), H q = some (.ins C e fs) → q ≠ r := fun q e fs h => by
    rintro rfl
    obtain ⟨z, c, h1, _⟩ := hr
    rw [h1] at h
    cases h
  intro t
  induction t with
  | leaf q z =>
    rintro ⟨e, h⟩
    exact ⟨e, b _ _ (key q _ _ h) h⟩
  | node q l r il ir =>
    rintro ⟨⟨e, h⟩, h1, h2⟩
    exact ⟨⟨e, b _ _ (key q _ _ h) h⟩, il h1, ir h2⟩
theorem ReelAt.sameR {H H' : Hp} {r : Addr} (h : ReelAt H r) (s : Same H H') : ReelAt H' r := by
  obtain ⟨z, c, h1, h2, h3⟩ := h
  exact ⟨z, c, s _ _ h1, h2, h3⟩
def RopeFor (C : Addr) (H : Hp) (t : RT) (z : Str) : Prop := RopeAt C H t ∧ t.Ok ∧ t.txt = cs z
abbrev tot (zs : List Str) : Nat := ((zs.map cs).flatten).length
theorem sum_cs : ∀ zs : List Str, (zs.map (·.length)).sum = tot zs
  | [] => rfl
  | z :: zs => by
    show z.length + (zs.map (·.length)).sum = (cs z ++ (zs.map cs).flatten).length
    rw [sum_cs zs, List.length_append, len_cs]
theorem tot_app (a b : List Str) : tot (a ++ b) = tot a + tot b := by
  unfold tot
  rw [List.map_append, List.flatten_append, List.length_append]
theorem tot_mem {zs : List Str} {z : Str} (h : z ∈ zs) : (cs z).length ≤ tot zs := by
  obtain ⟨a, b, rfl⟩ := List.append_of_mem h
  rw [tot_app]
  have : tot (z :: b) = (cs z).length + tot b := by
    show (cs z ++ (b.map cs).flatten).length = _
    rw [List.length_append]
  omega
theorem RopeFor.same {C : Addr} {H H' : Hp} {t : RT} {z : Str} (s : Same H H') (h : RopeFor C H t z) : RopeFor C H' t z := ⟨h.1.same s, h.2⟩
theorem paired_two {α β : Type} {F : α → β → Prop} : ∀ {xs : List α} {ys : List β} {i : Nat}, Paired F xs ys → i + 1 < ys.length → ∃ A a b B A' a' b' B', xs = A ++ a :: b :: B ∧ ys = A' ++ a' :: b' :: B' ∧ A.length = i ∧ A'.length = i ∧ Paired F A A' ∧ F a a' ∧ F b b' ∧ Paired F B B'
  | _, _, 0, .cons h (.cons k r), _ => ⟨[], _, _, _, [], _, _, _, rfl, rfl, rfl, rfl, .nil, h, k, r⟩
  | _, _, 0, .cons h .nil, l => absurd l (by show ¬ (0 + 1 < 0 + 1); omega)
  | _, _, 0, .nil, l => absurd l (by show ¬ (0 + 1 < 0); omega)
  | _, _, i + 1, .nil, l => absurd l (by show ¬ (i + 1 + 1 < 0); omega)
  | _, _, i + 1, .cons h r, l => by
    rename_i x y xs ys
    have l2 : i + 1 < ys.length := by
      have : i + 1 + 1 < ys.length + 1 := l
      omega
    obtain ⟨A, a, b, B, A', a', b', B', e1, e2, e3, e4, e5, e6, e7, e8⟩ := paired_two r l2
    exact ⟨x :: A, a, b, B, y :: A', a', b', B', by rw [e1]; rfl, by rw [e2]; rfl, by rw [List.length_cons, e3], by rw [List.length_cons, e4], .cons h e5, e6, e7, e8⟩
theorem cut_two {α : Type} (f : α → V) (A : List α) (a b c : α) (B : List α) {k : Int} (hk : k = (A.length : Int)) :
    cutV ((A ++ a :: b :: B).map f) none (some k) ++ [f c] ++ cutV ((A ++ a :: b :: B).map f) (some (k + 2)) none = (A ++ c :: B).map f := by
  subst hk
  rw [show ((A.length : Int) + 2) = ((A.length + 2 : Nat) : Int) by omega, cutV_pre, cutV_suf, ← List.map_take, ← List.map_drop, List.take_left, List.map_append, List.append_assoc]
  congr 1
  show f c :: _ = f c :: _
  congr 2
  rw [← List.drop_drop, List.drop_left]
  rfl
theorem at_mid {α : Type} (f : α → V) (A : List α) (a : α) (B : List α) {k : Int} (hk : k = (A.length : Int)) : atI ((A ++ a :: B).map f) k = some (f a) := at_of (j := A.length) hk (by
  rw [List.map_append, List.getElem?_append_right (by rw [List.length_map]; omega), List.length_map, Nat.sub_self]
  rfl)
theorem at_mid2 {α : Type} (f : α → V) (A : List α) (a b : α) (B : List α) {k : Int} (hk : k = (A.length : Int)) : atI ((A ++ a :: b :: B).map f) (k + 1) = some (f b) := at_of (j := A.length + 1) (by omega) (by
  rw [List.map_append, List.getElem?_append_right (by rw [List.length_map]; omega), List.length_map, Nat.add_sub_cancel_left]
  rfl)
theorem sorted_two {a b : Int} {ns : List Int} (h : ns.Perm [a, b]) (s : ns.Pairwise (· ≤ ·)) : ∃ x y, ns = [x, y] ∧ x ≤ y ∧ (x = a ∨ x = b) ∧ (y = a ∨ y = b) := by
  have hl := h.length_eq
  match ns, hl, h, s with
  | [x, y], _, h, s =>
    have hx : x ∈ [a, b] := h.mem_iff.mp List.mem_cons_self
    have hy : y ∈ [a, b] := h.mem_iff.mp (List.mem_cons_of_mem _ List.mem_cons_self)
    refine ⟨x, y, rfl, (List.pairwise_cons.mp s).1 y List.mem_cons_self, ?_, ?_⟩
    · simpa using hx
    · simpa using hy

/-! ### whole -/
def spWholeR (C : Addr) : Sp := fun vs H Q _ => ∃ t : RT, vs = [.ref t.at] ∧ RopeAt C H t ∧ t.Ok ∧ t.size ≤ 16384 ∧ ∀ z H', Same H H' → cs z = t.txt → Q (.str z) H'
theorem ok_Rope_whole (T : Txt K mg) : FnOk P w K mg base CX0 1 T.a_Rope_whole T.fd_Rope_whole ["self"] (spWholeR T.C_Rope) := by
  refine T.F_Rope_whole.ok sc_Rope_whole (fun vs H Q E h => ?_) (fun cdv A outer s H vs Q E hr h => ?_)
  · obtain ⟨t, rfl, _⟩ := h
    rfl
  · obtain ⟨t, rfl, ht, ot, lt, q⟩ := h
    refine ⟨_, (pss_cons (ps_set (i := 1) sc_Rope_whole.nd rfl (.inl rfl) (pe_lst pa_nil))
      (pss_cons (ps_set (i := 2) sc_Rope_whole.nd rfl (.inl rfl) (pe_lst (pa_cons (pv 0) pa_nil)))
      (pss_cons (ps_while PassesOwn.never (pt_truth (pv 2) (by intro _; rfl)) (pss_cons (ps_set (i := 3) sc_Rope_whole.nd rfl (.inl rfl) (pe_bm0 PySem.F.plainAttrs_list PySem.F.slot_list_pop PySem.F.type_list_pop mt_pop (pv 2)))
      (pss_cons (ps_expr (pe_bm PySem.F.plainAttrs_list PySem.F.slot_list_append PySem.F.type_list_append mt_append (pv 1) (pa_cons (pe_fld (pv 3) rfl) pa_nil)))
      (pss_one (ps_if (pt_cmpR op_notN (pe_fld (pv 3) rfl) pe_non (nomark _)) (pss_cons (ps_expr (pe_bm PySem.F.plainAttrs_list PySem.F.slot_list_append PySem.F.type_list_append mt_append (pv 2) (pa_cons (pe_fld (pv 3) rfl) pa_nil)))
      (pss_one (ps_expr (pe_bm PySem.F.plainAttrs_list PySem.F.slot_list_append PySem.F.type_list_append mt_append (pv 2) (pa_cons (pe_fld (pv 3) rfl) pa_nil))))) pss_nil)))))
      (pss_one (ps_ret (pe_join pe_str (pv 1))))))), ?_⟩
    refine ⟨by show 0 ≤ sizeLine; decide, fun f nf => ?_⟩
    have s1 : Same H (upd H f (.lst [])) := same_upd nf
    refine ⟨_, rfl, by show 1 ≤ sizeLine; decide, fun d nd => ?_⟩
    have s2 := s1.trans (same_upd (o := .lst [.ref t.at]) nd)
    have ndH : H d = none := free_of s1 nd
    have hdf : d ≠ f := fun e => by
      rw [e, upd_same] at nd
      cases nd
    have tn := ot.nd
    refine ⟨fun m σ H' => ∃ (zs : List Str) (S : List RT) (y : Option V), m = (S.map RT.nd).sum ∧ σ = [some (.ref t.at), some (.ref f), some (.ref d), y] ∧ Same H H' ∧ H' f = some (.lst (zs.map V.str)) ∧ H' d = some (.lst (S.reverse.map atV)) ∧
      (∀ u ∈ S, RopeAt T.C_Rope H' u) ∧ (zs.map cs).flatten ++ (S.map RT.txt).flatten = t.txt ∧ zs.length + (S.map RT.nd).sum = t.nd,
      ⟨_, [], [t], none, rfl, rfl, s2, by rw [upd_ne hdf.symm, upd_same]; rfl, upd_same, fun u hu => by rw [List.mem_singleton.mp hu]; exact ht.same s2, by simp, by show 0 + (t.nd + 0) = t.nd; omega⟩, ?_⟩
    rintro m σ H1 ⟨zs, S, y, rfl, rfl, sm, hf, hd, hS, tx, cn⟩
    have lS := nds_len S
    cases S with
    | nil =>
      refine ⟨_, rfl, false, .inl ⟨[], SqL.of hd, rfl⟩, iteF ?_⟩
      have tx : (zs.map cs).flatten = t.txt := by
        have : (zs.map cs).flatten ++ [] = t.txt := tx
        rwa [List.append_nil] at this
      have sz : (zs.map (·.length)).sum = t.size := by rw [sum_cs, ← RT.txt_len, ← tx]
      refine ⟨⟨_, rfl⟩, _, rfl, _, f, zs, rfl, rfl, .inl (SqL.of hf), ?_, ?_⟩
      · rw [sz]
        show _ + _ * 0 ≤ _
        omega
      · exact q _ H1 sm (by rw [cs_joinT rfl, tx])
    | cons u S =>
      rw [List.reverse_cons, List.map_append] at hd
      have dl : (S.reverse.map atV ++ [u].map atV).dropLast = S.reverse.map atV := List.dropLast_concat
      refine ⟨_, rfl, true, .inl ⟨_, SqL.of hd, by simp⟩, iteT ?_⟩
      have sl : (S.reverse.map atV).length = S.length := by rw [List.length_map, List.length_reverse]
      have cn : zs.length + (u.nd + (S.map RT.nd).sum) = t.nd := cn
      have lS1 : S.length + 1 ≤ t.nd := by
        have h1 : (u :: S).length = S.length + 1 := rfl
        have h2 : ((u :: S).map RT.nd).sum = u.nd + (S.map RT.nd).sum := rfl
        omega
      have tx : (zs.map cs).flatten ++ (u.txt ++ (S.map RT.txt).flatten) = t.txt := tx
      refine ⟨fun σ' H' => ∃ m', m' < ((u :: S).map RT.nd).sum ∧ ∃ (zs : List Str) (S : List RT) (y : Option V), m' = (S.map RT.nd).sum ∧ σ' = [some (.ref t.at), some (.ref f), some (.ref d), y] ∧ Same H H' ∧ H' f = some (.lst (zs.map V.str)) ∧ H' d = some (.lst (S.reverse.map atV)) ∧
        (∀ u ∈ S, RopeAt T.C_Rope H' u) ∧ (zs.map cs).flatten ++ (S.map RT.txt).flatten = t.txt ∧ zs.length + (S.map RT.nd).sum = t.nd, fun σ' H' h => h, ?_⟩
      refine ⟨_, rfl, .inl ⟨rfl, _, SqL.of hd⟩, d, _, atV u, rfl, rfl, hd, ?_, ?_⟩
      · show ((S.reverse.map atV) ++ [atV u])[((S.reverse.map atV) ++ [atV u]).length - 1]? = some (atV u)
        rw [List.length_append]
        show ((S.reverse.map atV) ++ [atV u])[(S.reverse.map atV).length]? = _
        rw [List.getElem?_append_right (Nat.le_refl _), Nat.sub_self]
        rfl
      rw [dl]
      have hu := hS u List.mem_cons_self
      have m1 : ∀ {v : RT} {o : HO}, RopeAt T.C_Rope H1 v → RopeAt T.C_Rope (upd H1 d o) v := fun h => h.mutL hd
      have hf1 : ∀ {o : HO}, (upd H1 d o) f = some (.lst (zs.map V.str)) := by
        intro o
        rw [upd_ne hdf.symm]
        exact hf
      have m2 : ∀ {v : RT} {o : HO}, RopeAt T.C_Rope (upd H1 d (.lst (S.reverse.map atV))) v → RopeAt T.C_Rope (upd (upd H1 d (.lst (S.reverse.map atV))) f o) v := fun h => h.mutL hf1
      obtain ⟨du, ku⟩ := (m1 (o := .lst (S.reverse.map atV)) hu).it
      refine ⟨_, rfl, .inl ⟨rfl, _, SqL.of hf1⟩, _, rfl, _, _, _, _, _, rfl, ku, T.CL_Rope, T.NA_Rope_piece, r5z _ _ _ _ _, f, _, _, rfl, rfl, hf1, sz2 (by rw [List.length_map]; omega), ?_⟩
      obtain ⟨dv, kv⟩ := (m2 (o := .lst (zs.map V.str ++ [.str u.pc])) (m1 (o := .lst (S.reverse.map atV)) hu)).it
      have hd2 : (upd (upd H1 d (.lst (S.reverse.map atV))) f (.lst (zs.map V.str ++ [.str u.pc]))) d = some (.lst (S.reverse.map atV)) := by rw [upd_ne hdf, upd_same]
      have hf2 : (upd (upd H1 d (.lst (S.reverse.map atV))) f (.lst (zs.map V.str ++ [.str u.pc]))) f = some (.lst ((zs ++ [u.pc]).map V.str)) := by
        rw [upd_same, List.map_append]
        rfl
      have s3 : Same H (upd (upd H1 d (.lst (S.reverse.map atV))) f (.lst (zs.map V.str ++ [.str u.pc]))) := same_mut (same_mut sm ndH) nf
      have fl : ((zs ++ [u.pc]).map cs).flatten = (zs.map cs).flatten ++ cs u.pc := by
        rw [List.map_append, List.flatten_append]
        show _ ++ (cs u.pc ++ []) = _
        rw [List.append_nil]
      have lzs : (zs ++ [u.pc]).length = zs.length + 1 := by rw [List.length_append]; rfl
      cases u with
      | leaf p y =>
        refine ⟨_, rfl, _, _, _, _, _, rfl, kv, T.CL_Rope, T.NA_Rope_left, r5a _ _ _ _ _, rfl, _, rfl, iteF ?_⟩
        refine ⟨(S.map RT.nd).sum, ?_, zs ++ [y], S, _, rfl, rfl, s3, hf2, hd2, fun v hv => m2 (m1 (hS v (List.mem_cons_of_mem _ hv))), ?_, ?_⟩
        · show _ < 1 + (S.map RT.nd).sum
          omega
        · have fl : ((zs ++ [y]).map cs).flatten = (zs.map cs).flatten ++ cs y := fl
          rw [fl, ← tx, List.append_assoc]
          rfl
        · have cn : zs.length + (1 + (S.map RT.nd).sum) = t.nd := cn
          have lzs : (zs ++ [y]).length = zs.length + 1 := lzs
          omega
      | node p a b =>
        refine ⟨_, rfl, _, _, _, _, _, rfl, kv, T.CL_Rope, T.NA_Rope_left, r5a _ _ _ _ _, rfl, _, rfl, iteT ?_⟩
        refine ⟨_, rfl, .inl ⟨rfl, _, SqL.of hd2⟩, _, rfl, _, _, _, _, _, rfl, kv, T.CL_Rope, T.NA_Rope_right, r5b _ _ _ _ _, d, _, _, rfl, rfl, hd2, sz2 (by omega), ?_⟩
        have m3 : ∀ {v : RT} {o : HO}, RopeAt T.C_Rope (upd (upd H1 d (.lst (S.reverse.map atV))) f (.lst (zs.map V.str ++ [.str (RT.node p a b).pc]))) v → RopeAt T.C_Rope (upd (upd (upd H1 d (.lst (S.reverse.map atV))) f (.lst (zs.map V.str ++ [.str (RT.node p a b).pc]))) d o) v := fun h => h.mutL hd2
        obtain ⟨dw, kw⟩ := (m3 (o := .lst (S.reverse.map atV ++ [.ref b.at])) (m2 (m1 hu))).it
        refine ⟨_, rfl, .inl ⟨rfl, _, SqL.of upd_same⟩, _, rfl, _, _, _, _, _, rfl, kw, T.CL_Rope, T.NA_Rope_left, r5a _ _ _ _ _, d, _, _, rfl, rfl, upd_same, sz2 (by rw [List.length_append, sl]; show S.length + 1 < _; omega), ?_⟩
        rw [upd_upd]
        refine ⟨a.nd + (b.nd + (S.map RT.nd).sum), ?_, zs ++ [(RT.node p a b).pc], a :: b :: S, _, rfl, rfl, same_mut s3 ndH, by rw [upd_ne hdf.symm]; exact hf2, ?_, fun v hv => ?_, ?_, ?_⟩
        · show _ < 1 + a.nd + b.nd + (S.map RT.nd).sum
          omega
        · rw [upd_same, List.reverse_cons, List.reverse_cons, List.map_append, List.map_append]
          rfl
        · rcases List.mem_cons.mp hv with rfl | hv
          · exact m3 (m2 (m1 hu)).l
          rcases List.mem_cons.mp hv with rfl | hv
          · exact m3 (m2 (m1 hu)).r
          · exact m3 (m2 (m1 (hS v (List.mem_cons_of_mem _ hv))))
        · rw [fl, ← tx, show cs (RT.node p a b).pc = [] from rfl, List.append_nil]
          show (zs.map cs).flatten ++ (a.txt ++ (b.txt ++ (S.map RT.txt).flatten)) = (zs.map cs).flatten ++ ((a.txt ++ b.txt) ++ (S.map RT.txt).flatten)
          rw [List.append_assoc]
        · have cn : zs.length + ((1 + a.nd + b.nd) + (S.map RT.nd).sum) = t.nd := cn
          rw [lzs]
          show zs.length + 1 + (a.nd + (b.nd + (S.map RT.nd).sum)) = t.nd
          omega
/-! ### char -/
def spChar (C : Addr) : Sp := fun vs H Q _ => ∃ (t : RT) (i c : Nat), vs = [.ref t.at, .int (i : Int)] ∧ RopeAt C H t ∧ t.Ok ∧ t.txt[i]? = some c ∧ Q (.str (sg c)) H
def chW (C : Addr) (H : Hp) (t : RT) (c m : Nat) (σ : L2.St) (H' : Hp) : Prop := H' = H ∧ ∃ (u : RT) (j : Nat), m = u.nd ∧ σ = [some (.ref t.at), some (.int (j : Int)), some (.ref u.at)] ∧ RopeAt C H u ∧ u.Ok ∧ u.txt[j]? = some c
theorem ok_Rope_char (T : Txt K mg) : FnOk P w K mg base CX0 1 T.a_Rope_char T.fd_Rope_char ["self", "index"] (spChar T.C_Rope) := by
  refine T.F_Rope_char.ok sc_Rope_char (fun vs H Q E h => ?_) (fun cdv A outer s H vs Q E hr h => ?_)
  · obtain ⟨t, i, c, rfl, _⟩ := h
    rfl
  · obtain ⟨t, i, c, rfl, ht, ot, hc, q⟩ := h
    refine ⟨_, (pss_cons (ps_set (i := 2) sc_Rope_char.nd rfl (.inl rfl) (pv 0))
      (pss_cons (ps_while PassesOwn.never (pt_cmpR op_notN (pe_fld (pv 2) rfl) pe_non (nomark _)) (pss_one (ps_if (pt_cmpR op_lt (pv 1) (pe_fld (pe_fld (pv 2) rfl) rfl) (nomark _)) (pss_one (ps_set (i := 2) sc_Rope_char.nd rfl (.inl rfl) (pe_fld (pv 2) rfl))) (pss_cons (ps_set (i := 1) sc_Rope_char.nd rfl (.inl rfl) (pe_op op_sub (pv 1) (pe_fld (pe_fld (pv 2) rfl) rfl)))
      (pss_one (ps_set (i := 2) sc_Rope_char.nd rfl (.inl rfl) (pe_fld (pv 2) rfl)))))))
      (pss_one (ps_ret (pe_ix ix_str (pe_fld (pv 2) rfl) (pv 1) (fun _ _ => rfl)))))), ?_⟩
    refine ⟨_, rfl, ?_⟩
    refine ⟨chW T.C_Rope H t c,
      ⟨_, rfl, t, i, rfl, rfl, ht, ot, hc⟩, ?_⟩
    rintro m σ H1 ⟨rfl, u, j, rfl, rfl, hu, ou, hj⟩
    obtain ⟨du, ku⟩ := hu.it
    cases u with
    | leaf p z =>
      refine ⟨_, rfl, _, _, _, _, _, rfl, ku, T.CL_Rope, T.NA_Rope_left, r5a _ _ _ _ _, rfl, _, rfl, iteF ?_⟩
      have l16 : (cs z).length ≤ 16 := by
        rcases ou with ⟨p', z', hz, e⟩ | h
        · cases e
          rw [hz]
          decide
        · exact h.2
      have lz := len_cs z
      have hj : (cs z)[j]? = some c := hj
      refine ⟨_, rfl, _, _, _, _, _, rfl, ku, T.CL_Rope, T.NA_Rope_piece, r5z _ _ _ _ _, _, rfl, ?_⟩
      exact ⟨z, (j : Int), c, rfl, rfl, szM (by omega), atI_nat hj, q⟩
    | node p a b =>
      refine ⟨_, rfl, _, _, _, _, _, rfl, ku, T.CL_Rope, T.NA_Rope_left, r5a _ _ _ _ _, rfl, _, rfl, iteT ?_⟩
      refine ⟨fun σ' H' => ∃ m', m' < (RT.node p a b).nd ∧ chW T.C_Rope H1 t c m' σ' H', fun σ' H' h => h, ?_⟩
      have ha := hu.l
      have hb := hu.r
      obtain ⟨da, ka⟩ := ha.it
      have st : (RT.node p a b).Sol := by
        rcases ou with ⟨p', z', hz, e⟩ | h
        · cases e
        · exact h
      have hj : (a.txt ++ b.txt)[j]? = some c := hj
      have la := a.txt_len
      have pa := a.nd_pos
      have pb := b.nd_pos
      have en : (RT.node p a b).nd = 1 + a.nd + b.nd := rfl
      refine ⟨_, rfl, _, rfl, _, _, _, _, _, rfl, ku, T.CL_Rope, T.NA_Rope_left, r5a _ _ _ _ _, _, _, _, _, _, rfl, ka, T.CL_Rope, T.NA_Rope_size, r5n _ _ _ _ _, _, _, rfl, rfl, _, rfl, ite2 (fun cc => ?_) (fun cc => ?_)⟩
      · have c1 : j < a.size := by
          have := of_decide_eq_true cc
          omega
        rw [List.getElem?_append_left (by omega)] at hj
        exact ⟨_, rfl, _, _, _, _, _, rfl, ku, T.CL_Rope, T.NA_Rope_left, r5a _ _ _ _ _, a.nd, by omega, rfl, a, j, rfl, rfl, ha, .inr st.1, hj⟩
      · have c1 : a.size ≤ j := by
          have : ¬ ((j : Int) < (a.size : Int)) := fun z => cc (decide_eq_true z)
          omega
        rw [List.getElem?_append_right (by omega), la] at hj
        have e1 : (fun i j : Int => V.int (i - j)) (j : Int) (a.size : Int) = V.int ((j - a.size : Nat) : Int) := congrArg V.int (by omega)
        refine ⟨_, rfl, _, rfl, _, _, _, _, _, rfl, ku, T.CL_Rope, T.NA_Rope_left, r5a _ _ _ _ _, _, _, _, _, _, rfl, ka, T.CL_Rope, T.NA_Rope_size, r5n _ _ _ _ _, _, _, rfl, rfl, ?_⟩
        rw [e1]
        exact ⟨_, rfl, _, _, _, _, _, rfl, ku, T.CL_Rope, T.NA_Rope_right, r5b _ _ _ _ _, b.nd, by omega, rfl, b, j - a.size, rfl, rfl, hb, .inr st.2.1, hj⟩

/-! ### the law's look at a rope -/
theorem r5w (z : Str) (a b : V) (n h : Nat) : (rfl5 z a b n h).lookup ("whole" : Str) = none := r5_no _ _ _ _ _ (by decide +kernel) (by decide +kernel) (by decide +kernel) (by decide +kernel) (by decide +kernel)
theorem r5k (z : Str) (a b : V) (n h : Nat) : (rfl5 z a b n h).lookup ("char" : Str) = none := r5_no _ _ _ _ _ (by decide +kernel) (by decide +kernel) (by decide +kernel) (by decide +kernel) (by decide +kernel)
def spWholeOk (C : Addr) : Sp := fun vs H Q _ => ∃ (r : Addr) (t : RT) (z : Str), vs = [.ref r, .ref t.at, .str z] ∧ ReelAt H r ∧ RopeFor C H t z ∧ (cs z).length ≤ 2000 ∧ ∀ H', But r H H' → ReelAt H' r → Q (.bl true) H'
theorem ok_whole_ok (T : Txt K mg) : FnOk P w K mg base CX0 3 T.a_law_whole_ok T.fd_law_whole_ok ["reel", "rope", "text"] (spWholeOk T.C_Rope) := by
  have G_law_draw : FnOk P w K mg base CX0 1 T.a_law_draw T.fd_law_draw ["reel", "size"] spDraw := ok_draw T
  have G_law_number : FnOk P w K mg base CX0 1 T.a_law_number T.fd_law_number ["value"] spNumber := ok_number T
  have G_Rope_whole : FnOk P w K mg base CX0 1 T.a_Rope_whole T.fd_Rope_whole ["self"] (spWholeR T.C_Rope) := ok_Rope_whole T
  have G_Rope_char : FnOk P w K mg base CX0 1 T.a_Rope_char T.fd_Rope_char ["self", "index"] (spChar T.C_Rope) := ok_Rope_char T
  refine T.F_law_whole_ok.ok sc_law_whole_ok (fun vs H Q E h => ?_) (fun cdv A outer s H vs Q E hr h => ?_)
  · obtain ⟨r, t, z, rfl, _⟩ := h
    rfl
  · obtain ⟨r, t, z, rfl, hR, ⟨ht, ot, tz⟩, lz, q⟩ := h
    have hr_law_draw : Room 1 _ := hr.mono (by decide)
    have hr_law_number : Room 1 _ := hr.mono (by decide)
    have hr_Rope_whole : Room 1 _ := hr.mono (by decide)
    have hr_Rope_char : Room 1 _ := hr.mono (by decide)
    refine ⟨_, (pss_cons (ps_if (PW.pt (pw_or (pt_not (pt_val (pe_callB (C8.call_isC T.IC_Rope) (by rfl) T.m_isinstance (by decide +kernel) (pa_cons (pv 1) (pa_cons (pe_glob (v := .ref T.C_Rope) (by rfl) T.G_Rope rfl) pa_nil))))) (pw_or (pt_not (pt_val (pe_call G_law_number hr_law_number (by rfl) T.g_law_number T.F_law_number.kp T.b_law_number .nil pass0 (pa_cons (pe_fld (pv 1) rfl) pa_nil)))) (pw_or1 (pt_cmpR op_ne (pe_fld (pv 1) rfl) (pe_callB call_len_str (by rfl) T.m_len PySem.boot_len (pa_cons (pv 2) pa_nil)) (nomark _)))))) (pss_one (ps_ret pe_bl)) pss_nil)
      (pss_cons (ps_set (i := 3) sc_law_whole_ok.nd rfl (.inl rfl) (pe_meth0 (pv 1) T.CL_Rope T.ME_Ropewhole G_Rope_whole hr_Rope_whole T.b_Rope_whole .nil pass0))
      (pss_cons (ps_if (PW.pt (pw_or (pt_not (pt_val (pe_callB call_isi (by rfl) T.m_isinstance (by decide +kernel) (pa_cons (pv 3) (pa_cons (pe_bltn (v := .ty "str") (by rfl) T.m_str (by decide +kernel) rfl) pa_nil))))) (pw_or1 (pt_cmpR op_ne (pv 3) (pv 2) (nomark _))))) (pss_one (ps_ret pe_bl)) pss_nil)
      (pss_cons (ps_setLc (i := 4) (own := [("k", 5)]) (g := gName 5) (by rfl) sc_law_whole_ok.nd rfl rfl (sw_true rfl rfl rfl (by decide +kernel)) (pi_range1 (by rfl) T.m_range (pa_cons (pe_callB call_len_str (by rfl) T.m_len PySem.boot_len (pa_cons (pv 2) pa_nil)) pa_nil)) (blkOk_by (own := [("k", 5)]) (N := ["reel", "rope", "text", "told", "places", "k", "place", "sign"]) (sc := defScope s_law_whole_ok) (by decide +kernel)) (fun _ _ _ _ _ => pg_name (i := 5) sc_law_whole_ok.nd rfl (Or.inl rfl)) (fun _ _ _ _ _ => pts_nil) (fun _ _ _ _ _ => (pv 5)))
      (C8.pss_cut (ps_if (pt_cmpR op_gt (pe_callB call_len_str (by rfl) T.m_len PySem.boot_len (pa_cons (pv 2) pa_nil)) pe_int (nomark _)) (pss_one (ps_set (i := 4) sc_law_whole_ok.nd rfl (.inl rfl) (pe_op op_cat (pe_lst (pa_cons pe_int (pa_cons (pe_op op_sub (pe_callB call_len_str (by rfl) T.m_len PySem.boot_len (pa_cons (pv 2) pa_nil)) pe_int) pa_nil))) (pe_lc (own := [("k", 5)]) (g := gName 5) (by rfl) sc_law_whole_ok.nd (pi_range1 (by rfl) T.m_range (pa_cons pe_int pa_nil)) (blkOk_by (own := [("k", 5)]) (N := ["reel", "rope", "text", "told", "places", "k", "place", "sign"]) (sc := defScope s_law_whole_ok) (by decide +kernel)) (fun _ _ _ _ _ => pg_name (i := 5) sc_law_whole_ok.nd rfl (Or.inl rfl)) (fun _ _ _ _ _ => pts_nil) (fun _ _ _ _ _ => (pe_call G_law_draw hr_law_draw (by rfl) T.g_law_draw T.F_law_draw.kp T.b_law_draw .nil pass0 (pa_cons (pv 0) (pa_cons (pe_callB call_len_str (by rfl) T.m_len PySem.boot_len (pa_cons (pv 2) pa_nil)) pa_nil)))))))) pss_nil)
      (pss_cons (ps_for PassesOwn.never rfl (pi_list (pv 4)) (pg_name (i := 6) sc_law_whole_ok.nd rfl (.inl rfl)) (pss_cons (ps_set (i := 7) sc_law_whole_ok.nd rfl (.inl rfl) (pe_meth (pv 1) T.CL_Rope T.ME_Ropechar G_Rope_char hr_Rope_char T.b_Rope_char .nil pass0 (pa_cons (pv 6) pa_nil)))
      (pss_one (ps_if (PW.pt (pw_or (pt_not (pt_val (pe_callB call_isi (by rfl) T.m_isinstance (by decide +kernel) (pa_cons (pv 7) (pa_cons (pe_bltn (v := .ty "str") (by rfl) T.m_str (by decide +kernel) rfl) pa_nil))))) (pw_or1 (pt_cmpR op_ne (pv 7) (pe_ix ix_str (pv 2) (pv 6) (fun _ _ => rfl)) (nomark _))))) (pss_one (ps_ret pe_bl)) pss_nil))))
      (pss_one (ps_ret pe_bl)))))))), ?_⟩
    obtain ⟨dt, kt⟩ := ht.it
    have zl := len_cs z
    have tn : t.size = (cs z).length := by rw [← RT.txt_len, tz]
    refine ⟨_, rfl, _, _, _, rfl, kt, true, rfl, _, rfl, _, _, _, _, _, rfl, kt, T.CL_Rope, T.NA_Rope_size, r5n _ _ _ _ _, _, rfl, true, rfl, _, rfl, _, _, _, _, _, rfl, kt, T.CL_Rope, T.NA_Rope_size, r5n _ _ _ _ _, _, rfl, z, rfl, szM (by omega), rfl, _, rfl, itF (by rw [decide_eq_true (by rw [tn, zl])]; rfl) ?_⟩
    refine ⟨_, rfl, _, _, _, rfl, kt, r5w _ _ _ _ _, t, rfl, ht, ot, by omega, fun z' H1 s1 ez => ?_⟩
    obtain rfl : z' = z := cs_inj (by rw [ez, tz])
    refine ⟨_, rfl, _, _, _, _, true, rfl, .ty _, .base (.str _), kit_ty (by decide +kernel), true, rfl, _, rfl, _, rfl, rfl, _, rfl, itF (by rw [decide_eq_true rfl]; rfl) ?_⟩
    refine ⟨_, rfl, z', rfl, szM (by omega), _, rfl, by omega, by omega, fun D nD => ?_⟩
    have R1 := hR.sameR s1
    refine lc_range (lo := 0) (n := (z'.length : Int).toNat) (fun i H' => Same H1 H' ∧ ∃ ns : List Nat, H' D = some (.lst (nats ns)) ∧ ns.length = i ∧ ∀ n ∈ ns, n < (cs z').length)
      ⟨same_upd nD, [], upd_same, rfl, fun n h => absurd h List.not_mem_nil⟩ ?_ ?_
    · rintro i H2 hi ⟨s2, ns, hD, hl, hn⟩
      refine ⟨rfl, _, rfl, _, hD, sz2 (by unfold nats; rw [List.length_map]; omega), same_mut s2 nD, ns ++ [i], ?_, by rw [List.length_append, hl]; rfl, fun n h => ?_⟩
      · rw [upd_same, ← nats_snoc]
        rw [show (0 : Int) + (i : Int) = (i : Int) by omega]
      · rcases List.mem_append.mp h with h | h
        · exact hn n h
        · rw [List.mem_singleton.mp h]
          omega
    · rintro H2 ⟨s2, ns, hD, hl, hn⟩
      have s12 := s1.trans s2
      have R2 := hR.sameR s12
      refine ⟨fun σ H' => ReelAt H' r ∧ But r H H' ∧ ∃ (p : Addr) (ns : List Nat) (y5 y6 y7 : Option V), σ = [some (.ref r), some (.ref t.at), some (.str z'), some (.str z'), some (.ref p), y5, y6, y7] ∧ H' p = some (.lst (nats ns)) ∧ ∀ n ∈ ns, n < (cs z').length, ?_, ?_⟩
      · refine ⟨_, rfl, z', rfl, szM (by omega), _, _, rfl, rfl, _, rfl, ite2 (fun c => ?_) (fun c => ?_)⟩
        · have c1 : 40 < (cs z').length := by
            have := of_decide_eq_true c
            omega
          refine ⟨_, rfl, z', rfl, szM (by omega), _, _, rfl, rfl, by show 2 ≤ sizeLine; decide, fun p1 np1 => ?_⟩
          have hp1r : p1 ≠ r := (R2.ne np1).symm
          have b3 : But r H (upd H2 p1 (.lst [.int 0, .int ((z'.length : Int) - 1)])) := (But.of s12).trans (But.new np1)
          have R3 := R2.new (o := .lst [.int 0, .int ((z'.length : Int) - 1)]) np1
          refine ⟨_, rfl, by decide, by decide, fun D2 nD2 => ?_⟩
          have hD2r : D2 ≠ r := (R3.ne nD2).symm
          refine lc_range (lo := 0) (n := 10) (fun i H' => ReelAt H' r ∧ But r (upd H2 p1 (.lst [.int 0, .int ((z'.length : Int) - 1)])) H' ∧ ∃ ns : List Nat, H' D2 = some (.lst (nats ns)) ∧ ns.length = i ∧ ∀ n ∈ ns, n < (cs z').length)
            ⟨R3.new nD2, But.new nD2, [], upd_same, rfl, fun n h => absurd h List.not_mem_nil⟩ ?_ ?_
          · rintro i H3 hi ⟨R4, b4, ns2, hD2, hl2, hn2⟩
            refine ⟨rfl, _, rfl, _, rfl, z', rfl, szM (by omega), r, _, rfl, R4, by omega, fun v H4 v0 v1 b5 R5 => ?_⟩
            obtain ⟨k, rfl⟩ := nat_of v0
            have hD3 := b5 _ _ hD2r hD2
            refine ⟨_, hD3, sz2 (by unfold nats; rw [List.length_map]; omega), ?_, ?_, ns2 ++ [k], ?_, by rw [List.length_append, hl2]; rfl, fun n h => ?_⟩
            · obtain ⟨z1, c1, e1, e2⟩ := R5
              exact ⟨z1, c1, by rw [upd_ne hD2r.symm]; exact e1, e2⟩
            · exact fun b o n e => by
                rw [upd_ne (ne_of_none e nD2)]
                exact b5 b o n (b4 b o n e)
            · rw [upd_same, ← nats_snoc]
            · rcases List.mem_append.mp h with h | h
              · exact hn2 n h
              · rw [List.mem_singleton.mp h]
                omega
          · rintro H3 ⟨R4, b4, ns2, hD2, hl2, hn2⟩
            refine ⟨p1, D2, _, _, rfl, rfl, b4 _ _ hp1r upd_same, hD2, szM (by unfold nats; rw [List.length_map, hl2]; show 2 + 10 ≤ _; decide), fun p3 np3 => ?_⟩
            refine ⟨R4.new np3, (b3.trans b4).trans (But.new np3), p3, [0, (cs z').length - 1] ++ ns2, _, _, _, rfl, ?_, fun n h => ?_⟩
            · rw [upd_same]
              have e : (z'.length : Int) - 1 = (((cs z').length - 1 : Nat) : Int) := by omega
              rw [e]
              rfl
            · rcases List.mem_append.mp h with h | h
              · rcases List.mem_cons.mp h with h | h
                · omega
                · rw [List.mem_singleton.mp h]
                  omega
              · exact hn2 n h
        · exact ⟨R2, But.of s12, D, ns, _, _, _, rfl, hD, hn⟩
      · rintro σ H3 ⟨R3, b3, p, ns, y5, y6, y7, rfl, hp, hn⟩
        have ht3 := ht.but b3 hR
        obtain ⟨d3, k3⟩ := ht3.it
        refine ⟨_, rfl, p, rfl, ⟨_, SqL.of hp⟩, ?_⟩
        refine for_list (K := K) (a := p) (xs := nats ns) (fun i σ H' => H' = H3 ∧ ∃ (y6 y7 : Option V), σ = [some (.ref r), some (.ref t.at), some (.str z'), some (.str z'), some (.ref p), y5, y6, y7])
          ⟨rfl, _, _, rfl⟩ (fun i σ H' _ ⟨e, _⟩ => by rw [e]; exact SqL.of hp) ?_ ?_
        · rintro i x σ H4 hx ⟨rfl, y6, y7, rfl⟩
          obtain ⟨n, hm, rfl⟩ : ∃ n, n ∈ ns ∧ V.int (n : Int) = x := List.mem_map.mp (List.mem_of_getElem? hx)
          have ln := hn n hm
          have hc : (cs z')[n]? = some (cs z')[n] := List.getElem?_eq_getElem ln
          refine ⟨_, rfl, _, _, _, rfl, k3, r5k _ _ _ _ _, _, rfl, t, n, _, rfl, ht3, ot, by rw [tz]; exact hc, ?_⟩
          refine ⟨_, rfl, _, _, _, _, true, rfl, .ty _, .base (.str _), kit_ty (by decide +kernel), true, rfl, _, rfl, _, rfl, _, rfl, z', _, _, rfl, rfl, szM (by omega), atI_nat hc, rfl, _, rfl, itF (by rw [decide_eq_true rfl]; rfl) ?_⟩
          exact ⟨rfl, _, _, rfl⟩
        · rintro σ H4 ⟨rfl, y6, y7, rfl⟩
          exact q H4 b3 R3
/-! ### marks -/
def markL (t : RT) : List V := [.int (t.size : Int), .int (t.ht : Int), t.lf, t.rt, .str t.pc]
theorem mark_item (t : RT) : ∀ v ∈ markL t, OwnOp.itemB v := by
  intro v hv
  cases t with
  | leaf p z =>
    simp only [markL, List.mem_cons, List.not_mem_nil, or_false] at hv
    rcases hv with rfl | rfl | rfl | rfl | rfl <;> exact .inl rfl
  | node p a b =>
    simp only [markL, List.mem_cons, List.not_mem_nil, or_false] at hv
    rcases hv with rfl | rfl | rfl | rfl | rfl
    · exact .inl rfl
    · exact .inl rfl
    · exact .inr ⟨_, rfl⟩
    · exact .inr ⟨_, rfl⟩
    · exact .inl rfl
def spMarks (C : Addr) : Sp := fun vs H Q _ => ∃ t : RT, vs = [.ref t.at] ∧ RopeAt C H t ∧ ∀ p H', Same H H' → H p = none → H' p = some (.tup (markL t)) → Q (.ref p) H'
theorem ok_marks (T : Txt K mg) : FnOk P w K mg base CX0 1 T.a_law_marks T.fd_law_marks ["rope"] (spMarks T.C_Rope) := by
  refine T.F_law_marks.ok sc_law_marks (fun vs H Q E h => ?_) (fun cdv A outer s H vs Q E hr h => ?_)
  · obtain ⟨t, rfl, _⟩ := h
    rfl
  · obtain ⟨t, rfl, ht, q⟩ := h
    refine ⟨_, (pss_cons (ps_if (pt_not (pt_val (pe_callB (C8.call_isC T.IC_Rope) (by rfl) T.m_isinstance (by decide +kernel) (pa_cons (pv 0) (pa_cons (pe_glob (v := .ref T.C_Rope) (by rfl) T.G_Rope rfl) pa_nil))))) (pss_one (ps_ret (pe_tup pa_nil))) pss_nil)
      (pss_one (ps_ret (pe_tup (pa_cons (pe_fld (pv 0) rfl) (pa_cons (pe_fld (pv 0) rfl) (pa_cons (pe_fld (pv 0) rfl) (pa_cons (pe_fld (pv 0) rfl) (pa_cons (pe_fld (pv 0) rfl) pa_nil))))))))), ?_⟩
    obtain ⟨dt, kt⟩ := ht.it
    refine ⟨_, rfl, _, _, _, rfl, kt, true, rfl, iteF ?_⟩
    exact ⟨_, rfl, _, _, _, _, _, rfl, kt, T.CL_Rope, T.NA_Rope_size, r5n _ _ _ _ _, _, rfl, _, _, _, _, _, rfl, kt, T.CL_Rope, T.NA_Rope_height, r5h _ _ _ _ _, _, rfl, _, _, _, _, _, rfl, kt, T.CL_Rope, T.NA_Rope_left, r5a _ _ _ _ _, _, rfl, _, _, _, _, _, rfl, kt, T.CL_Rope, T.NA_Rope_right, r5b _ _ _ _ _, _, rfl, _, _, _, _, _, rfl, kt, T.CL_Rope, T.NA_Rope_piece, r5z _ _ _ _ _, by show 5 ≤ sizeLine; decide, fun p np => q p _ (same_upd np) np upd_same⟩

/-! ### refused edits, edited ropes -/
structure EdArg (C : Addr) (H : Hp) (t : RT) (l : Addr) (es : List Ed) : Prop where
  here : RopeAt C H t
  ok : t.Ok
  eds : EdsAt H l es
  short : Short es
  few : es.length ≤ 100
  lim : ∀ k, fitsL t.size (es.take k) → (appl t.txt (es.take k)).length < 16384
theorem Short.sized2 {es : List Ed} (h : Short es) : (∀ e ∈ es, e.len ≤ 2000) := fun e he => (h e he).1
def spRefused (C : Addr) : Sp := fun vs H Q _ => ∃ (t : RT) (l : Addr) (es : List Ed) (k : Nat), vs = [.ref t.at, .ref l] ∧ EdArg C H t l es ∧ unfit t.size es = some k ∧ ∀ p H', Same H H' → H' p = some (.tup [.int (k : Int), .bl true]) → Q (.ref p) H'
theorem ok_refused (T : Txt K mg) : FnOk P w K mg base CX0 91 T.a_law_refused T.fd_law_refused ["rope", "edits"] (spRefused T.C_Rope) := by
  have G_Rope_edited : FnOk P w K mg base (L2.CX P w) 90 T.a_Rope_edited T.fd_Rope_edited ["self", "edits"] (spEdited T.C_Rope T.C_EditError) := ok_Rope_edited T
  refine T.F_law_refused.ok sc_law_refused (fun vs H Q E h => ?_) (fun cdv A outer s H vs Q E hr h => ?_)
  · obtain ⟨t, l, es, k, rfl, _⟩ := h
    rfl
  · have hr_Rope_edited : Room 90 _ := hr
    obtain ⟨t, l, es, k, rfl, ha, hk, q⟩ := h
    refine ⟨_, (pss_cons (ps_try_as (i := 2) (Wout := fun _ _ _ _ => False) rfl rfl sc_law_refused.nd rfl rfl ⟨rfl, by decide, .inl T.G_EditError⟩ takes0 (fun W pn xe tk _ => (pss_one (ps_expr (OwnOp.pe_methT (pv 0) T.CL_Rope T.ME_Ropeedited G_Rope_edited hr_Rope_edited T.b_Rope_edited (fun σ => passAt tk σ) (pa_cons (pv 1) pa_nil))))) (fun a oe cls d pn hz hf => (pss_one (ps_ret (pe_tup (pa_cons (pe_xf T.E_EditError.xf T.n_EditError_index hz hf (pv 2)) (pa_cons (pe_and (pe_callB (call_isX hz hf) (by rfl) T.m_isinstance (by decide +kernel) (pa_cons (pv 2) (pa_cons (pe_glob (v := .ref T.C_MendedError) (by rfl) T.G_MendedError rfl) pa_nil))) (pe_and (pe_callB (call_isX hz hf) (by rfl) T.m_isinstance (by decide +kernel) (pa_cons (pv 2) (pa_cons (pe_bltn (v := .ty "ValueError") (by rfl) T.m_ValueError (by decide +kernel) rfl) pa_nil))) (pe_one (pe_not (pe_callB (call_isX hz hf) (by rfl) T.m_isinstance (by decide +kernel) (pa_cons (pv 2) (pa_cons (pe_glob (v := .ref T.C_Entangled) (by rfl) T.G_Entangled rfl) pa_nil))))))) pa_nil)))))))
      (pss_one (ps_ret (pe_tup (pa_cons (pe_un un_neg pe_int) (pa_cons pe_bl pa_nil)))))), ?_⟩
    obtain ⟨dt, kt⟩ := ha.here.it
    have few := ha.few
    refine ⟨_, rfl, _, _, _, rfl, kt, r5e _ _ _ _ _, _, rfl, t, l, es, rfl, ha.here, ha.ok, ha.eds, ha.short.sized, by omega, ha.short.sized2, ha.lim, fun hf u H1 iu => ?_, fun j hj d H1 sm nd hd => ?_⟩
    · rw [unfit_none.mpr hf] at hk
      cases hk
    · obtain rfl : k = j := Option.some.inj (hk.symm.trans hj)
      refine ⟨true, T.E_EditError.self, fun _ a ha => ?_, fun z => Bool.noConfusion z⟩
      refine ⟨_, rfl, rfl, rfl, d, _, _, rfl, hd, rfl, ?_⟩
      refine ⟨_, rfl, _, d, rfl, rfl, T.E_EditError.exc, _, _, true, _, rfl, .own _, hd, T.k_EditError_MendedError, true, rfl, iteT ?_⟩
      refine ⟨_, rfl, _, d, rfl, rfl, T.E_EditError.exc, _, _, true, _, rfl, .ty _, hd, T.k_EditError_ValueError, true, rfl, iteT ?_⟩
      refine ⟨_, rfl, _, d, rfl, rfl, T.E_EditError.exc, _, _, false, _, rfl, .own _, hd, T.k_EditError_Entangled, false, rfl, ?_⟩
      exact ⟨by show 2 ≤ sizeLine; decide, fun p np => q p _ (sm.trans (same_upd np)) upd_same⟩
def firstN (n : Nat) (es : List Ed) : Nat := (unfit n es).getD es.length
def spEditedL (C : Addr) : Sp := fun vs H Q _ => ∃ (r : Addr) (t : RT) (z : Str) (l : Addr) (es : List Ed), vs = [.ref r, .ref t.at, .str z, .ref l] ∧ ReelAt H r ∧ l ≠ r ∧ EdArg C H t l es ∧ t.txt = cs z ∧ (cs z).length ≤ 2000 ∧
  (∀ k, fitsL (cs z).length (es.take k) → (appl (cs z) (es.take k)).length ≤ 2000) ∧ ∀ u H', But r H H' → ReelAt H' r → RopeAt C H' u → u.Ok → u.txt = appl (cs z) (es.take (firstN (cs z).length es)) → Q (.ref u.at) H'
theorem ok_editedL (T : Txt K mg) : FnOk P w K mg base CX0 92 T.a_law_edited T.fd_law_edited ["reel", "rope", "text", "edits"] (spEditedL T.C_Rope) := by
  have G_Rope_edited : FnOk P w K mg base (L2.CX P w) 90 T.a_Rope_edited T.fd_Rope_edited ["self", "edits"] (spEdited T.C_Rope T.C_EditError) := ok_Rope_edited T
  have G_law_refused : FnOk P w K mg base CX0 91 T.a_law_refused T.fd_law_refused ["rope", "edits"] (spRefused T.C_Rope) := ok_refused T
  have G_law_first_unfit : FnOk P w K mg base CX0 1 T.a_law_first_unfit T.fd_law_first_unfit ["size", "edits"] spFirst := ok_first T
  have G_law_splice : FnOk P w K mg base CX0 1 T.a_law_splice T.fd_law_splice ["text", "edits"] spSplice := ok_splice T
  have G_law_whole_ok : FnOk P w K mg base CX0 3 T.a_law_whole_ok T.fd_law_whole_ok ["reel", "rope", "text"] (spWholeOk T.C_Rope) := ok_whole_ok T
  have G_law_number : FnOk P w K mg base CX0 1 T.a_law_number T.fd_law_number ["value"] spNumber := ok_number T
  refine T.F_law_edited.ok sc_law_edited (fun vs H Q E h => ?_) (fun cdv A outer s H vs Q E hr h => ?_)
  · obtain ⟨r, t, z, l, es, rfl, _⟩ := h
    rfl
  · have hr_Rope_edited : Room 90 _ := hr.mono (by decide)
    have hr_law_refused : Room 91 _ := hr
    have hr_law_first_unfit : Room 1 _ := hr.mono (by decide)
    have hr_law_splice : Room 1 _ := hr.mono (by decide)
    have hr_law_whole_ok : Room 3 _ := hr.mono (by decide)
    have hr_law_number : Room 1 _ := hr.mono (by decide)
    obtain ⟨r, t, z, l, es, rfl, hR, hlr, ha, tz, lz, lim, q⟩ := h
    refine ⟨_, (pss_cons (ps_set (i := 4) sc_law_edited.nd rfl (.inl rfl) (pe_call G_law_first_unfit hr_law_first_unfit (by rfl) T.g_law_first_unfit T.F_law_first_unfit.kp T.b_law_first_unfit .nil pass0 (pa_cons (pe_callB call_len_str (by rfl) T.m_len PySem.boot_len (pa_cons (pv 2) pa_nil)) (pa_cons (pv 3) pa_nil))))
      (pss_cons (ps_set (i := 5) sc_law_edited.nd rfl (.inl rfl) (pe_callTy call_list_of (by rfl) T.m_list (by decide +kernel) (pa_cons (pv 3) pa_nil)))
      (pss_cons (ps_if (pt_cmpR op_eq (pv 4) (pe_un un_neg pe_int) (nomark _)) (pss_cons (ps_set (i := 6) sc_law_edited.nd rfl (.inl rfl) (pe_meth (pv 1) T.CL_Rope T.ME_Ropeedited G_Rope_edited hr_Rope_edited T.b_Rope_edited .nil (passX0 rfl rfl) (pa_cons (pv 5) pa_nil)))
      (pss_cons (ps_if (pt_cmpR (op_neD hr.units) (pv 5) (pv 3) (nomark _)) (pss_one (ps_ret pe_non)) pss_nil)
      (pss_cons (ps_set (i := 7) sc_law_edited.nd rfl (.inl rfl) (pe_call G_law_splice hr_law_splice (by rfl) T.g_law_splice T.F_law_splice.kp T.b_law_splice .nil pass0 (pa_cons (pv 2) (pa_cons (pv 3) pa_nil))))
      (pss_cons (ps_expr (pe_bm PySem.F.plainAttrs_list PySem.F.slot_list_append PySem.F.type_list_append mt_append (pv 5) (pa_cons (pe_tup (pa_cons pe_int (pa_cons (pe_callB (call_min2 rfl) (by rfl) T.m_min (by decide +kernel) (pa_cons pe_int (pa_cons (pe_callB call_len_str (by rfl) T.m_len PySem.boot_len (pa_cons (pv 7) pa_nil)) pa_nil))) (pa_cons pe_str pa_nil)))) pa_nil)))
      (pss_cons (ps_if (pt_not (pt_val (pe_call G_law_whole_ok hr_law_whole_ok (by rfl) T.g_law_whole_ok T.F_law_whole_ok.kp T.b_law_whole_ok .nil pass0 (pa_cons (pv 0) (pa_cons (pe_meth (pv 1) T.CL_Rope T.ME_Ropeedited G_Rope_edited hr_Rope_edited T.b_Rope_edited .nil (passX0 rfl rfl) (pa_cons (pv 5) pa_nil)) (pa_cons (pe_op op_add_str pe_str (pe_slice sl_str (pv 7) (po_some pe_int) po_none)) pa_nil)))))) (pss_one (ps_ret pe_non)) pss_nil)
      (pss_one (ps_ret (pv 6)))))))) pss_nil)
      (pss_cons (ps_set (i := 8) sc_law_edited.nd rfl (.inl rfl) (pe_call G_law_refused hr_law_refused (by rfl) T.g_law_refused T.F_law_refused.kp T.b_law_refused .nil pass0 (pa_cons (pv 1) (pa_cons (pv 5) pa_nil))))
      (pss_cons (ps_if (PW.pt (pw_or (pt_cmpR (op_neD hr.units) (pv 5) (pv 3) (nomark _)) (pw_or (pt_not (pt_val (pe_call G_law_number hr_law_number (by rfl) T.g_law_number T.F_law_number.kp T.b_law_number .nil pass0 (pa_cons (pe_ix ix_tup (pv 8) pe_int (fun _ _ => rfl)) pa_nil)))) (pw_or (pt_cmpR op_ne (pe_ix ix_tup (pv 8) pe_int (fun _ _ => rfl)) (pv 4) (nomark _)) (pw_or1 (pt_cmpR op_notBl (pe_ix ix_tup (pv 8) pe_int (fun _ _ => rfl)) pe_bl (nomark _))))))) (pss_one (ps_ret pe_non)) pss_nil)
      (pss_one (ps_ret (pe_meth (pv 1) T.CL_Rope T.ME_Ropeedited G_Rope_edited hr_Rope_edited T.b_Rope_edited .nil (passX0 rfl rfl) (pa_cons (pe_slice sl_list (pv 3) po_none (po_some (pv 4))) pa_nil))))))))), ?_⟩
    have zl := len_cs z
    have few := ha.few
    have tn : t.size = (cs z).length := by rw [← RT.txt_len, tz]
    obtain ⟨us, hus, hue⟩ := id ha.eds
    refine ⟨_, rfl, z, rfl, szM (by omega), _, rfl, (cs z).length, l, es, by rw [zl]; rfl, ha.eds, ha.short, by omega, ?_⟩
    refine ⟨_, rfl, l, us, rfl, .inl (SqL.of hus), fun h nh => ?_⟩
    have s1 : Same H (upd H h (.lst us)) := same_upd nh
    have hE1 : EdsAt (upd H h (.lst us)) h es := ⟨us, upd_same, hue.mono fun b xs e => s1 b _ e⟩
    have hkt := (ha.here.same s1)
    obtain ⟨dt, kt⟩ := hkt.it
    refine ⟨_, rfl, 1, rfl, rfl, _, rfl, ite2 (fun c => ?_) (fun c => ?_)⟩
    · have hf : unfit (cs z).length es = none := by
        have h1 : unfitI (cs z).length es = -1 := V.int.inj (of_decide_eq_true c)
        unfold unfitI at h1
        cases hu : unfit (cs z).length es with
        | none => rfl
        | some k =>
          rw [hu] at h1
          have h1 : (k : Int) = -1 := h1
          omega
      have fts := unfit_none.mp hf
      have none0 : unfit t.size es = none := by rw [tn]; exact hf
      have ho : ∀ e ∈ es, TOk e.2.2 := fun e he => (ha.short e he).2
      refine ⟨_, rfl, _, _, _, rfl, kt, r5e _ _ _ _ _, _, rfl, t, h, es, rfl, hkt, ha.ok, hE1, ha.short.sized, by omega, ha.short.sized2, ha.lim, fun _ u H2 iu => ?_, fun k hk => by rw [none0] at hk; cases hk⟩
      have s12 := s1.trans iu.same
      have hE2 := hE1.mono iu.same
      have hL2 := ha.eds.mono s12
      refine ⟨_, rfl, _, rfl, .list (es.map edD), .list (es.map edD), hE2.dp, hL2.dp, edL_shaped ho, edL_shaped ho, _, rfl, itF (by rw [SeqAt.eqv_refl _ (edL_lay ho)]; rfl) ?_⟩
      have lim1 : (appl (cs z) es).length ≤ 2000 := by
        have := lim es.length (by rw [List.take_length]; exact fts)
        rwa [List.take_length] at this
      refine ⟨_, rfl, _, rfl, z, l, es, rfl, hL2, fts, fun k => Nat.le_trans (lim k (fitsL_take k fts)) (by decide), ?_⟩
      obtain ⟨due, hdue⟩ : ∃ due : Str, due = ⟨(appl (cs z) es).toArray⟩ := ⟨_, rfl⟩
      rw [← hdue]
      have cd : cs due = appl (cs z) es := by rw [hdue]
      have ld := len_cs due
      rw [cd] at ld
      have hh2 : H2 h = some (.lst us) := iu.same _ _ upd_same
      refine ⟨_, rfl, .inl ⟨rfl, _, SqL.of hh2⟩, _, rfl, due, rfl, szM (by omega), _, _, rfl, by show 3 ≤ sizeLine; decide, fun g ng => ?_⟩
      have em : (if (due.length : Int) < 1 then (due.length : Int) else 1) = ((min 1 (appl (cs z) es).length : Nat) : Int) := by split <;> omega
      rw [em]
      have lus := paired_len hue
      have s3 := same_upd (o := .tup [.int 0, .int ((min 1 (appl (cs z) es).length : Nat) : Int), .str "x"]) ng
      refine ⟨h, _, _, rfl, rfl, s3 _ _ hh2, sz2 (by omega), ?_⟩
      have s4 : Same H (upd (upd H2 g (.tup [.int 0, .int ((min 1 (appl (cs z) es).length : Nat) : Int), .str "x"])) h (.lst (us ++ [.ref g]))) := same_mut (s12.trans s3) nh
      have ht4 := ha.here.same s4
      obtain ⟨d4, k4⟩ := ht4.it
      have tup4 : Tups H2 (upd (upd H2 g (.tup [.int 0, .int ((min 1 (appl (cs z) es).length : Nat) : Int), .str "x"])) h (.lst (us ++ [.ref g]))) := (Tups.new ng).trans (Tups.mut (s3 _ _ hh2))
      have hE4 : EdsAt (upd (upd H2 g (.tup [.int 0, .int ((min 1 (appl (cs z) es).length : Nat) : Int), .str "x"])) h (.lst (us ++ [.ref g]))) h (es ++ [((0 : Int), ((min 1 (appl (cs z) es).length : Nat) : Int), ("x" : Str))]) := by
        refine ⟨_, upd_same, paired_app ((hue.mono fun b xs e => s12 b _ e).mono tup4) (.cons ⟨g, rfl, (Tups.mut (s3 _ _ hh2)) _ _ upd_same⟩ .nil)⟩
      have tx : TOk ("x" : Str) := tok_of (by decide +kernel)
      have sh4 : Short (es ++ [((0 : Int), ((min 1 (appl (cs z) es).length : Nat) : Int), ("x" : Str))]) := fun e he => by
        rcases List.mem_append.mp he with he | he
        · exact ha.short e he
        · rw [List.mem_singleton.mp he]
          exact ⟨by show 1 ≤ 2000; decide, tx⟩
      have l4 : (es ++ [((0 : Int), ((min 1 (appl (cs z) es).length : Nat) : Int), ("x" : Str))]).length = es.length + 1 := by rw [List.length_append]; rfl
      have spl : spl1 (appl (cs z) es) ((0 : Int), ((min 1 (appl (cs z) es).length : Nat) : Int), ("x" : Str)) = cs "x" ++ (appl (cs z) es).drop 1 := by
        show (appl (cs z) es).take 0 ++ cs "x" ++ (appl (cs z) es).drop (min 1 (appl (cs z) es).length) = _
        rw [List.take_zero, List.nil_append]
        congr 1
        by_cases c0 : (appl (cs z) es).length = 0
        · rw [List.eq_nil_of_length_eq_zero c0]
          rfl
        · rw [show min 1 (appl (cs z) es).length = 1 by omega]
      have cx : (cs ("x" : Str)).length = 1 := rfl
      have lsp : (cs ("x" : Str) ++ (appl (cs z) es).drop 1).length ≤ 2000 := by
        rw [List.length_append, List.length_drop]
        omega
      have fts4 : fitsL t.size (es ++ [((0 : Int), ((min 1 (appl (cs z) es).length : Nat) : Int), ("x" : Str))]) := by
        rw [tn]
        refine (fitsL_snoc _ _ _).mpr ⟨fts, by show (0 : Int) ≤ 0; decide, ?_, ?_⟩
        · show (0 : Int) ≤ ((min 1 (appl (cs z) es).length : Nat) : Int)
          omega
        · rw [← appl_len fts]
          show ((min 1 (appl (cs z) es).length : Nat) : Int) ≤ _
          omega
      have lim4 : ∀ k, fitsL t.size ((es ++ [((0 : Int), ((min 1 (appl (cs z) es).length : Nat) : Int), ("x" : Str))]).take k) → (appl t.txt ((es ++ [((0 : Int), ((min 1 (appl (cs z) es).length : Nat) : Int), ("x" : Str))]).take k)).length < 16384 := fun k hk => by
        by_cases ck : k ≤ es.length
        · rw [List.take_append_of_le_length ck] at hk ⊢
          exact ha.lim k hk
        · rw [List.take_of_length_le (by omega), appl_snoc, tz, spl]
          omega
      refine ⟨_, rfl, _, rfl, _, _, _, rfl, k4, r5e _ _ _ _ _, _, rfl, t, h, _, rfl, ht4, ha.ok, hE4, sh4.sized, by omega, sh4.sized2, lim4, fun _ v H5 iv => ?_, fun k hk => by rw [unfit_none.mpr fts4] at hk; cases hk⟩
      refine ⟨_, rfl, _, rfl, due, rfl, szM (by omega), _, _, rfl, rfl, szM ?_, ?_⟩
      · have := cut_len due (some 1) none
        rw [← len_cs, cd] at this
        show 1 + _ ≤ _
        omega
      have s5 := s4.trans iv.same
      have cz : cs ("x" ++ cutS due (some 1) none) = cs "x" ++ (appl (cs z) es).drop 1 := by
        rw [cs_app, show (1 : Int) = ((1 : Nat) : Int) from rfl, cut_suf, cd]
      refine ⟨r, v, _, rfl, hR.sameR s5, ⟨iv.here, iv.ok, ?_⟩, ?_, fun H6 b6 R6 => ⟨true, rfl, iteF ?_⟩⟩
      · rw [iv.txt, appl_snoc, tz, spl, cz]
      · rw [cz]
        exact lsp
      · refine ⟨_, rfl, q u H6 ((But.of s5).trans b6) R6 ?_ iu.ok ?_⟩
        · have s25 : Same H2 H5 → RopeAt T.C_Rope H5 u := fun s => iu.here.same s
          have mu : RopeAt T.C_Rope (upd (upd H2 g (.tup [.int 0, .int ((min 1 (appl (cs z) es).length : Nat) : Int), .str "x"])) h (.lst (us ++ [.ref g]))) u := (iu.here.same s3).mutL (s3 _ _ hh2)
          exact (mu.same iv.same).but b6 (hR.sameR s5)
        · unfold firstN
          rw [hf, iu.txt, tz]
          show appl (cs z) es = appl (cs z) (es.take es.length)
          rw [List.take_length]
    · obtain ⟨k, hk⟩ : ∃ k, unfit (cs z).length es = some k := by
        cases hu : unfit (cs z).length es with
        | some k => exact ⟨k, rfl⟩
        | none =>
          exfalso
          apply c
          unfold unfitI
          rw [hu]
          exact decide_eq_true rfl
      have eI : unfitI (cs z).length es = (k : Int) := by
        unfold unfitI
        rw [hk]
      have ho : ∀ e ∈ es, TOk e.2.2 := fun e he => (ha.short e he).2
      have hkt2 : unfit t.size es = some k := by rw [tn]; exact hk
      have ut := unfit_take hk
      refine ⟨_, rfl, _, rfl, t, h, es, k, rfl, ⟨hkt, ha.ok, hE1, ha.short, ha.few, ha.lim⟩, hkt2, fun p H2 s2 hp => ?_⟩
      have s12 := s1.trans s2
      have hE2 := hE1.mono s2
      have hL2 := ha.eds.mono s12
      refine ⟨_, rfl, _, rfl, .list (es.map edD), .list (es.map edD), hE2.dp, hL2.dp, edL_shaped ho, edL_shaped ho, _, rfl, itF (by rw [SeqAt.eqv_refl _ (edL_lay ho)]; rfl) ?_⟩
      refine ⟨_, rfl, p, _, 0, .int (k : Int), rfl, rfl, SqT.of hp, atI_nat (j := 0) rfl, _, rfl, true, rfl, iteF ?_⟩
      refine ⟨_, rfl, p, _, 0, .int (k : Int), rfl, rfl, SqT.of hp, atI_nat (j := 0) rfl, _, rfl, rfl, _, rfl, itF (by rw [eI, decide_eq_true rfl]; rfl) ?_⟩
      refine ⟨_, rfl, p, _, 1, .bl true, rfl, rfl, SqT.of hp, atI_nat (j := 1) rfl, true, true, rfl, rfl, _, rfl, itF rfl ?_⟩
      have ht2 := ha.here.same s12
      obtain ⟨d2, k2⟩ := ht2.it
      refine ⟨_, rfl, _, _, _, rfl, k2, r5e _ _ _ _ _, _, rfl, _, rfl, _, rfl, l, us, rfl, SqL.of (s12 _ _ hus), fun g ng => ?_⟩
      rw [eI, cutV_pre]
      have s3 := same_upd (o := .lst (us.take k)) ng
      have hE3 : EdsAt (upd H2 g (.lst (us.take k))) g (es.take k) := ⟨_, upd_same, paired_take k (hue.mono fun b xs e => s3 b _ (s12 b _ e))⟩
      have sh3 : Short (es.take k) := fun e he => ha.short e (List.mem_of_mem_take he)
      have ftk : fitsL t.size (es.take k) := by rw [tn]; exact ut.1
      refine ⟨t, g, es.take k, rfl, ht2.same s3, ha.ok, hE3, sh3.sized, by rw [List.length_take]; omega, sh3.sized2, fun j hj => ?_, fun _ u H5 iu => ?_, fun j hj => by rw [unfit_none.mpr ftk] at hj; cases hj⟩
      · rw [List.take_take] at hj ⊢
        exact ha.lim _ hj
      · have s5 := (s12.trans s3).trans iu.same
        refine q u H5 (But.of s5) (hR.sameR s5) iu.here iu.ok ?_
        unfold firstN
        rw [hk, iu.txt, tz]
        rfl

/-! ### a deed -/
theorem sic {tt : L2.TT} {a c : L2.TS} {D : L2.Ends} {σ : L2.St} {H : Hp} (R : Hp → Prop) (A B : Prop) (h : ∀ Qb : Bool → Hp → Prop, (∀ c H2, R H2 → (c = true → A) → (c = false → B) → Qb c H2) → tt σ H Qb) (ha : A → ∀ H2, R H2 → a { D with nx := fun σ2 H2 => c D σ2 H2 } σ H2) (hb : B → ∀ H2, R H2 → c D σ H2) :
    tSeq (tIfS tt a tNext) c D σ H := by
  show tIfS tt a tNext { D with nx := fun σ2 H2 => c D σ2 H2 } σ H
  refine h _ (fun c H2 r i j => ?_)
  cases c
  · exact iteF (hb (j rfl) H2 r)
  · exact iteT (ha (i rfl) H2 r)
theorem nx_seq {t u : L2.TS} {D : L2.Ends} {r : VK} {k c : L2.St → Hp → Prop} {σ : L2.St} {H : Hp} (h : tSeq t u D σ H) : tNext ⟨tSeq t u D, r, k, c⟩ σ H := h
theorem first_fits (n : Nat) (es : List Ed) : fitsL n (es.take (firstN n es)) := by
  unfold firstN
  cases h : unfit n es with
  | none =>
    show fitsL n (es.take es.length)
    rw [List.take_length]
    exact unfit_none.mp h
  | some k => exact (unfit_take h).1
theorem appl_toks : ∀ {es : List Ed} {t : List Nat}, (∀ e ∈ es, TOk e.2.2) → (∀ c ∈ t, c < 1114112) → ∀ c ∈ appl t es, c < 1114112
  | [], _, _, h2 => h2
  | e :: es, t, h1, h2 => appl_toks (es := es) (t := spl1 t e) (fun x hx => h1 x (List.mem_cons_of_mem _ hx)) (spl_tok h2 (h1 e List.mem_cons_self))
def spDeed (C : Addr) : Sp := fun vs H Q _ => ∃ (r a b : Addr) (t : RT) (z : Str) (ts : List RT) (zs : List Str), vs = [.ref r, .ref t.at, .str z, .ref a, .ref b] ∧ ReelAt H r ∧ RopeFor C H t z ∧ TOk z ∧ (cs z).length ≤ 2000 ∧ a ≠ r ∧ b ≠ r ∧ H a = some (.lst (ts.map atV)) ∧ H b = some (.lst (zs.map V.str)) ∧
  Paired (RopeFor C H) ts zs ∧ 1 ≤ zs.length ∧ (∀ y ∈ zs, TOk y) ∧ (∀ y ∈ zs, (cs y).length ≤ 2000) ∧
  ∀ p u y H', But r H H' → ReelAt H' r → p ≠ r → RopeFor C H' u y → TOk y → (cs y).length ≤ 2000 → H' p = some (.tup [.ref u.at, .str y]) → Q (.ref p) H'
theorem ok_deed (T : Txt K mg) : FnOk P w K mg base CX0 93 T.a_law_deed T.fd_law_deed ["reel", "rope", "text", "ropes", "texts"] (spDeed T.C_Rope) := by
  have G_law_draw : FnOk P w K mg base CX0 1 T.a_law_draw T.fd_law_draw ["reel", "size"] spDraw := ok_draw T
  have G_law_pick : FnOk P w K mg base CX0 2 T.a_law_pick T.fd_law_pick ["reel", "row"] (spPick K) := ok_pick T
  have G_law_edit_row : FnOk P w K mg base CX0 5 T.a_law_edit_row T.fd_law_edit_row ["reel", "text", "count"] spRow3 := ok_edit_row3 T
  have G_law_planted : FnOk P w K mg base CX0 5 T.a_law_planted T.fd_law_planted ["reel", "text", "edits", "many"] spPlanted := ok_planted T
  have G_law_first_unfit : FnOk P w K mg base CX0 1 T.a_law_first_unfit T.fd_law_first_unfit ["size", "edits"] spFirst := ok_first T
  have G_law_splice : FnOk P w K mg base CX0 1 T.a_law_splice T.fd_law_splice ["text", "edits"] spSplice := ok_splice T
  have G_law_edited : FnOk P w K mg base CX0 92 T.a_law_edited T.fd_law_edited ["reel", "rope", "text", "edits"] (spEditedL T.C_Rope) := ok_editedL T
  have G_Rope_cut : FnOk P w K mg base CX0 89 T.a_Rope_cut T.fd_Rope_cut ["self", "start", "end"] (spCut T.C_Rope 28) := ok_Rope_cut T 28
  have G_Rope_joined : FnOk P w K mg base CX0 60 T.a_Rope_joined T.fd_Rope_joined ["self", "other"] (spJoin T.C_Rope 56) := ok_Rope_joined T 56
  refine T.F_law_deed.ok sc_law_deed (fun vs H Q E h => ?_) (fun cdv A outer s H vs Q E hr h => ?_)
  · obtain ⟨r, a, b, t, z, ts, zs, rfl, _⟩ := h
    rfl
  · have hr_law_draw : Room 1 _ := hr.mono (by decide)
    have hr_law_pick : Room 2 _ := hr.mono (by decide)
    have hr_law_edit_row : Room 5 _ := hr.mono (by decide)
    have hr_law_planted : Room 5 _ := hr.mono (by decide)
    have hr_law_first_unfit : Room 1 _ := hr.mono (by decide)
    have hr_law_splice : Room 1 _ := hr.mono (by decide)
    have hr_law_edited : Room 92 _ := hr
    have hr_Rope_cut : Room 89 _ := hr.mono (by decide)
    have hr_Rope_joined : Room 60 _ := hr.mono (by decide)
    obtain ⟨r, a, b, t, z, ts, zs, rfl, hR, ⟨ht, ot, tz⟩, oz, lz, har, hbr, ha, hb, hp, lzs, ozs, lims, q⟩ := h
    refine ⟨_, (pss_cons (ps_set (i := 5) sc_law_deed.nd rfl (.inl rfl) (pe_call G_law_draw hr_law_draw (by rfl) T.g_law_draw T.F_law_draw.kp T.b_law_draw .nil pass0 (pa_cons (pv 0) (pa_cons pe_int pa_nil))))
      (pss_cons (ps_if (pt_cmpR op_lt (pv 5) pe_int (nomark _)) (pss_cons (ps_set (i := 6) sc_law_deed.nd rfl (.inl rfl) (pe_call G_law_edit_row hr_law_edit_row (by rfl) T.g_law_edit_row T.F_law_edit_row.kp T.b_law_edit_row .nil pass0 (pa_cons (pv 0) (pa_cons (pv 2) (pa_cons (pe_call G_law_pick hr_law_pick (by rfl) T.g_law_pick T.F_law_pick.kp T.b_law_pick .nil pass0 (pa_cons (pv 0) (pa_cons (pe_lst (pa_cons pe_int (pa_cons pe_int (pa_cons pe_int (pa_cons pe_int (pa_cons pe_int pa_nil)))))) pa_nil))) pa_nil)))))
      (C8.pss_cut (ps_if (pt_cmpR op_eq (pv 5) pe_int (nomark _)) (pss_one (ps_set (i := 6) sc_law_deed.nd rfl (.inl rfl) (pe_call G_law_planted hr_law_planted (by rfl) T.g_law_planted T.F_law_planted.kp T.b_law_planted .nil pass0 (pa_cons (pv 0) (pa_cons (pv 2) (pa_cons (pv 6) (pa_cons (pe_op op_add pe_int (pe_call G_law_draw hr_law_draw (by rfl) T.g_law_draw T.F_law_draw.kp T.b_law_draw .nil pass0 (pa_cons (pv 0) (pa_cons pe_int pa_nil)))) pa_nil))))))) pss_nil)
      (pss_cons (ps_set (i := 7) sc_law_deed.nd rfl (.inl rfl) (pe_call G_law_first_unfit hr_law_first_unfit (by rfl) T.g_law_first_unfit T.F_law_first_unfit.kp T.b_law_first_unfit .nil pass0 (pa_cons (pe_callB call_len_str (by rfl) T.m_len PySem.boot_len (pa_cons (pv 2) pa_nil)) (pa_cons (pv 6) pa_nil))))
      (C8.pss_cut (ps_if (pt_cmpR op_eq (pv 7) (pe_un un_neg pe_int) (nomark _)) (pss_one (ps_set (i := 7) sc_law_deed.nd rfl (.inl rfl) (pe_callB call_len_seq (by rfl) T.m_len PySem.boot_len (pa_cons (pv 6) pa_nil)))) pss_nil)
      (pss_one (ps_ret (pe_tup (pa_cons (pe_call G_law_edited hr_law_edited (by rfl) T.g_law_edited T.F_law_edited.kp T.b_law_edited .nil pass0 (pa_cons (pv 0) (pa_cons (pv 1) (pa_cons (pv 2) (pa_cons (pv 6) pa_nil))))) (pa_cons (pe_call G_law_splice hr_law_splice (by rfl) T.g_law_splice T.F_law_splice.kp T.b_law_splice .nil pass0 (pa_cons (pv 2) (pa_cons (pe_slice sl_list (pv 6) po_none (po_some (pv 7))) pa_nil))) pa_nil))))))))) pss_nil)
      (pss_cons (ps_if (pt_cmpR op_eq (pv 5) pe_int (nomark _)) (pss_cons (ps_set (i := 8) sc_law_deed.nd rfl (.inl rfl) (pe_callB cr_sorted (by rfl) T.m_sorted (by decide +kernel) (pa_cons (pe_lst (pa_cons (pe_call G_law_draw hr_law_draw (by rfl) T.g_law_draw T.F_law_draw.kp T.b_law_draw .nil pass0 (pa_cons (pv 0) (pa_cons (pe_op op_add (pe_callB call_len_str (by rfl) T.m_len PySem.boot_len (pa_cons (pv 2) pa_nil)) pe_int) pa_nil))) (pa_cons (pe_call G_law_draw hr_law_draw (by rfl) T.g_law_draw T.F_law_draw.kp T.b_law_draw .nil pass0 (pa_cons (pv 0) (pa_cons (pe_op op_add (pe_callB call_len_str (by rfl) T.m_len PySem.boot_len (pa_cons (pv 2) pa_nil)) pe_int) pa_nil))) pa_nil))) pa_nil)))
      (C8.pss_cut (ps_if (pt_cmpR op_eq (pe_call G_law_draw hr_law_draw (by rfl) T.g_law_draw T.F_law_draw.kp T.b_law_draw .nil pass0 (pa_cons (pv 0) (pa_cons pe_int pa_nil))) pe_int (nomark _)) (pss_one (ps_set (i := 8) sc_law_deed.nd rfl (.inl rfl) (pe_lst (pa_cons (pe_op op_sub (pe_callB call_len_str (by rfl) T.m_len PySem.boot_len (pa_cons (pv 2) pa_nil)) (pe_ix ix_list (pv 8) pe_int (fun _ _ => rfl))) (pa_cons (pe_op op_sub (pe_callB call_len_str (by rfl) T.m_len PySem.boot_len (pa_cons (pv 2) pa_nil)) (pe_ix ix_list (pv 8) pe_int (fun _ _ => rfl))) pa_nil))))) pss_nil)
      (pss_one (ps_ret (pe_tup (pa_cons (pe_meth (pv 1) T.CL_Rope T.ME_Ropecut G_Rope_cut hr_Rope_cut T.b_Rope_cut .nil pass0 (pa_cons (pe_ix ix_list (pv 8) pe_int (fun _ _ => rfl)) (pa_cons (pe_ix ix_list (pv 8) pe_int (fun _ _ => rfl)) pa_nil))) (pa_cons (pe_slice sl_str (pv 2) (po_some (pe_ix ix_list (pv 8) pe_int (fun _ _ => rfl))) (po_some (pe_ix ix_list (pv 8) pe_int (fun _ _ => rfl)))) pa_nil))))))) pss_nil)
      (pss_cons (ps_if (PW.pt (pw_and (pt_cmpR op_eq (pv 5) pe_int (nomark _)) (pw_and (pt_cmpR op_notN (pe_fld (pv 1) rfl) pe_non (nomark _)) (pw_and1 (pt_cmpR op_eq (pe_call G_law_draw hr_law_draw (by rfl) T.g_law_draw T.F_law_draw.kp T.b_law_draw .nil pass0 (pa_cons (pv 0) (pa_cons pe_int pa_nil))) pe_int (nomark _)))))) (pss_cons (ps_if (pt_cmpR op_eq (pe_call G_law_draw hr_law_draw (by rfl) T.g_law_draw T.F_law_draw.kp T.b_law_draw .nil pass0 (pa_cons (pv 0) (pa_cons pe_int pa_nil))) pe_int (nomark _)) (pss_one (ps_ret (pe_tup (pa_cons (pe_fld (pv 1) rfl) (pa_cons (pe_slice sl_str (pv 2) po_none (po_some (pe_fld (pe_fld (pv 1) rfl) rfl))) pa_nil))))) pss_nil)
      (pss_one (ps_ret (pe_tup (pa_cons (pe_fld (pv 1) rfl) (pa_cons (pe_slice sl_str (pv 2) (po_some (pe_fld (pe_fld (pv 1) rfl) rfl)) po_none) pa_nil)))))) pss_nil)
      (pss_cons (ps_set (i := 9) sc_law_deed.nd rfl (.inl rfl) (pe_call G_law_draw hr_law_draw (by rfl) T.g_law_draw T.F_law_draw.kp T.b_law_draw .nil pass0 (pa_cons (pv 0) (pa_cons (pe_callB call_len_seq (by rfl) T.m_len PySem.boot_len (pa_cons (pv 3) pa_nil)) pa_nil))))
      (pss_cons (ps_if (pt_cmpR op_gt (pe_op op_add (pe_callB call_len_str (by rfl) T.m_len PySem.boot_len (pa_cons (pv 2) pa_nil)) (pe_callB call_len_str (by rfl) T.m_len PySem.boot_len (pa_cons (pe_ix ix_list (pv 4) (pv 9) (fun _ _ => rfl)) pa_nil))) pe_int (nomark _)) (pss_one (ps_ret (pe_tup (pa_cons (pv 1) (pa_cons (pv 2) pa_nil))))) pss_nil)
      (pss_one (ps_ret (pe_tup (pa_cons (pe_meth (pv 1) T.CL_Rope T.ME_Ropejoined G_Rope_joined hr_Rope_joined T.b_Rope_joined .nil pass0 (pa_cons (pe_ix ix_list (pv 3) (pv 9) (fun _ _ => rfl)) pa_nil)) (pa_cons (pe_op op_add_str (pv 2) (pe_ix ix_list (pv 4) (pv 9) (fun _ _ => rfl))) pa_nil))))))))))), ?_⟩
    have zl := len_cs z
    have tn : t.size = (cs z).length := by rw [← RT.txt_len, tz]
    have bt := ot.low (by omega)
    refine ⟨_, rfl, r, 6, rfl, hR, by decide, fun dd H1 d0 d1 b1 R1 => ?_⟩
    have ht1 := ht.but b1 hR
    refine ⟨_, rfl, _, _, rfl, rfl, _, rfl, ite2 (fun c => ?_) (fun c => ?_)⟩
    · refine ⟨_, rfl, _, rfl, _, rfl, by show 5 ≤ sizeLine; decide, fun p np => ?_⟩
      refine ⟨r, _, rfl, R1.new np, .inr ⟨p, _, rfl, (R1.ne np).symm, SqL.of upd_same, by show 0 < 5; decide, fun v H2 hv b2 R2 => ?_⟩⟩
      obtain ⟨m, rfl, m0, m1⟩ := intsIn_mem (lo := 0) (hi := 4) (by decide +kernel) v hv
      have b2' : But r H H2 := b1.trans ((But.new np).trans b2)
      refine ⟨r, z, m, rfl, R2, lz, oz, m0, by omega, fun l H3 us es nl hl he le bd ft lim b3 R3 => ?_⟩
      have hlr : l ≠ r := (R2.ne nl).symm
      have b3' := b2'.trans b3
      have sh : Short es := fun e h => ⟨(bd e h).2.2.1, (bd e h).2.2.2⟩
      refine ⟨fun σ H' => ReelAt H' r ∧ But r H H' ∧ ∃ (l : Addr) (us : List V) (es : List Ed), σ = [some (.ref r), some (.ref t.at), some (.str z), some (.ref a), some (.ref b), some (.int dd), some (.ref l), none, none, none] ∧ l ≠ r ∧ H' l = some (.lst us) ∧ EdsIn H' us es ∧ es.length ≤ 10 ∧ Short es ∧ (∀ k, fitsL (cs z).length (es.take k) → (appl (cs z) (es.take k)).length ≤ 2000), ?_, ?_⟩
      · refine ⟨_, rfl, rfl, _, rfl, ite2 (fun c => ?_) (fun c => ?_)⟩
        · refine ⟨_, rfl, _, rfl, _, rfl, _, rfl, r, 2, rfl, R3, by decide, fun w H4 w0 w1 b4 R4 => ⟨_, _, rfl, rfl, ?_⟩⟩
          have hl4 := b4 _ _ hlr hl
          refine ⟨r, l, z, 1 + w, us, es, rfl, R4, hl4, hlr, he.mono (b4.tups R3), sh, ft, lz, by omega, by omega, by omega, fun l' H5 us' es' h1 h2 h3 h4 h5 h6 b5 R5 => ?_⟩
          refine ⟨R5, (b3'.trans b4).trans b5, l', us', es', rfl, h2, h1, h3, by omega, h5, fun k hk => ?_⟩
          rw [h6 k hk]
          exact lim k
        · exact ⟨R3, b3', l, us, es, rfl, hlr, hl, he, by omega, sh, fun k _ => lim k⟩
      · rintro σ H4 ⟨R4, b4, l, us, es, rfl, hlr, hl, he, le, sh, lim⟩
        refine ⟨_, rfl, z, rfl, szM (by omega), _, rfl, (cs z).length, l, es, by rw [zl]; rfl, ⟨us, hl, he⟩, sh, by omega, ?_⟩
        refine ⟨fun σ H' => H' = H4 ∧ σ = [some (.ref r), some (.ref t.at), some (.str z), some (.ref a), some (.ref b), some (.int dd), some (.ref l), some (.int ((firstN (cs z).length es : Nat) : Int)), none, none], ?_, ?_⟩
        · refine ⟨_, rfl, 1, rfl, rfl, _, rfl, ite2 (fun c => ?_) (fun c => ?_)⟩
          · have hu : unfit (cs z).length es = none := by
              have h1 : unfitI (cs z).length es = -1 := V.int.inj (of_decide_eq_true c)
              unfold unfitI at h1
              cases hu : unfit (cs z).length es with
              | none => rfl
              | some k =>
                rw [hu] at h1
                have h1 : (k : Int) = -1 := h1
                omega
            refine ⟨_, rfl, l, _, rfl, .inl (SqL.of hl), rfl, ?_⟩
            have lu := paired_len he
            unfold firstN
            rw [hu]
            show [some (V.ref r), some (.ref t.at), some (.str z), some (.ref a), some (.ref b), some (.int dd), some (.ref l), some (.int (us.length : Int)), none, none] = _
            rw [lu]
            rfl
          · refine ⟨rfl, ?_⟩
            cases hu : unfit (cs z).length es with
            | none =>
              exfalso
              apply c
              unfold unfitI
              rw [hu]
              exact decide_eq_true rfl
            | some k =>
              unfold firstN unfitI
              rw [hu]
              rfl
        · rintro σ H5 ⟨rfl, rfl⟩
          refine ⟨_, rfl, _, rfl, _, rfl, _, rfl, r, t, z, l, es, rfl, R4, hlr, ⟨ht.but b4 hR, ot, ⟨us, hl, he⟩, sh, by omega, fun k hk => ?_⟩, tz, lz, lim, fun u H6 b6 R6 hu ou xu => ?_⟩
          · rw [tz]
            rw [tn] at hk
            exact Nat.lt_of_le_of_lt (lim k hk) (by decide)
          have hl6 := b6 _ _ hlr hl
          have ff := first_fits (cs z).length es
          refine ⟨_, rfl, _, rfl, _, rfl, _, rfl, l, us, rfl, SqL.of hl6, fun g ng => ?_⟩
          rw [cutV_pre]
          have s7 := same_upd (o := .lst (us.take (firstN (cs z).length es))) ng
          refine ⟨z, g, es.take (firstN (cs z).length es), rfl, ⟨_, upd_same, paired_take _ ((he.mono (b6.tups R4)).mono fun b xs e => s7 b _ e)⟩, ff, fun k => ?_, by show 2 ≤ sizeLine; decide, fun g2 ng2 => ?_⟩
          · have h7 := fitsL_take k ff
            rw [List.take_take] at h7 ⊢
            exact Nat.le_trans (lim _ h7) (by decide)
          · have s8 := s7.trans (same_upd (o := .tup [.ref u.at, .str ⟨(appl (cs z) (es.take (firstN (cs z).length es))).toArray⟩]) ng2)
            refine q g2 u ⟨(appl (cs z) (es.take (firstN (cs z).length es))).toArray⟩ _ ((b4.trans b6).trans (But.of s8)) (R6.sameR s8) ((R6.sameR s7).ne ng2).symm ⟨hu.same s8, ou, by rw [xu]⟩ ?_ (lim _ ff) upd_same
            exact appl_toks (fun e h => (sh e (List.mem_of_mem_take h)).2) oz
    refine ⟨_, rfl, rfl, _, rfl, ite2 (fun c => ?_) (fun c => ?_)⟩
    · refine ⟨_, rfl, _, rfl, z, rfl, szM (by omega), _, _, rfl, rfl, r, _, rfl, R1, by omega, fun p1 H2 p10 p11 b2 R2 => ?_⟩
      refine ⟨_, rfl, _, rfl, z, rfl, szM (by omega), _, _, rfl, rfl, r, _, rfl, R2, by omega, fun p2 H3 p20 p21 b3 R3 => ?_⟩
      have b3' := (b1.trans b2).trans b3
      refine ⟨by show 2 ≤ sizeLine; decide, fun p np => ?_⟩
      refine ⟨p, [p1, p2], rfl, SqL.of upd_same, by show 2 < 64; decide, fun ns g hp2 hs ng => ?_⟩
      obtain ⟨lo, hi', rfl, hle, hlo, hhi⟩ := sorted_two hp2 hs
      have f1 := same_upd (o := .lst [.int p1, .int p2]) np
      have f2 := same_upd (o := .lst ([lo, hi'].map V.int)) ng
      obtain ⟨i, rfl⟩ := nat_of (show 0 ≤ lo by omega)
      obtain ⟨j, rfl⟩ := nat_of (show 0 ≤ hi' by omega)
      have R4 := R3.sameR (f1.trans f2)
      have b4 := b3'.trans (But.of (f1.trans f2))
      have hgr : g ≠ r := ((R3.sameR f1).ne ng).symm
      refine ⟨fun σ H' => ReelAt H' r ∧ But r H H' ∧ ∃ (g : Addr) (i j : Nat), σ = [some (.ref r), some (.ref t.at), some (.str z), some (.ref a), some (.ref b), some (.int dd), none, none, some (.ref g), none] ∧ H' g = some (.lst [.int (i : Int), .int (j : Int)]) ∧ i ≤ j ∧ j ≤ (cs z).length, ?_, ?_⟩
      · refine ⟨_, rfl, r, 4, rfl, R4, by decide, fun w H5 w0 w1 b5 R5 => ⟨rfl, _, rfl, ite2 (fun _ => ?_) (fun _ => ?_)⟩⟩
        · have hg5 := b5 _ _ hgr upd_same
          refine ⟨_, rfl, z, rfl, szM (by omega), _, rfl, g, _, 1, .int (j : Int), rfl, rfl, SqL.of hg5, atI_nat (j := 1) rfl, _, _, rfl, rfl, _, rfl, z, rfl, szM (by omega), _, rfl, g, _, 0, .int (i : Int), rfl, rfl, SqL.of hg5, atI_nat (j := 0) rfl, _, _, rfl, rfl, by show 2 ≤ sizeLine; decide, fun g2 ng2 => ?_⟩
          refine ⟨R5.new ng2, (b4.trans b5).trans (But.new ng2), g2, (cs z).length - j, (cs z).length - i, rfl, ?_, by omega, by omega⟩
          rw [upd_same]
          have e1 : (z.length : Int) - (j : Int) = (((cs z).length - j : Nat) : Int) := by omega
          have e2 : (z.length : Int) - (i : Int) = (((cs z).length - i : Nat) : Int) := by omega
          show some (HO.lst [V.int ((z.length : Int) - (j : Int)), V.int ((z.length : Int) - (i : Int))]) = _
          rw [e1, e2]
        · exact ⟨R5, b4.trans b5, g, i, j, rfl, b5 _ _ hgr upd_same, by omega, by omega⟩
      · rintro σ H5 ⟨R5, b5, g, i, j, rfl, hg, hij, hj⟩
        have ht5 := ht.but b5 hR
        obtain ⟨d5, k5⟩ := ht5.it
        refine ⟨_, rfl, _, _, _, rfl, k5, r5c _ _ _ _ _, _, rfl, g, _, 0, .int (i : Int), rfl, rfl, SqL.of hg, atI_nat (j := 0) rfl, _, rfl, g, _, 1, .int (j : Int), rfl, rfl, SqL.of hg, atI_nat (j := 1) rfl, t, i, j, _, _, rfl, rfl, rfl, ht5, ot, hij, by omega, by omega, bt, fun u H6 iu => ?_⟩
        have hg6 := iu.same _ _ hg
        refine ⟨_, rfl, _, rfl, g, _, 0, .int (i : Int), rfl, rfl, SqL.of hg6, atI_nat (j := 0) rfl, _, rfl, _, rfl, g, _, 1, .int (j : Int), rfl, rfl, SqL.of hg6, atI_nat (j := 1) rfl, _, rfl, z, rfl, szM (by omega), by show 2 ≤ sizeLine; decide, fun g2 ng2 => ?_⟩
        have s7 := same_upd (o := .tup [.ref u.at, .str (cutS z (some (i : Int)) (some (j : Int)))]) ng2
        have l3 := cut_len z (some (i : Int)) (some (j : Int))
        have R6 := R5.sameR iu.same
        exact q g2 u _ _ (b5.trans (But.of (iu.same.trans s7))) (R6.sameR s7) (R6.ne ng2).symm ⟨iu.here.same s7, iu.ok, by rw [iu.txt, cut_mid, tz]⟩ (cut_tok oz _ _) (by omega) upd_same
    obtain ⟨d1', k1⟩ := ht1.it
    refine nx_seq (sic (fun H2 => But r H H2 ∧ ReelAt H2 r) (∃ p x y, t = RT.node p x y) True (fun Qb qb => ?_) (fun hA H2 h2 => ?_) (fun _ H2 h2 => ?_))
    · refine ⟨_, rfl, rfl, _, rfl, ite2 (fun _ => ?_) (fun _ => qb _ _ ⟨b1, R1⟩ (fun h => Bool.noConfusion h) fun _ => trivial)⟩
      refine ⟨_, rfl, _, _, _, _, _, rfl, k1, T.CL_Rope, T.NA_Rope_left, r5a _ _ _ _ _, rfl, _, rfl, ite2 (fun c2 => ?_) (fun _ => qb _ _ ⟨b1, R1⟩ (fun h => Bool.noConfusion h) fun _ => trivial)⟩
      have hA : ∃ p x y, t = RT.node p x y := by
        cases t with
        | leaf p y => exact Bool.noConfusion (show false = true from c2)
        | node p x y => exact ⟨p, x, y, rfl⟩
      refine ⟨_, rfl, r, 2, rfl, R1, by decide, fun w H2 w0 w1 b2 R2 => ⟨rfl, _, rfl, qb _ _ ⟨b1.trans b2, R2⟩ (fun _ => hA) fun _ => trivial⟩⟩
    · obtain ⟨p, x, y, rfl⟩ := hA
      obtain ⟨b2, R2⟩ := h2
      have sol : (RT.node p x y).Sol := by
        rcases ot with ⟨p', z', hz, e⟩ | h
        · cases e
        · exact h
      have tz2 : x.txt ++ y.txt = cs z := tz
      have lx := x.txt_len
      have lsum : x.size + y.size = (cs z).length := tn
      refine ⟨_, rfl, r, 2, rfl, R2, by decide, fun w H3 w0 w1 b3 R3 => ⟨rfl, _, rfl, ite2 (fun _ => ?_) (fun _ => ?_)⟩⟩
      · have b3' := b2.trans b3
        have ht3 := ht.but b3' hR
        obtain ⟨d3, k3⟩ := ht3.it
        obtain ⟨dx, kx⟩ := ht3.l.it
        refine ⟨_, rfl, _, _, _, _, _, rfl, k3, T.CL_Rope, T.NA_Rope_left, r5a _ _ _ _ _, _, rfl, _, rfl, _, _, _, _, _, rfl, k3, T.CL_Rope, T.NA_Rope_left, r5a _ _ _ _ _, _, _, _, _, _, rfl, kx, T.CL_Rope, T.NA_Rope_size, r5n _ _ _ _ _, _, rfl, z, rfl, szM (by omega), by show 2 ≤ sizeLine; decide, fun g ng => ?_⟩
        have s4 := same_upd (o := .tup [.ref x.at, .str (cutS z none (some (x.size : Int)))]) ng
        have l4 := cut_len z none (some (x.size : Int))
        exact q g x _ _ (b3'.trans (But.of s4)) (R3.sameR s4) (R3.ne ng).symm ⟨ht3.l.same s4, .inr sol.1, by rw [cut_pre, ← tz2, ← lx, List.take_left]⟩ (cut_tok oz _ _) (by omega) upd_same
      · have b3' := b2.trans b3
        have ht3 := ht.but b3' hR
        obtain ⟨d3, k3⟩ := ht3.it
        obtain ⟨dx, kx⟩ := ht3.l.it
        refine ⟨_, rfl, _, _, _, _, _, rfl, k3, T.CL_Rope, T.NA_Rope_right, r5b _ _ _ _ _, _, rfl, _, rfl, _, _, _, _, _, rfl, k3, T.CL_Rope, T.NA_Rope_left, r5a _ _ _ _ _, _, _, _, _, _, rfl, kx, T.CL_Rope, T.NA_Rope_size, r5n _ _ _ _ _, _, rfl, z, rfl, szM (by omega), by show 2 ≤ sizeLine; decide, fun g ng => ?_⟩
        have s4 := same_upd (o := .tup [.ref y.at, .str (cutS z (some (x.size : Int)) none)]) ng
        have l4 := cut_len z (some (x.size : Int)) none
        exact q g y _ _ (b3'.trans (But.of s4)) (R3.sameR s4) (R3.ne ng).symm ⟨ht3.r.same s4, .inr sol.2.1, by rw [cut_suf, ← tz2, ← lx, List.drop_left]⟩ (cut_tok oz _ _) (by omega) upd_same
    · obtain ⟨b2, R2⟩ := h2
      have lp := paired_len hp
      have ha2 := b2 _ _ har ha
      have lts : (ts.map atV).length = zs.length := by rw [List.length_map, lp]
      refine ⟨_, rfl, _, rfl, a, _, rfl, .inl (SqL.of ha2), r, _, rfl, R2, by omega, fun o H3 o0 o1 b3 R3 => ?_⟩
      obtain ⟨k, rfl⟩ := nat_of o0
      have hk : k < zs.length := by omega
      have b3' := b2.trans b3
      have ha3 := b3' _ _ har ha
      have hb3 := b3' _ _ hbr hb
      have ht3 := ht.but b3' hR
      obtain ⟨d3, k3⟩ := ht3.it
      obtain ⟨u, hu1, hu⟩ := paired_get hp (List.getElem?_eq_getElem hk)
      have hu3 := hu.1.but b3' hR
      have at1 : atI (ts.map atV) (k : Int) = some (.ref u.at) := atI_nat (by rw [List.getElem?_map, hu1]; rfl)
      have at2 : atI (zs.map V.str) (k : Int) = some (.str zs[k]) := atI_nat (by rw [List.getElem?_map, List.getElem?_eq_getElem hk]; rfl)
      have lk := lims zs[k] (List.getElem_mem hk)
      have ok := ozs zs[k] (List.getElem_mem hk)
      have zk := len_cs zs[k]
      refine ⟨_, rfl, z, rfl, szM (by omega), _, rfl, _, rfl, b, _, _, _, rfl, rfl, SqL.of hb3, at2, _, rfl, szM (by omega), _, _, rfl, rfl, _, _, rfl, rfl, _, rfl, ite2 (fun c5 => ?_) (fun c5 => ?_)⟩
      · refine ⟨_, rfl, _, rfl, by show 2 ≤ sizeLine; decide, fun g ng => ?_⟩
        have s4 := same_upd (o := .tup [.ref t.at, .str z]) ng
        exact q g t z _ (b3'.trans (But.of s4)) (R3.sameR s4) (R3.ne ng).symm ⟨ht3.same s4, ot, tz⟩ oz lz upd_same
      · have c6 : (cs z).length + (cs zs[k]).length ≤ 1990 := by
          have : ¬ ((1990 : Int) < (z.length : Int) + (zs[k].length : Int)) := fun w => c5 (decide_eq_true w)
          omega
        have un : u.size = (cs zs[k]).length := by rw [← RT.txt_len, hu.2.2]
        have bu := hu.2.1.low (by omega)
        refine ⟨_, rfl, _, _, _, rfl, k3, r5j _ _ _ _ _, _, rfl, _, rfl, a, _, _, _, rfl, rfl, SqL.of ha3, at1, t, u, rfl, ht3, hu3, ot, hu.2.1, by omega, fun v H4 iv => ?_⟩
        have hb4 := iv.same _ _ hb3
        refine ⟨_, rfl, _, rfl, _, rfl, b, _, _, _, rfl, rfl, SqL.of hb4, at2, _, _, rfl, rfl, szM (by omega), by show 2 ≤ sizeLine; decide, fun g ng => ?_⟩
        have s5 := same_upd (o := .tup [.ref v.at, .str (z ++ zs[k])]) ng
        have R4 := R3.sameR iv.same
        refine q g v _ _ (b3'.trans (But.of (iv.same.trans s5))) (R4.sameR s5) (R4.ne ng).symm ⟨iv.here.same s5, iv.ok, by rw [(RT.size_lvs iv.lv).1, tz, hu.2.2, cs_app]⟩ ?_ (by rw [cs_app, List.length_append]; omega) upd_same
        intro c hc
        rw [cs_app] at hc
        rcases List.mem_append.mp hc with h | h
        · exact oz c h
        · exact ok c h

/-! ### the law -/
def MarkAt (H : Hp) (v : V) (t : RT) : Prop := ∃ p, v = .ref p ∧ H p = some (.tup (markL t))
structure LawSt (C r a b c : Addr) (ts : List RT) (zs : List Str) (us : List RT) (ms : List V) (H : Hp) : Prop where
  reel : ReelAt H r
  ar : a ≠ r
  br : b ≠ r
  cr : c ≠ r
  ab : a ≠ b
  ac : a ≠ c
  bc : b ≠ c
  ha : H a = some (.lst (zs.map V.str))
  hb : H b = some (.lst (ts.map atV))
  hc : H c = some (.lst ms)
  pr : Paired (RopeFor C H) ts zs
  pm : Paired (MarkAt H) ms us
  tok : ∀ y ∈ zs, TOk y
  lim : ∀ y ∈ zs, (cs y).length ≤ 2000
theorem MarkAt.tups {H H' : Hp} {v : V} {t : RT} (s : Tups H H') (h : MarkAt H v t) : MarkAt H' v t := by
  obtain ⟨p, e, k⟩ := h
  exact ⟨p, e, s _ _ k⟩
theorem LawSt.but {C r a b c : Addr} {ts us : List RT} {zs : List Str} {ms : List V} {H H' : Hp} (S : LawSt C r a b c ts zs us ms H) (k : But r H H') (R : ReelAt H' r) : LawSt C r a b c ts zs us ms H' :=
  { S with reel := R, ha := k _ _ S.ar S.ha, hb := k _ _ S.br S.hb, hc := k _ _ S.cr S.hc, pr := Paired.mapP S.pr fun _ _ h => ⟨h.1.but k S.reel, h.2⟩, pm := Paired.mapP S.pm fun _ _ h => h.tups (k.tups S.reel) }
theorem LawSt.same {C r a b c : Addr} {ts us : List RT} {zs : List Str} {ms : List V} {H H' : Hp} (S : LawSt C r a b c ts zs us ms H) (k : Same H H') : LawSt C r a b c ts zs us ms H' := S.but (But.of k) (S.reel.sameR k)
theorem ReelAt.upd {H : Hp} {r p : Addr} {o : HO} (h : ReelAt H r) (n : p ≠ r) : ReelAt (upd H p o) r := by
  obtain ⟨z, c, h1, h2⟩ := h
  exact ⟨z, c, by rw [upd_ne n.symm]; exact h1, h2⟩
/-- one mark more -/
theorem LawSt.mark {C r a b c : Addr} {ts us : List RT} {zs : List Str} {ms : List V} {H : Hp} (S : LawSt C r a b c ts zs us ms H) {v : V} {u : RT} (h : MarkAt H v u) : LawSt C r a b c ts zs (us ++ [u]) (ms ++ [v]) (upd H c (.lst (ms ++ [v]))) :=
  have mt : Tups H (upd H c (.lst (ms ++ [v]))) := Tups.mut S.hc
  { S with reel := S.reel.upd S.cr, ha := by rw [upd_ne S.ac]; exact S.ha
           hb := by rw [upd_ne S.bc]; exact S.hb
           hc := upd_same
           pr := Paired.mapP S.pr fun _ _ h => ⟨h.1.mutL S.hc, h.2⟩
           pm := paired_app (Paired.mapP S.pm fun _ _ h => h.tups mt) (.cons (h.tups mt) .nil) }
/-- one rope and its text more -/
theorem LawSt.more {C r a b c : Addr} {ts us : List RT} {zs : List Str} {ms : List V} {H : Hp} (S : LawSt C r a b c ts zs us ms H) {u : RT} {y : Str} (h : RopeFor C H u y) (o : TOk y) (l : (cs y).length ≤ 2000) :
    LawSt C r a b c (ts ++ [u]) (zs ++ [y]) us ms (upd (upd H b (.lst (ts.map atV ++ [atV u]))) a (.lst (zs.map V.str ++ [.str y]))) :=
  have ha1 : (upd H b (.lst (ts.map atV ++ [atV u]))) a = some (.lst (zs.map V.str)) := by rw [upd_ne S.ab]; exact S.ha
  have m1 : ∀ {v : RT}, RopeAt C H v → RopeAt C (upd (upd H b (.lst (ts.map atV ++ [atV u]))) a (.lst (zs.map V.str ++ [.str y]))) v := fun h => (h.mutL S.hb).mutL ha1
  have mt : Tups H (upd (upd H b (.lst (ts.map atV ++ [atV u]))) a (.lst (zs.map V.str ++ [.str y]))) := (Tups.mut S.hb).trans (Tups.mut ha1)
  { S with reel := (S.reel.upd S.br).upd S.ar
           ha := by rw [upd_same, List.map_append]; rfl
           hb := by rw [upd_ne S.ab.symm, upd_same, List.map_append]; rfl
           hc := by rw [upd_ne S.ac.symm, upd_ne S.bc.symm]; exact S.hc
           pr := paired_app (Paired.mapP S.pr fun _ _ h => ⟨m1 h.1, h.2⟩) (.cons ⟨m1 h.1, h.2⟩ .nil)
           pm := Paired.mapP S.pm fun _ _ h => h.tups mt
           tok := fun x hx => by
             rcases List.mem_append.mp hx with h | h
             · exact S.tok x h
             · rw [List.mem_singleton.mp h]
               exact o
           lim := fun x hx => by
             rcases List.mem_append.mp hx with h | h
             · exact S.lim x h
             · rw [List.mem_singleton.mp h]
               exact l }
def spLaw (K : PySem.W.Frag) : Sp := fun vs H Q _ => ∃ (scr : Addr) (row : List Int), vs = [.ref scr] ∧ SqL K H scr (row.map V.int) ∧ row.length ≤ 63 ∧ ∀ H', Q (.bl true) H'
theorem ok_law (T : Txt K mg) : FnOk P w K mg base CX0 100 T.a_law T.fd_law ["script"] (spLaw K) := by
  have G_law_reel : FnOk P w K mg base CX0 1 T.a_law_reel T.fd_law_reel ["script"] (spReel K) := ok_reel T
  have G_law_draw : FnOk P w K mg base CX0 1 T.a_law_draw T.fd_law_draw ["reel", "size"] spDraw := ok_draw T
  have G_law_pick : FnOk P w K mg base CX0 2 T.a_law_pick T.fd_law_pick ["reel", "row"] (spPick K) := ok_pick T
  have G_law_text : FnOk P w K mg base CX0 4 T.a_law_text T.fd_law_text ["reel"] (spText 2000) := ok_text T
  have G_Rope_of : FnOk P w K mg base CX0 11 T.a_Rope_of T.fd_Rope_of ["text"] (spOf T.C_Rope) := ok_Rope_of T
  have G_law_marks : FnOk P w K mg base CX0 1 T.a_law_marks T.fd_law_marks ["rope"] (spMarks T.C_Rope) := ok_marks T
  have G_law_whole_ok : FnOk P w K mg base CX0 3 T.a_law_whole_ok T.fd_law_whole_ok ["reel", "rope", "text"] (spWholeOk T.C_Rope) := ok_whole_ok T
  have G_law_deed : FnOk P w K mg base CX0 93 T.a_law_deed T.fd_law_deed ["reel", "rope", "text", "ropes", "texts"] (spDeed T.C_Rope) := ok_deed T
  refine T.F_law.ok sc_law (fun vs H Q E h => ?_) (fun cdv A outer s H vs Q E hr h => ?_)
  · obtain ⟨scr, row, rfl, _⟩ := h
    rfl
  · obtain ⟨scr, row, rfl, hs, hl, q⟩ := h
    have hr_law_reel : Room 1 _ := hr.mono (by decide)
    have hr_law_draw : Room 1 _ := hr.mono (by decide)
    have hr_law_pick : Room 2 _ := hr.mono (by decide)
    have hr_law_text : Room 4 _ := hr.mono (by decide)
    have hr_Rope_of : Room 11 _ := hr.mono (by decide)
    have hr_law_marks : Room 1 _ := hr.mono (by decide)
    have hr_law_whole_ok : Room 3 _ := hr.mono (by decide)
    have hr_law_deed : Room 93 _ := hr.mono (by decide)
    refine ⟨_, (pss_cons (ps_set (i := 1) sc_law.nd rfl (.inl rfl) (pe_call G_law_reel hr_law_reel (by rfl) T.g_law_reel T.F_law_reel.kp T.b_law_reel .nil pass0 (pa_cons (pv 0) pa_nil)))
      (pss_cons (ps_set (i := 2) sc_law.nd rfl (.inl rfl) (pe_call G_law_pick hr_law_pick (by rfl) T.g_law_pick T.F_law_pick.kp T.b_law_pick .nil pass0 (pa_cons (pv 1) (pa_cons (pe_lst (pa_cons pe_int (pa_cons pe_int (pa_cons pe_int (pa_cons pe_int (pa_cons pe_int (pa_cons pe_int pa_nil))))))) pa_nil))))
      (pss_cons (ps_set (i := 3) sc_law.nd rfl (.inl rfl) (pe_lst (pa_cons (pe_call G_law_text hr_law_text (by rfl) T.g_law_text T.F_law_text.kp T.b_law_text .nil pass0 (pa_cons (pv 1) pa_nil)) pa_nil)))
      (pss_cons (ps_set (i := 4) sc_law.nd rfl (.inl rfl) (pe_lst (pa_cons (OwnOp.pe_stat (pe_glob (v := .ref T.C_Rope) (by rfl) T.G_Rope rfl) T.ST_Ropeof G_Rope_of hr_Rope_of T.b_Rope_of .nil pass0 (pa_cons (pe_ix ix_list (pv 3) pe_int (fun _ _ => rfl)) pa_nil)) pa_nil)))
      (pss_cons (ps_set (i := 5) sc_law.nd rfl (.inl rfl) (pe_lst (pa_cons (pe_call G_law_marks hr_law_marks (by rfl) T.g_law_marks T.F_law_marks.kp T.b_law_marks .nil pass0 (pa_cons (pe_ix ix_list (pv 4) pe_int (fun _ _ => rfl)) pa_nil)) pa_nil)))
      (pss_cons (ps_if (pt_not (pt_val (pe_call G_law_whole_ok hr_law_whole_ok (by rfl) T.g_law_whole_ok T.F_law_whole_ok.kp T.b_law_whole_ok .nil pass0 (pa_cons (pv 1) (pa_cons (pe_ix ix_list (pv 4) pe_int (fun _ _ => rfl)) (pa_cons (pe_ix ix_list (pv 3) pe_int (fun _ _ => rfl)) pa_nil)))))) (pss_one (ps_ret pe_bl)) pss_nil)
      (pss_cons (ps_for PassesOwn.never rfl (pi_range1 (by rfl) T.m_range (pa_cons (pv 2) pa_nil)) (pg_name (i := 6) sc_law.nd rfl (.inl rfl)) (pss_cons (ps_set (i := 7) sc_law.nd rfl (.inl rfl) (pe_call G_law_draw hr_law_draw (by rfl) T.g_law_draw T.F_law_draw.kp T.b_law_draw .nil pass0 (pa_cons (pv 1) (pa_cons (pe_callB call_len_seq (by rfl) T.m_len PySem.boot_len (pa_cons (pv 4) pa_nil)) pa_nil))))
      (C8.pss_cut (ps_if (pt_cmpR op_gt (pe_call G_law_draw hr_law_draw (by rfl) T.g_law_draw T.F_law_draw.kp T.b_law_draw .nil pass0 (pa_cons (pv 1) (pa_cons pe_int pa_nil))) pe_int (nomark _)) (pss_one (ps_set (i := 7) sc_law.nd rfl (.inl rfl) (pe_op op_sub (pe_callB call_len_seq (by rfl) T.m_len PySem.boot_len (pa_cons (pv 4) pa_nil)) pe_int))) pss_nil)
      (pss_cons (ps_set (i := 8) sc_law.nd rfl (.inl rfl) (pe_call G_law_deed hr_law_deed (by rfl) T.g_law_deed T.F_law_deed.kp T.b_law_deed .nil pass0 (pa_cons (pv 1) (pa_cons (pe_ix ix_list (pv 4) (pv 7) (fun _ _ => rfl)) (pa_cons (pe_ix ix_list (pv 3) (pv 7) (fun _ _ => rfl)) (pa_cons (pv 4) (pa_cons (pv 3) pa_nil)))))))
      (pss_cons (ps_expr (pe_bm PySem.F.plainAttrs_list PySem.F.slot_list_append PySem.F.type_list_append mt_append (pv 5) (pa_cons (pe_call G_law_marks hr_law_marks (by rfl) T.g_law_marks T.F_law_marks.kp T.b_law_marks .nil pass0 (pa_cons (pe_ix ix_tup (pv 8) pe_int (fun _ _ => rfl)) pa_nil)) pa_nil)))
      (pss_cons (ps_if (pt_not (pt_val (pe_call G_law_whole_ok hr_law_whole_ok (by rfl) T.g_law_whole_ok T.F_law_whole_ok.kp T.b_law_whole_ok .nil pass0 (pa_cons (pv 1) (pa_cons (pe_ix ix_tup (pv 8) pe_int (fun _ _ => rfl)) (pa_cons (pe_ix ix_tup (pv 8) pe_int (fun _ _ => rfl)) pa_nil)))))) (pss_one (ps_ret pe_bl)) pss_nil)
      (pss_cons (ps_expr (pe_bm PySem.F.plainAttrs_list PySem.F.slot_list_append PySem.F.type_list_append mt_append (pv 4) (pa_cons (pe_ix ix_tup (pv 8) pe_int (fun _ _ => rfl)) pa_nil)))
      (pss_one (ps_expr (pe_bm PySem.F.plainAttrs_list PySem.F.slot_list_append PySem.F.type_list_append mt_append (pv 3) (pa_cons (pe_ix ix_tup (pv 8) pe_int (fun _ _ => rfl)) pa_nil)))))))))))
      (pss_cons (ps_for PassesOwn.never rfl (pi_range1 (by rfl) T.m_range (pa_cons (pe_callB call_len_seq (by rfl) T.m_len PySem.boot_len (pa_cons (pv 4) pa_nil)) pa_nil)) (pg_name (i := 9) sc_law.nd rfl (.inl rfl)) (pss_one (ps_if (PW.pt (pw_or (pt_not (pt_val (pe_call G_law_whole_ok hr_law_whole_ok (by rfl) T.g_law_whole_ok T.F_law_whole_ok.kp T.b_law_whole_ok .nil pass0 (pa_cons (pv 1) (pa_cons (pe_ix ix_list (pv 4) (pv 9) (fun _ _ => rfl)) (pa_cons (pe_ix ix_list (pv 3) (pv 9) (fun _ _ => rfl)) pa_nil)))))) (pw_or1 (pt_cmpR (OwnOp.op_neTS hr.units) (pe_call G_law_marks hr_law_marks (by rfl) T.g_law_marks T.F_law_marks.kp T.b_law_marks .nil pass0 (pa_cons (pe_ix ix_list (pv 4) (pv 9) (fun _ _ => rfl)) pa_nil)) (pe_ix ix_list (pv 5) (pv 9) (fun _ _ => rfl)) (nomark _))))) (pss_one (ps_ret pe_bl)) pss_nil)))
      (pss_one (ps_ret pe_bl)))))))))), ?_⟩
    refine ⟨_, rfl, scr, row, rfl, hs, fun H1 r s1 nr R1 => ?_⟩
    refine ⟨_, rfl, by show 6 ≤ sizeLine; decide, fun p np => ?_⟩
    refine ⟨r, _, rfl, R1.new np, .inr ⟨p, _, rfl, (R1.ne np).symm, SqL.of upd_same, by show 0 < 6; decide, fun v H2 hv b2 R2 => ?_⟩⟩
    obtain ⟨n, rfl, n0, n1⟩ := intsIn_mem (lo := 0) (hi := 12) (by decide +kernel) v hv
    refine ⟨_, rfl, r, rfl, R2, fun x H3 lx ox b3 R3 => ⟨by show 1 ≤ sizeLine; decide, fun a na => ?_⟩⟩
    have s4 : Same H3 (upd H3 a (.lst [.str x])) := same_upd na
    refine ⟨rfl, _, rfl, a, _, 0, .str x, rfl, rfl, SqL.of upd_same, atI_nat (j := 0) rfl, x, rfl, lx, fun t H4 s5 ht ot tt _ _ => ⟨by show 1 ≤ sizeLine; decide, fun b nb => ?_⟩⟩
    have ha4 : H4 a = some (.lst [.str x]) := s5 _ _ upd_same
    have s6 : Same H4 (upd H4 b (.lst [.ref t.at])) := same_upd nb
    refine ⟨_, rfl, b, _, 0, .ref t.at, rfl, rfl, SqL.of upd_same, atI_nat (j := 0) rfl, t, rfl, ht.same s6, fun mp H5 s7 nmp hmp => ⟨by show 1 ≤ sizeLine; decide, fun c nc => ?_⟩⟩
    have s8 : Same H5 (upd H5 c (.lst [.ref mp])) := same_upd nc
    have R5 : ReelAt H5 r := (((R3.sameR s4).sameR s5).sameR s6).sameR s7
    have ha5 : H5 a = some (.lst [.str x]) := s7 _ _ (s6 _ _ ha4)
    have hb5 : H5 b = some (.lst [.ref t.at]) := s7 _ _ upd_same
    have S0 : LawSt T.C_Rope r a b c [t] [x] [t] [.ref mp] (upd H5 c (.lst [.ref mp])) :=
      { reel := R5.new nc, ar := (R3.ne na).symm, br := (((R3.sameR s4).sameR s5).ne nb).symm, cr := (R5.ne nc).symm
        ab := ne_of_none ha4 nb, ac := ne_of_none ha5 nc, bc := ne_of_none hb5 nc
        ha := s8 _ _ ha5, hb := s8 _ _ hb5, hc := upd_same
        pr := .cons ⟨((ht.same s6).same s7).same s8, ot, tt⟩ .nil
        pm := .cons ⟨mp, rfl, s8 _ _ hmp⟩ .nil
        tok := fun y hy => by rw [List.mem_singleton.mp hy]; exact ox
        lim := fun y hy => by rw [List.mem_singleton.mp hy]; exact lx }
    refine ⟨_, rfl, _, rfl, b, _, 0, .ref t.at, rfl, rfl, SqL.of S0.hb, atI_nat (j := 0) rfl, _, rfl, a, _, 0, .str x, rfl, rfl, SqL.of S0.ha, atI_nat (j := 0) rfl, r, t, x, rfl, S0.reel, ⟨((ht.same s6).same s7).same s8, ot, tt⟩, lx, fun H6 b6 R6 => ⟨true, rfl, iteF ?_⟩⟩
    have S1 := S0.but b6 R6
    refine ⟨_, rfl, n, rfl, by omega, by omega, ?_⟩
    refine for_range (lo := 0) (n := n.toNat) (fun i σ H' => ∃ (ts : List RT) (zs : List Str) (ms : List V) (y6 y7 y8 y9 : Option V), σ = [some (.ref scr), some (.ref r), some (.int n), some (.ref a), some (.ref b), some (.ref c), y6, y7, y8, y9] ∧ LawSt T.C_Rope r a b c ts zs ts ms H' ∧ zs.length = 1 + i)
      ⟨_, _, _, _, _, _, _, rfl, S1, rfl⟩ ?_ ?_
    · rintro i σ H7 hi ⟨ts, zs, ms, y6, y7, y8, y9, rfl, S7, lz⟩
      have lp := paired_len S7.pr
      have lm := paired_len S7.pm
      have lts : (ts.map atV).length = zs.length := by rw [List.length_map, lp]
      refine ⟨_, rfl, _, rfl, b, _, rfl, .inl (SqL.of S7.hb), r, _, rfl, S7.reel, by omega, fun v H8 v0 v1 b8 R8 => ?_⟩
      have S8 := S7.but b8 R8
      obtain ⟨k0, rfl⟩ := nat_of v0
      refine ⟨fun σ H' => LawSt T.C_Rope r a b c ts zs ts ms H' ∧ ∃ k : Nat, σ = [some (.ref scr), some (.ref r), some (.int n), some (.ref a), some (.ref b), some (.ref c), some (.int (0 + (i : Int))), some (.int (k : Int)), y8, y9] ∧ k < zs.length, ?_, ?_⟩
      · refine ⟨_, rfl, r, 3, rfl, R8, by decide, fun w H9 w0 w1 b9 R9 => ⟨_, _, rfl, rfl, _, rfl, ite2 (fun _ => ?_) (fun _ => ?_)⟩⟩
        · have S9 := S8.but b9 R9
          refine ⟨_, rfl, b, _, rfl, .inl (SqL.of S9.hb), _, _, rfl, rfl, S9, zs.length - 1, ?_, by omega⟩
          show [some (V.ref scr), some (.ref r), some (.int n), some (.ref a), some (.ref b), some (.ref c), some (.int (0 + (i : Int))), some (.int (((ts.map atV).length : Int) - 1)), y8, y9] = _
          rw [show ((ts.map atV).length : Int) - 1 = ((zs.length - 1 : Nat) : Int) by omega]
        · exact ⟨S8.but b9 R9, k0, rfl, by omega⟩
      · rintro σ H9 ⟨S9, k, rfl, hk⟩
        obtain ⟨t1, ht1, h1⟩ := paired_get S9.pr (List.getElem?_eq_getElem hk)
        have at1 : atI (ts.map atV) (k : Int) = some (.ref t1.at) := atI_nat (by rw [List.getElem?_map, ht1]; rfl)
        have at2 : atI (zs.map V.str) (k : Int) = some (.str zs[k]) := atI_nat (by rw [List.getElem?_map, List.getElem?_eq_getElem hk]; rfl)
        have mk := List.getElem_mem hk
        refine ⟨_, rfl, _, rfl, _, rfl, b, _, _, _, rfl, rfl, SqL.of S9.hb, at1, _, rfl, _, rfl, a, _, _, _, rfl, rfl, SqL.of S9.ha, at2, _, rfl, _, rfl, r, b, a, t1, zs[k], ts, zs, rfl, S9.reel, h1, S9.tok _ mk, S9.lim _ mk, S9.br, S9.ar, S9.hb, S9.ha, S9.pr, by omega, S9.tok, S9.lim, fun p u y G b10 R10 hpr hu oy ly hpt => ?_⟩
        have S10 := S9.but b10 R10
        refine ⟨_, rfl, .inl ⟨rfl, _, SqL.of S10.hc⟩, _, rfl, p, _, 0, .ref u.at, rfl, rfl, SqT.of hpt, atI_nat (j := 0) rfl, u, rfl, hu.1, fun mp G1 s11 nmp hmp => ?_⟩
        have S11 := S10.same s11
        refine ⟨c, _, _, rfl, rfl, S11.hc, sz2 (by omega), ?_⟩
        have S12 := S11.mark ⟨mp, rfl, hmp⟩
        have hu12 : RopeFor T.C_Rope (upd G1 c (.lst (ms ++ [.ref mp]))) u y := ⟨(hu.1.same s11).mutL S11.hc, hu.2⟩
        have hp12 : (upd G1 c (.lst (ms ++ [.ref mp]))) p = some (.tup [.ref u.at, .str y]) := (Tups.mut S11.hc) _ _ (s11 _ _ hpt)
        refine ⟨_, rfl, _, rfl, p, _, 0, .ref u.at, rfl, rfl, SqT.of hp12, atI_nat (j := 0) rfl, _, rfl, p, _, 1, .str y, rfl, rfl, SqT.of hp12, atI_nat (j := 1) rfl, r, u, y, rfl, S12.reel, hu12, ly, fun G2 b13 R13 => ⟨true, rfl, iteF ?_⟩⟩
        have S13 := S12.but b13 R13
        have hu13 : RopeFor T.C_Rope G2 u y := ⟨hu12.1.but b13 S12.reel, hu12.2⟩
        have hp13 := b13 _ _ hpr hp12
        refine ⟨_, rfl, .inl ⟨rfl, _, SqL.of S13.hb⟩, _, rfl, p, _, 0, .ref u.at, rfl, rfl, SqT.of hp13, atI_nat (j := 0) rfl, b, _, _, rfl, rfl, S13.hb, sz2 (by omega), ?_⟩
        have hp14 : (upd G2 b (.lst (ts.map atV ++ [.ref u.at]))) p = some (.tup [.ref u.at, .str y]) := (Tups.mut S13.hb) _ _ hp13
        have ha14 : (upd G2 b (.lst (ts.map atV ++ [.ref u.at]))) a = some (.lst (zs.map V.str)) := by rw [upd_ne S13.ab]; exact S13.ha
        refine ⟨_, rfl, .inl ⟨rfl, _, SqL.of ha14⟩, _, rfl, p, _, 1, .str y, rfl, rfl, SqT.of hp14, atI_nat (j := 1) rfl, a, _, _, rfl, rfl, ha14, sz2 (by rw [List.length_map]; omega), ?_⟩
        exact ⟨ts ++ [u], zs ++ [y], ms ++ [.ref mp], _, _, _, _, rfl, S13.more hu13 oy ly, by rw [List.length_append, lz]; rfl⟩
    · rintro σ H7 ⟨ts, zs, ms, y6, y7, y8, y9, rfl, S7, lz⟩
      have lp := paired_len S7.pr
      have lts : (ts.map atV).length = zs.length := by rw [List.length_map, lp]
      refine ⟨_, rfl, b, _, rfl, .inl (SqL.of S7.hb), _, rfl, by omega, by omega, ?_⟩
      refine for_range (lo := 0) (fun i σ H' => LawSt T.C_Rope r a b c ts zs ts ms H' ∧ ∃ (y9 : Option V), σ = [some (.ref scr), some (.ref r), some (.int n), some (.ref a), some (.ref b), some (.ref c), y6, y7, y8, y9])
        ⟨S7, _, rfl⟩ ?_ ?_
      · rintro i σ H8 hi ⟨S8, y9, rfl⟩
        have hk : i < zs.length := by omega
        obtain ⟨t1, ht1, h1⟩ := paired_get S8.pr (List.getElem?_eq_getElem hk)
        have e0 : (0 : Int) + (i : Int) = (i : Int) := by omega
        have at1 : atI (ts.map atV) (0 + (i : Int)) = some (.ref t1.at) := by rw [e0]; exact atI_nat (by rw [List.getElem?_map, ht1]; rfl)
        have at2 : atI (zs.map V.str) (0 + (i : Int)) = some (.str zs[i]) := by rw [e0]; exact atI_nat (by rw [List.getElem?_map, List.getElem?_eq_getElem hk]; rfl)
        obtain ⟨m, hm1, mp, rfl, hmp⟩ := paired_get S8.pm ht1
        have at3 : atI ms (0 + (i : Int)) = some (.ref mp) := by rw [e0]; exact atI_nat hm1
        have mk := List.getElem_mem hk
        refine ⟨_, rfl, _, rfl, _, rfl, b, _, _, _, rfl, rfl, SqL.of S8.hb, at1, _, rfl, _, rfl, a, _, _, _, rfl, rfl, SqL.of S8.ha, at2, r, t1, zs[i], rfl, S8.reel, h1, S8.lim _ mk, fun H9 b9 R9 => ⟨true, rfl, iteF ?_⟩⟩
        have S9 := S8.but b9 R9
        have hmp9 := (b9.tups S8.reel) _ _ hmp
        refine ⟨_, rfl, _, rfl, b, _, _, _, rfl, rfl, SqL.of S9.hb, at1, t1, rfl, h1.1.but b9 S8.reel, fun mq G s10 nmq hmq => ?_⟩
        have S10 := S9.same s10
        exact ⟨_, rfl, _, rfl, c, _, _, _, rfl, rfl, SqL.of S10.hc, at3, mq, mp, markL t1, rfl, rfl, SqT.of hmq, SqT.of (s10 _ _ hmp9), mark_item t1, false, rfl, iteF ⟨S10, _, rfl⟩⟩
      · rintro σ H8 ⟨S8, y9, rfl⟩
        exact q H8

theorem ok_top (T : Txt K mg) : FnOk P w K mg base CX0 100 T.a_law T.fd_law ["script"] (spLaw K) := ok_law T
end
theorem all_mk {l : PySem.W.OpenLaw} {w : World} {K : PySem.W.Frag} {h : Heap} {mg : Str → Option Value} {fa : Addr} (X : K.In h) (G : h.Ns mainGlobals mg) (hfa : mg "law" = some (.ref fa))
    {C_MendedError : Addr} (g_MendedError : PySem.W.nsIn K mainGlobals "MendedError" = some (some (.ref C_MendedError)))
    {C_EditError : Addr} (g_EditError : PySem.W.nsIn K mainGlobals "EditError" = some (some (.ref C_EditError)))
    {C_Entangled : Addr} (g_Entangled : PySem.W.nsIn K mainGlobals "Entangled" = some (some (.ref C_Entangled)))
    {C_Rope : Addr} (g_Rope : PySem.W.nsIn K mainGlobals "Rope" = some (some (.ref C_Rope)))
    {f0 : Addr} {od0 an0 : Option Addr} {sl0 : Array (Option Value)} {oc0 kV0 dc0 pm0 cd0 ct0 : Value}
    {f1 : Addr} {od1 an1 : Option Addr} {sl1 : Array (Option Value)} {oc1 kV1 dc1 pm1 cd1 ct1 : Value}
    {f2 : Addr} {od2 an2 : Option Addr} {sl2 : Array (Option Value)} {oc2 kV2 dc2 pm2 cd2 ct2 : Value}
    {f3 : Addr} {od3 an3 : Option Addr} {sl3 : Array (Option Value)} {oc3 kV3 dc3 pm3 cd3 ct3 : Value}
    {f4 : Addr} {od4 an4 : Option Addr} {sl4 : Array (Option Value)} {oc4 kV4 dc4 pm4 cd4 ct4 : Value}
    {f5 : Addr} {od5 an5 : Option Addr} {sl5 : Array (Option Value)} {oc5 kV5 dc5 pm5 cd5 ct5 : Value}
    {f6 : Addr} {od6 an6 : Option Addr} {sl6 : Array (Option Value)} {oc6 kV6 dc6 pm6 cd6 ct6 : Value}
    {f7 : Addr} {od7 an7 : Option Addr} {sl7 : Array (Option Value)} {oc7 kV7 dc7 pm7 cd7 ct7 : Value}
    {f8 : Addr} {od8 an8 : Option Addr} {sl8 : Array (Option Value)} {oc8 kV8 dc8 pm8 cd8 ct8 : Value}
    {f9 : Addr} {od9 an9 : Option Addr} {sl9 : Array (Option Value)} {oc9 kV9 dc9 pm9 cd9 ct9 : Value}
    {f10 : Addr} {od10 an10 : Option Addr} {sl10 : Array (Option Value)} {oc10 kV10 dc10 pm10 cd10 ct10 : Value}
    {f11 : Addr} {od11 an11 : Option Addr} {sl11 : Array (Option Value)} {oc11 kV11 dc11 pm11 cd11 ct11 : Value}
    {f12 : Addr} {od12 an12 : Option Addr} {sl12 : Array (Option Value)} {oc12 kV12 dc12 pm12 cd12 ct12 : Value}
    {f13 : Addr} {od13 an13 : Option Addr} {sl13 : Array (Option Value)} {oc13 kV13 dc13 pm13 cd13 ct13 : Value}
    {f14 : Addr} {od14 an14 : Option Addr} {sl14 : Array (Option Value)} {oc14 kV14 dc14 pm14 cd14 ct14 : Value}
    {f15 : Addr} {od15 an15 : Option Addr} {sl15 : Array (Option Value)} {oc15 kV15 dc15 pm15 cd15 ct15 : Value}
    {f16 : Addr} {od16 an16 : Option Addr} {sl16 : Array (Option Value)} {oc16 kV16 dc16 pm16 cd16 ct16 : Value}
    {f17 : Addr} {od17 an17 : Option Addr} {sl17 : Array (Option Value)} {oc17 kV17 dc17 pm17 cd17 ct17 : Value}
    {f18 : Addr} {od18 an18 : Option Addr} {sl18 : Array (Option Value)} {oc18 kV18 dc18 pm18 cd18 ct18 : Value}
    {f19 : Addr} {od19 an19 : Option Addr} {sl19 : Array (Option Value)} {oc19 kV19 dc19 pm19 cd19 ct19 : Value}
    {f20 : Addr} {od20 an20 : Option Addr} {sl20 : Array (Option Value)} {oc20 kV20 dc20 pm20 cd20 ct20 : Value}
    {f21 : Addr} {od21 an21 : Option Addr} {sl21 : Array (Option Value)} {oc21 kV21 dc21 pm21 cd21 ct21 : Value}
    {f22 : Addr} {od22 an22 : Option Addr} {sl22 : Array (Option Value)} {oc22 kV22 dc22 pm22 cd22 ct22 : Value}
    {f23 : Addr} {od23 an23 : Option Addr} {sl23 : Array (Option Value)} {oc23 kV23 dc23 pm23 cd23 ct23 : Value}
    {f24 : Addr} {od24 an24 : Option Addr} {sl24 : Array (Option Value)} {oc24 kV24 dc24 pm24 cd24 ct24 : Value}
    {f25 : Addr} {od25 an25 : Option Addr} {sl25 : Array (Option Value)} {oc25 kV25 dc25 pm25 cd25 ct25 : Value}
    {f26 : Addr} {od26 an26 : Option Addr} {sl26 : Array (Option Value)} {oc26 kV26 dc26 pm26 cd26 ct26 : Value}
    {f27 : Addr} {od27 an27 : Option Addr} {sl27 : Array (Option Value)} {oc27 kV27 dc27 pm27 cd27 ct27 : Value}
    {f28 : Addr} {od28 an28 : Option Addr} {sl28 : Array (Option Value)} {oc28 kV28 dc28 pm28 cd28 ct28 : Value}
    {f29 : Addr} {od29 an29 : Option Addr} {sl29 : Array (Option Value)} {oc29 kV29 dc29 pm29 cd29 ct29 : Value}
    {f30 : Addr} {od30 an30 : Option Addr} {sl30 : Array (Option Value)} {oc30 kV30 dc30 pm30 cd30 ct30 : Value}
    {f31 : Addr} {od31 an31 : Option Addr} {sl31 : Array (Option Value)} {oc31 kV31 dc31 pm31 cd31 ct31 : Value}
    (a0 : PySem.W.findIn K (.ref C_EditError) "__init__" = some (some (.ref f0)))
    (l0 : K.lookup f0 = some ⟨oc0, od0, .func (PySem.W.fnOf "__init__" "EditError.__init__" (defArgs s_EditError_init) (defBody s_EditError_init) (defScope s_EditError_init) .none kV0 dc0 pm0 an0 cd0 ct0), sl0⟩) (c0 : PySem.W.codeIn K cd0 "EditError.__init__" = true) (k0 : PySem.W.keepIn K (.ref f0) = true)
    (a1 : PySem.W.nsIn K mainGlobals "_first_misfit" = some (some (.ref f1)))
    (l1 : K.lookup f1 = some ⟨oc1, od1, .func (PySem.W.fnOf "_first_misfit" "_first_misfit" (defArgs s_first_misfit) (defBody s_first_misfit) (defScope s_first_misfit) .none kV1 dc1 pm1 an1 cd1 ct1), sl1⟩) (c1 : PySem.W.codeIn K cd1 "_first_misfit" = true) (k1 : PySem.W.keepIn K (.ref f1) = true)
    (a2 : PySem.W.nsIn K mainGlobals "check_fits" = some (some (.ref f2)))
    (l2 : K.lookup f2 = some ⟨oc2, od2, .func (PySem.W.fnOf "check_fits" "check_fits" (defArgs s_check_fits) (defBody s_check_fits) (defScope s_check_fits) .none kV2 dc2 pm2 an2 cd2 ct2), sl2⟩) (c2 : PySem.W.codeIn K cd2 "check_fits" = true) (k2 : PySem.W.keepIn K (.ref f2) = true)
    (a3 : PySem.W.findIn K (.ref C_Rope) "__init__" = some (some (.ref f3)))
    (l3 : K.lookup f3 = some ⟨oc3, od3, .func (PySem.W.fnOf "__init__" "Rope.__init__" (defArgs s_Rope_init) (defBody s_Rope_init) (defScope s_Rope_init) .none kV3 dc3 pm3 an3 cd3 ct3), sl3⟩) (c3 : PySem.W.codeIn K cd3 "Rope.__init__" = true) (k3 : PySem.W.keepIn K (.ref f3) = true)
    {pp4 : Addr} {rr4 : List Value} (ac4 : PySem.W.findCls K (.ref C_Rope) (.type "type") "of" = some (.get (.builtin "staticmethod.__get__") (.ref pp4) .none (.ref C_Rope))) (a4 : PySem.W.recIn K pp4 "staticmethod" = some (.ref f4 :: rr4))
    (l4 : K.lookup f4 = some ⟨oc4, od4, .func (PySem.W.fnOf "of" "Rope.of" (defArgs s_Rope_of) (defBody s_Rope_of) (defScope s_Rope_of) .none kV4 dc4 pm4 an4 cd4 ct4), sl4⟩) (c4 : PySem.W.codeIn K cd4 "Rope.of" = true) (k4 : PySem.W.keepIn K (.ref f4) = true)
    (a5 : PySem.W.findIn K (.ref C_Rope) "whole" = some (some (.ref f5)))
    (l5 : K.lookup f5 = some ⟨oc5, od5, .func (PySem.W.fnOf "whole" "Rope.whole" (defArgs s_Rope_whole) (defBody s_Rope_whole) (defScope s_Rope_whole) .none kV5 dc5 pm5 an5 cd5 ct5), sl5⟩) (c5 : PySem.W.codeIn K cd5 "Rope.whole" = true) (k5 : PySem.W.keepIn K (.ref f5) = true)
    (a6 : PySem.W.findIn K (.ref C_Rope) "char" = some (some (.ref f6)))
    (l6 : K.lookup f6 = some ⟨oc6, od6, .func (PySem.W.fnOf "char" "Rope.char" (defArgs s_Rope_char) (defBody s_Rope_char) (defScope s_Rope_char) .none kV6 dc6 pm6 an6 cd6 ct6), sl6⟩) (c6 : PySem.W.codeIn K cd6 "Rope.char" = true) (k6 : PySem.W.keepIn K (.ref f6) = true)
    (a7 : PySem.W.findIn K (.ref C_Rope) "cut" = some (some (.ref f7)))
    (l7 : K.lookup f7 = some ⟨oc7, od7, .func (PySem.W.fnOf "cut" "Rope.cut" (defArgs s_Rope_cut) (defBody s_Rope_cut) (defScope s_Rope_cut) .none kV7 dc7 pm7 an7 cd7 ct7), sl7⟩) (c7 : PySem.W.codeIn K cd7 "Rope.cut" = true) (k7 : PySem.W.keepIn K (.ref f7) = true)
    (a8 : PySem.W.findIn K (.ref C_Rope) "joined" = some (some (.ref f8)))
    (l8 : K.lookup f8 = some ⟨oc8, od8, .func (PySem.W.fnOf "joined" "Rope.joined" (defArgs s_Rope_joined) (defBody s_Rope_joined) (defScope s_Rope_joined) .none kV8 dc8 pm8 an8 cd8 ct8), sl8⟩) (c8 : PySem.W.codeIn K cd8 "Rope.joined" = true) (k8 : PySem.W.keepIn K (.ref f8) = true)
    (a9 : PySem.W.findIn K (.ref C_Rope) "edited" = some (some (.ref f9)))
    (l9 : K.lookup f9 = some ⟨oc9, od9, .func (PySem.W.fnOf "edited" "Rope.edited" (defArgs s_Rope_edited) (defBody s_Rope_edited) (defScope s_Rope_edited) .none kV9 dc9 pm9 an9 cd9 ct9), sl9⟩) (c9 : PySem.W.codeIn K cd9 "Rope.edited" = true) (k9 : PySem.W.keepIn K (.ref f9) = true)
    (a10 : PySem.W.nsIn K mainGlobals "_tree" = some (some (.ref f10)))
    (l10 : K.lookup f10 = some ⟨oc10, od10, .func (PySem.W.fnOf "_tree" "_tree" (defArgs s_tree) (defBody s_tree) (defScope s_tree) .none kV10 dc10 pm10 an10 cd10 ct10), sl10⟩) (c10 : PySem.W.codeIn K cd10 "_tree" = true) (k10 : PySem.W.keepIn K (.ref f10) = true)
    (a11 : PySem.W.nsIn K mainGlobals "_balanced" = some (some (.ref f11)))
    (l11 : K.lookup f11 = some ⟨oc11, od11, .func (PySem.W.fnOf "_balanced" "_balanced" (defArgs s_balanced) (defBody s_balanced) (defScope s_balanced) .none kV11 dc11 pm11 an11 cd11 ct11), sl11⟩) (c11 : PySem.W.codeIn K cd11 "_balanced" = true) (k11 : PySem.W.keepIn K (.ref f11) = true)
    (a12 : PySem.W.nsIn K mainGlobals "_law_reel" = some (some (.ref f12)))
    (l12 : K.lookup f12 = some ⟨oc12, od12, .func (PySem.W.fnOf "_law_reel" "_law_reel" (defArgs s_law_reel) (defBody s_law_reel) (defScope s_law_reel) .none kV12 dc12 pm12 an12 cd12 ct12), sl12⟩) (c12 : PySem.W.codeIn K cd12 "_law_reel" = true) (k12 : PySem.W.keepIn K (.ref f12) = true)
    (a13 : PySem.W.nsIn K mainGlobals "_law_draw" = some (some (.ref f13)))
    (l13 : K.lookup f13 = some ⟨oc13, od13, .func (PySem.W.fnOf "_law_draw" "_law_draw" (defArgs s_law_draw) (defBody s_law_draw) (defScope s_law_draw) .none kV13 dc13 pm13 an13 cd13 ct13), sl13⟩) (c13 : PySem.W.codeIn K cd13 "_law_draw" = true) (k13 : PySem.W.keepIn K (.ref f13) = true)
    (a14 : PySem.W.nsIn K mainGlobals "_law_pick" = some (some (.ref f14)))
    (l14 : K.lookup f14 = some ⟨oc14, od14, .func (PySem.W.fnOf "_law_pick" "_law_pick" (defArgs s_law_pick) (defBody s_law_pick) (defScope s_law_pick) .none kV14 dc14 pm14 an14 cd14 ct14), sl14⟩) (c14 : PySem.W.codeIn K cd14 "_law_pick" = true) (k14 : PySem.W.keepIn K (.ref f14) = true)
    (a15 : PySem.W.nsIn K mainGlobals "_law_word" = some (some (.ref f15)))
    (l15 : K.lookup f15 = some ⟨oc15, od15, .func (PySem.W.fnOf "_law_word" "_law_word" (defArgs s_law_word) (defBody s_law_word) (defScope s_law_word) .none kV15 dc15 pm15 an15 cd15 ct15), sl15⟩) (c15 : PySem.W.codeIn K cd15 "_law_word" = true) (k15 : PySem.W.keepIn K (.ref f15) = true)
    (a16 : PySem.W.nsIn K mainGlobals "_law_number" = some (some (.ref f16)))
    (l16 : K.lookup f16 = some ⟨oc16, od16, .func (PySem.W.fnOf "_law_number" "_law_number" (defArgs s_law_number) (defBody s_law_number) (defScope s_law_number) .none kV16 dc16 pm16 an16 cd16 ct16), sl16⟩) (c16 : PySem.W.codeIn K cd16 "_law_number" = true) (k16 : PySem.W.keepIn K (.ref f16) = true)
    (a17 : PySem.W.nsIn K mainGlobals "_law_signs" = some (some (.ref f17)))
    (l17 : K.lookup f17 = some ⟨oc17, od17, .func (PySem.W.fnOf "_law_signs" "_law_signs" (defArgs s_law_signs) (defBody s_law_signs) (defScope s_law_signs) .none kV17 dc17 pm17 an17 cd17 ct17), sl17⟩) (c17 : PySem.W.codeIn K cd17 "_law_signs" = true) (k17 : PySem.W.keepIn K (.ref f17) = true)
    (a18 : PySem.W.nsIn K mainGlobals "_law_stepped" = some (some (.ref f18)))
    (l18 : K.lookup f18 = some ⟨oc18, od18, .func (PySem.W.fnOf "_law_stepped" "_law_stepped" (defArgs s_law_stepped) (defBody s_law_stepped) (defScope s_law_stepped) .none kV18 dc18 pm18 an18 cd18 ct18), sl18⟩) (c18 : PySem.W.codeIn K cd18 "_law_stepped" = true) (k18 : PySem.W.keepIn K (.ref f18) = true)
    (a19 : PySem.W.nsIn K mainGlobals "_law_text" = some (some (.ref f19)))
    (l19 : K.lookup f19 = some ⟨oc19, od19, .func (PySem.W.fnOf "_law_text" "_law_text" (defArgs s_law_text) (defBody s_law_text) (defScope s_law_text) .none kV19 dc19 pm19 an19 cd19 ct19), sl19⟩) (c19 : PySem.W.codeIn K cd19 "_law_text" = true) (k19 : PySem.W.keepIn K (.ref f19) = true)
    (a20 : PySem.W.nsIn K mainGlobals "_law_new" = some (some (.ref f20)))
    (l20 : K.lookup f20 = some ⟨oc20, od20, .func (PySem.W.fnOf "_law_new" "_law_new" (defArgs s_law_new) (defBody s_law_new) (defScope s_law_new) .none kV20 dc20 pm20 an20 cd20 ct20), sl20⟩) (c20 : PySem.W.codeIn K cd20 "_law_new" = true) (k20 : PySem.W.keepIn K (.ref f20) = true)
    (a21 : PySem.W.nsIn K mainGlobals "_law_edit_row" = some (some (.ref f21)))
    (l21 : K.lookup f21 = some ⟨oc21, od21, .func (PySem.W.fnOf "_law_edit_row" "_law_edit_row" (defArgs s_law_edit_row) (defBody s_law_edit_row) (defScope s_law_edit_row) .none kV21 dc21 pm21 an21 cd21 ct21), sl21⟩) (c21 : PySem.W.codeIn K cd21 "_law_edit_row" = true) (k21 : PySem.W.keepIn K (.ref f21) = true)
    (a22 : PySem.W.nsIn K mainGlobals "_law_unfit" = some (some (.ref f22)))
    (l22 : K.lookup f22 = some ⟨oc22, od22, .func (PySem.W.fnOf "_law_unfit" "_law_unfit" (defArgs s_law_unfit) (defBody s_law_unfit) (defScope s_law_unfit) .none kV22 dc22 pm22 an22 cd22 ct22), sl22⟩) (c22 : PySem.W.codeIn K cd22 "_law_unfit" = true) (k22 : PySem.W.keepIn K (.ref f22) = true)
    (a23 : PySem.W.nsIn K mainGlobals "_law_planted" = some (some (.ref f23)))
    (l23 : K.lookup f23 = some ⟨oc23, od23, .func (PySem.W.fnOf "_law_planted" "_law_planted" (defArgs s_law_planted) (defBody s_law_planted) (defScope s_law_planted) .none kV23 dc23 pm23 an23 cd23 ct23), sl23⟩) (c23 : PySem.W.codeIn K cd23 "_law_planted" = true) (k23 : PySem.W.keepIn K (.ref f23) = true)
    (a24 : PySem.W.nsIn K mainGlobals "_law_splice" = some (some (.ref f24)))
    (l24 : K.lookup f24 = some ⟨oc24, od24, .func (PySem.W.fnOf "_law_splice" "_law_splice" (defArgs s_law_splice) (defBody s_law_splice) (defScope s_law_splice) .none kV24 dc24 pm24 an24 cd24 ct24), sl24⟩) (c24 : PySem.W.codeIn K cd24 "_law_splice" = true) (k24 : PySem.W.keepIn K (.ref f24) = true)
    (a25 : PySem.W.nsIn K mainGlobals "_law_first_unfit" = some (some (.ref f25)))
    (l25 : K.lookup f25 = some ⟨oc25, od25, .func (PySem.W.fnOf "_law_first_unfit" "_law_first_unfit" (defArgs s_law_first_unfit) (defBody s_law_first_unfit) (defScope s_law_first_unfit) .none kV25 dc25 pm25 an25 cd25 ct25), sl25⟩) (c25 : PySem.W.codeIn K cd25 "_law_first_unfit" = true) (k25 : PySem.W.keepIn K (.ref f25) = true)
    (a26 : PySem.W.nsIn K mainGlobals "_law_whole_ok" = some (some (.ref f26)))
    (l26 : K.lookup f26 = some ⟨oc26, od26, .func (PySem.W.fnOf "_law_whole_ok" "_law_whole_ok" (defArgs s_law_whole_ok) (defBody s_law_whole_ok) (defScope s_law_whole_ok) .none kV26 dc26 pm26 an26 cd26 ct26), sl26⟩) (c26 : PySem.W.codeIn K cd26 "_law_whole_ok" = true) (k26 : PySem.W.keepIn K (.ref f26) = true)
    (a27 : PySem.W.nsIn K mainGlobals "_law_marks" = some (some (.ref f27)))
    (l27 : K.lookup f27 = some ⟨oc27, od27, .func (PySem.W.fnOf "_law_marks" "_law_marks" (defArgs s_law_marks) (defBody s_law_marks) (defScope s_law_marks) .none kV27 dc27 pm27 an27 cd27 ct27), sl27⟩) (c27 : PySem.W.codeIn K cd27 "_law_marks" = true) (k27 : PySem.W.keepIn K (.ref f27) = true)
    (a28 : PySem.W.nsIn K mainGlobals "_law_refused" = some (some (.ref f28)))
    (l28 : K.lookup f28 = some ⟨oc28, od28, .func (PySem.W.fnOf "_law_refused" "_law_refused" (defArgs s_law_refused) (defBody s_law_refused) (defScope s_law_refused) .none kV28 dc28 pm28 an28 cd28 ct28), sl28⟩) (c28 : PySem.W.codeIn K cd28 "_law_refused" = true) (k28 : PySem.W.keepIn K (.ref f28) = true)
    (a29 : PySem.W.nsIn K mainGlobals "_law_edited" = some (some (.ref f29)))
    (l29 : K.lookup f29 = some ⟨oc29, od29, .func (PySem.W.fnOf "_law_edited" "_law_edited" (defArgs s_law_edited) (defBody s_law_edited) (defScope s_law_edited) .none kV29 dc29 pm29 an29 cd29 ct29), sl29⟩) (c29 : PySem.W.codeIn K cd29 "_law_edited" = true) (k29 : PySem.W.keepIn K (.ref f29) = true)
    (a30 : PySem.W.nsIn K mainGlobals "_law_deed" = some (some (.ref f30)))
    (l30 : K.lookup f30 = some ⟨oc30, od30, .func (PySem.W.fnOf "_law_deed" "_law_deed" (defArgs s_law_deed) (defBody s_law_deed) (defScope s_law_deed) .none kV30 dc30 pm30 an30 cd30 ct30), sl30⟩) (c30 : PySem.W.codeIn K cd30 "_law_deed" = true) (k30 : PySem.W.keepIn K (.ref f30) = true)
    (a31 : PySem.W.nsIn K mainGlobals "law" = some (some (.ref f31)))
    (l31 : K.lookup f31 = some ⟨oc31, od31, .func (PySem.W.fnOf "law" "law" (defArgs s_law) (defBody s_law) (defScope s_law) .none kV31 dc31 pm31 an31 cd31 ct31), sl31⟩) (c31 : PySem.W.codeIn K cd31 "law" = true) (k31 : PySem.W.keepIn K (.ref f31) = true)
    (bga_MendedError : PySem.W.specialIn K (.ref C_MendedError) "__getattribute__" = some (some (.builtin "type.__getattribute__"))) (brd_MendedError : PySem.W.readsIn K C_MendedError (.type "type") = true) (bfi_MendedError : PySem.W.findCls K (.ref C_MendedError) (.type "type") "__init__" = some (.val (.builtin "ValueError.__init__")))
    {nm_EditError q_EditError : Str} {N_EditError : Addr} {bs_EditError : List Value} {sn_EditError : List Str} {sub_EditError : List Value} {ab_EditError : Bool} {col_EditError : Option Bool} {dd_EditError : Option Addr} {m0_EditError m1_EditError m2_EditError m3_EditError m5_EditError : Option Value}
    (xL_EditError : K.lookup C_EditError = some (excClassObj nm_EditError q_EditError C_EditError N_EditError bs_EditError (.ref C_MendedError :: [.type "ValueError", .type "Exception", .type "BaseException", .type "object"]) true sn_EditError sub_EditError ab_EditError col_EditError dd_EditError m0_EditError m1_EditError m2_EditError m3_EditError m5_EditError "ValueError.__new__"))
    (sa_EditError : PySem.W.findIn K (.ref C_EditError) "__setattr__" = some (some (.builtin "object.__setattr__")))
    (ga_EditError : PySem.W.findIn K (.ref C_EditError) "__getattribute__" = some (some (.builtin "BaseException.__getattribute__")))
    (gg_EditError : PySem.W.findIn K (.ref C_EditError) "__getattr__" = some none)
    (kC_EditError : PySem.W.keepIn K (.ref C_EditError) = true)
    (eC_EditError : PySem.W.subIn K (.ref C_EditError) (.type "BaseException") = some true)
    (tC_EditError : PySem.W.typeIn K (.ref C_EditError) = some (.type "type"))
    (hd_EditError : PySem.W.hasDictIn K C_EditError = true)
    (ha_EditError : PySem.W.findIn K (.ref C_EditError) "__class__" = some (some (.builtin "object.__class__")))
    (hm_EditError : PySem.W.mroIn K C_EditError (.type "object") = some true)
    (sC_EditError : PySem.W.subIn K (.ref C_EditError) (.ref C_EditError) = some true)
    (tI_EditError : PySem.W.typeIn K (.ref f0) = some (.type "function"))
    (n_EditError_index : PySem.W.findIn K (.ref C_EditError) "index" = some none)
    (hn : PySem.W.specialIn K (.builtin "object.__class__") "__get__" = some (some (.builtin "getset_descriptor.__get__"))) (ht : PySem.W.takesIn K (.builtin "object.__class__") = some true)
    (pg_Rope : PySem.W.plainGet K C_Rope Str.empty = true)
    (hdo_Rope : PySem.W.hasDictIn K C_Rope = true)
    (po_Rope : PySem.W.plainOver K C_Rope = true)
    (sao_Rope : PySem.W.findIn K (.ref C_Rope) "__setattr__" = some (some (.builtin "object.__setattr__")))
    (mkC_Rope : PySem.W.makesIn K C_Rope = true)
    (kcC_Rope : PySem.W.keepIn K (.ref C_Rope) = true)
    (ha_Rope : PySem.W.findIn K (.ref C_Rope) "__class__" = some (some (.builtin "object.__class__")))
    (hm_Rope : PySem.W.mroIn K C_Rope (.type "object") = some true)
    (sC_Rope : PySem.W.subIn K (.ref C_Rope) (.ref C_Rope) = some true)
    (iC_Rope : PySem.W.isClsIn K C_Rope = true)
    (tY_Rope : PySem.W.typeIn K (.ref C_Rope) = some (.type "type"))
    (na_Rope_piece : PySem.W.findIn K (.ref C_Rope) "piece" = some none)
    (na_Rope_left : PySem.W.findIn K (.ref C_Rope) "left" = some none)
    (na_Rope_right : PySem.W.findIn K (.ref C_Rope) "right" = some none)
    (na_Rope_size : PySem.W.findIn K (.ref C_Rope) "size" = some none)
    (na_Rope_height : PySem.W.findIn K (.ref C_Rope) "height" = some none)
    (if_Rope__init__ : PySem.W.isFn K (.ref f3) = true)
    (if_Ropewhole : PySem.W.isFn K (.ref f5) = true)
    (if_Ropechar : PySem.W.isFn K (.ref f6) = true)
    (if_Ropecut : PySem.W.isFn K (.ref f7) = true)
    (if_Ropejoined : PySem.W.isFn K (.ref f8) = true)
    (if_Ropeedited : PySem.W.isFn K (.ref f9) = true)
    (sga_Rope : PySem.W.specialIn K (.ref C_Rope) "__getattribute__" = some (some (.builtin "type.__getattribute__"))) (srd_Rope : PySem.W.readsIn K C_Rope (.type "type") = true)
    (s_EditError_MendedError : PySem.W.subIn K (.ref C_EditError) (.ref C_MendedError) = some true)
    (iC_MendedError : PySem.W.isClsIn K C_MendedError = true) (tY_MendedError : PySem.W.typeIn K (.ref C_MendedError) = some (.type "type"))
    (s_EditError_ValueError : PySem.W.subIn K (.ref C_EditError) (.type "ValueError") = some true)
    (s_EditError_Entangled : PySem.W.subIn K (.ref C_EditError) (.ref C_Entangled) = some false)
    (iC_Entangled : PySem.W.isClsIn K C_Entangled = true) (tY_Entangled : PySem.W.typeIn K (.ref C_Entangled) = some (.type "type"))
    (z0 : PySem.W.nsIn K mainGlobals "range" = some none)
    (z1 : PySem.W.nsIn K mainGlobals "min" = some none)
    (z2 : PySem.W.nsIn K mainGlobals "max" = some none)
    (z3 : PySem.W.nsIn K mainGlobals "len" = some none)
    (z4 : PySem.W.nsIn K mainGlobals "abs" = some none)
    (z5 : PySem.W.nsIn K mainGlobals "int" = some none)
    (z6 : PySem.W.nsIn K mainGlobals "sum" = some none)
    (z7 : PySem.W.nsIn K mainGlobals "isinstance" = some none)
    (z8 : PySem.W.nsIn K mainGlobals "bool" = some none)
    (z9 : PySem.W.nsIn K mainGlobals "list" = some none)
    (z10 : PySem.W.nsIn K mainGlobals "tuple" = some none)
    (z11 : PySem.W.nsIn K mainGlobals "str" = some none)
    (z12 : PySem.W.nsIn K mainGlobals "enumerate" = some none)
    (z13 : PySem.W.nsIn K mainGlobals "sorted" = some none)
    (z14 : PySem.W.nsIn K mainGlobals "ValueError" = some none)
    {t0 : Tok} (y0 : PySem.W.nsIn K mainGlobals "LONGEST" = some (some (Value.int 16 t0)))
    : ∃ fd : FuncData, (∀ (s : Shared) (v : Value), BindsTo s fd ⟨[v], []⟩ [("script", v)]) ∧ ∀ base : Heap, K.In base → base.Ns mainGlobals mg → FnOk l.prog w K mg base CX0 100 fa fd ["script"] (spLaw K) := by
  have e := hfa.symm.trans (PySem.W.mg_of X G a31)
  cases e
  have F0 := fun_mk (st := s_EditError_init) l0 c0 k0
  have b0 := F0.binds (ps := ["self", "index"]) fun _ _ _ _ _ _ us hl => match us, hl with | [_, _], _ => rfl
  have F1 := fun_mk (st := s_first_misfit) l1 c1 k1
  have b1 := F1.binds (ps := ["length", "edits"]) fun _ _ _ _ _ _ us hl => match us, hl with | [_, _], _ => rfl
  have F2 := fun_mk (st := s_check_fits) l2 c2 k2
  have b2 := F2.binds (ps := ["length", "edits"]) fun _ _ _ _ _ _ us hl => match us, hl with | [_, _], _ => rfl
  have F3 := fun_mk (st := s_Rope_init) l3 c3 k3
  have b3 := F3.binds (ps := ["self", "piece", "left", "right"]) fun _ _ _ _ _ _ us hl => match us, hl with | [_, _, _, _], _ => rfl
  have F4 := fun_mk (st := s_Rope_of) l4 c4 k4
  have b4 := F4.binds (ps := ["text"]) fun _ _ _ _ _ _ us hl => match us, hl with | [_], _ => rfl
  have F5 := fun_mk (st := s_Rope_whole) l5 c5 k5
  have b5 := F5.binds (ps := ["self"]) fun _ _ _ _ _ _ us hl => match us, hl with | [_], _ => rfl
  have F6 := fun_mk (st := s_Rope_char) l6 c6 k6
  have b6 := F6.binds (ps := ["self", "index"]) fun _ _ _ _ _ _ us hl => match us, hl with | [_, _], _ => rfl
  have F7 := fun_mk (st := s_Rope_cut) l7 c7 k7
  have b7 := F7.binds (ps := ["self", "start", "end"]) fun _ _ _ _ _ _ us hl => match us, hl with | [_, _, _], _ => rfl
  have F8 := fun_mk (st := s_Rope_joined) l8 c8 k8
  have b8 := F8.binds (ps := ["self", "other"]) fun _ _ _ _ _ _ us hl => match us, hl with | [_, _], _ => rfl
  have F9 := fun_mk (st := s_Rope_edited) l9 c9 k9
  have b9 := F9.binds (ps := ["self", "edits"]) fun _ _ _ _ _ _ us hl => match us, hl with | [_, _], _ => rfl
  have F10 := fun_mk (st := s_tree) l10 c10 k10
  have b10 := F10.binds (ps := ["pieces"]) fun _ _ _ _ _ _ us hl => match us, hl with | [_], _ => rfl
  have F11 := fun_mk (st := s_balanced) l11 c11 k11
  have b11 := F11.binds (ps := ["left", "right"]) fun _ _ _ _ _ _ us hl => match us, hl with | [_, _], _ => rfl
  have F12 := fun_mk (st := s_law_reel) l12 c12 k12
  have b12 := F12.binds (ps := ["script"]) fun _ _ _ _ _ _ us hl => match us, hl with | [_], _ => rfl
  have F13 := fun_mk (st := s_law_draw) l13 c13 k13
  have b13 := F13.binds (ps := ["reel", "size"]) fun _ _ _ _ _ _ us hl => match us, hl with | [_, _], _ => rfl
  have F14 := fun_mk (st := s_law_pick) l14 c14 k14
  have b14 := F14.binds (ps := ["reel", "row"]) fun _ _ _ _ _ _ us hl => match us, hl with | [_, _], _ => rfl
  have F15 := fun_mk (st := s_law_word) l15 c15 k15
  have b15 := F15.binds (ps := ["reel", "letters", "least", "most"]) fun _ _ _ _ _ _ us hl => match us, hl with | [_, _, _, _], _ => rfl
  have F16 := fun_mk (st := s_law_number) l16 c16 k16
  have b16 := F16.binds (ps := ["value"]) fun _ _ _ _ _ _ us hl => match us, hl with | [_], _ => rfl
  have F17 := fun_mk (st := s_law_signs) l17 c17 k17
  have b17 := F17.binds (ps := []) fun _ _ _ _ _ _ us hl => match us, hl with | [], _ => rfl
  have F18 := fun_mk (st := s_law_stepped) l18 c18 k18
  have b18 := F18.binds (ps := ["reel", "size"]) fun _ _ _ _ _ _ us hl => match us, hl with | [_, _], _ => rfl
  have F19 := fun_mk (st := s_law_text) l19 c19 k19
  have b19 := F19.binds (ps := ["reel"]) fun _ _ _ _ _ _ us hl => match us, hl with | [_], _ => rfl
  have F20 := fun_mk (st := s_law_new) l20 c20 k20
  have b20 := F20.binds (ps := ["reel"]) fun _ _ _ _ _ _ us hl => match us, hl with | [_], _ => rfl
  have F21 := fun_mk (st := s_law_edit_row) l21 c21 k21
  have b21 := F21.binds (ps := ["reel", "text", "count"]) fun _ _ _ _ _ _ us hl => match us, hl with | [_, _, _], _ => rfl
  have F22 := fun_mk (st := s_law_unfit) l22 c22 k22
  have b22 := F22.binds (ps := ["reel", "size"]) fun _ _ _ _ _ _ us hl => match us, hl with | [_, _], _ => rfl
  have F23 := fun_mk (st := s_law_planted) l23 c23 k23
  have b23 := F23.binds (ps := ["reel", "text", "edits", "many"]) fun _ _ _ _ _ _ us hl => match us, hl with | [_, _, _, _], _ => rfl
  have F24 := fun_mk (st := s_law_splice) l24 c24 k24
  have b24 := F24.binds (ps := ["text", "edits"]) fun _ _ _ _ _ _ us hl => match us, hl with | [_, _], _ => rfl
  have F25 := fun_mk (st := s_law_first_unfit) l25 c25 k25
  have b25 := F25.binds (ps := ["size", "edits"]) fun _ _ _ _ _ _ us hl => match us, hl with | [_, _], _ => rfl
  have F26 := fun_mk (st := s_law_whole_ok) l26 c26 k26
  have b26 := F26.binds (ps := ["reel", "rope", "text"]) fun _ _ _ _ _ _ us hl => match us, hl with | [_, _, _], _ => rfl
  have F27 := fun_mk (st := s_law_marks) l27 c27 k27
  have b27 := F27.binds (ps := ["rope"]) fun _ _ _ _ _ _ us hl => match us, hl with | [_], _ => rfl
  have F28 := fun_mk (st := s_law_refused) l28 c28 k28
  have b28 := F28.binds (ps := ["rope", "edits"]) fun _ _ _ _ _ _ us hl => match us, hl with | [_, _], _ => rfl
  have F29 := fun_mk (st := s_law_edited) l29 c29 k29
  have b29 := F29.binds (ps := ["reel", "rope", "text", "edits"]) fun _ _ _ _ _ _ us hl => match us, hl with | [_, _, _, _], _ => rfl
  have F30 := fun_mk (st := s_law_deed) l30 c30 k30
  have b30 := F30.binds (ps := ["reel", "rope", "text", "ropes", "texts"]) fun _ _ _ _ _ _ us hl => match us, hl with | [_, _, _, _, _], _ => rfl
  have F31 := fun_mk (st := s_law) l31 c31 k31
  have b31 := F31.binds (ps := ["script"]) fun _ _ _ _ _ _ us hl => match us, hl with | [_], _ => rfl
  let T : Txt K mg :=
    { C_MendedError := C_MendedError,
      G_MendedError := PySem.W.mg_of X G g_MendedError,
      C_EditError := C_EditError,
      G_EditError := PySem.W.mg_of X G g_EditError,
      C_Entangled := C_Entangled,
      G_Entangled := PySem.W.mg_of X G g_Entangled,
      C_Rope := C_Rope,
      G_Rope := PySem.W.mg_of X G g_Rope,
      a_EditError_init := _, fd_EditError_init := _, F_EditError_init := F0, b_EditError_init := b0,
      a_first_misfit := _, fd_first_misfit := _, F_first_misfit := F1, b_first_misfit := b1, g_first_misfit := PySem.W.mg_of X G a1,
      a_check_fits := _, fd_check_fits := _, F_check_fits := F2, b_check_fits := b2, g_check_fits := PySem.W.mg_of X G a2,
      a_Rope_init := _, fd_Rope_init := _, F_Rope_init := F3, b_Rope_init := b3,
      a_Rope_of := _, fd_Rope_of := _, F_Rope_of := F4, b_Rope_of := b4,
      a_Rope_whole := _, fd_Rope_whole := _, F_Rope_whole := F5, b_Rope_whole := b5,
      a_Rope_char := _, fd_Rope_char := _, F_Rope_char := F6, b_Rope_char := b6,
      a_Rope_cut := _, fd_Rope_cut := _, F_Rope_cut := F7, b_Rope_cut := b7,
      a_Rope_joined := _, fd_Rope_joined := _, F_Rope_joined := F8, b_Rope_joined := b8,
      a_Rope_edited := _, fd_Rope_edited := _, F_Rope_edited := F9, b_Rope_edited := b9,
      a_tree := _, fd_tree := _, F_tree := F10, b_tree := b10, g_tree := PySem.W.mg_of X G a10,
      a_balanced := _, fd_balanced := _, F_balanced := F11, b_balanced := b11, g_balanced := PySem.W.mg_of X G a11,
      a_law_reel := _, fd_law_reel := _, F_law_reel := F12, b_law_reel := b12, g_law_reel := PySem.W.mg_of X G a12,
      a_law_draw := _, fd_law_draw := _, F_law_draw := F13, b_law_draw := b13, g_law_draw := PySem.W.mg_of X G a13,
      a_law_pick := _, fd_law_pick := _, F_law_pick := F14, b_law_pick := b14, g_law_pick := PySem.W.mg_of X G a14,
      a_law_word := _, fd_law_word := _, F_law_word := F15, b_law_word := b15, g_law_word := PySem.W.mg_of X G a15,
      a_law_number := _, fd_law_number := _, F_law_number := F16, b_law_number := b16, g_law_number := PySem.W.mg_of X G a16,
      a_law_signs := _, fd_law_signs := _, F_law_signs := F17, b_law_signs := b17, g_law_signs := PySem.W.mg_of X G a17,
      a_law_stepped := _, fd_law_stepped := _, F_law_stepped := F18, b_law_stepped := b18, g_law_stepped := PySem.W.mg_of X G a18,
      a_law_text := _, fd_law_text := _, F_law_text := F19, b_law_text := b19, g_law_text := PySem.W.mg_of X G a19,
      a_law_new := _, fd_law_new := _, F_law_new := F20, b_law_new := b20, g_law_new := PySem.W.mg_of X G a20,
      a_law_edit_row := _, fd_law_edit_row := _, F_law_edit_row := F21, b_law_edit_row := b21, g_law_edit_row := PySem.W.mg_of X G a21,
      a_law_unfit := _, fd_law_unfit := _, F_law_unfit := F22, b_law_unfit := b22, g_law_unfit := PySem.W.mg_of X G a22,
      a_law_planted := _, fd_law_planted := _, F_law_planted := F23, b_law_planted := b23, g_law_planted := PySem.W.mg_of X G a23,
      a_law_splice := _, fd_law_splice := _, F_law_splice := F24, b_law_splice := b24, g_law_splice := PySem.W.mg_of X G a24,
      a_law_first_unfit := _, fd_law_first_unfit := _, F_law_first_unfit := F25, b_law_first_unfit := b25, g_law_first_unfit := PySem.W.mg_of X G a25,
      a_law_whole_ok := _, fd_law_whole_ok := _, F_law_whole_ok := F26, b_law_whole_ok := b26, g_law_whole_ok := PySem.W.mg_of X G a26,
      a_law_marks := _, fd_law_marks := _, F_law_marks := F27, b_law_marks := b27, g_law_marks := PySem.W.mg_of X G a27,
      a_law_refused := _, fd_law_refused := _, F_law_refused := F28, b_law_refused := b28, g_law_refused := PySem.W.mg_of X G a28,
      a_law_edited := _, fd_law_edited := _, F_law_edited := F29, b_law_edited := b29, g_law_edited := PySem.W.mg_of X G a29,
      a_law_deed := _, fd_law_deed := _, F_law_deed := F30, b_law_deed := b30, g_law_deed := PySem.W.mg_of X G a30,
      a_law := _, fd_law := _, F_law := F31, b_law := b31, g_law := PySem.W.mg_of X G a31,
      B_MendedError := ⟨bga_MendedError, brd_MendedError, bfi_MendedError⟩,
      E_EditError := errK_mk (PySem.W.mg_of X G g_EditError) xL_EditError (by rfl) sa_EditError ga_EditError gg_EditError a0 tI_EditError kC_EditError eC_EditError tC_EditError hd_EditError ha_EditError hn ht hm_EditError sC_EditError,
      n_EditError_index := n_EditError_index,
      CL_Rope := ⟨pg_Rope, hdo_Rope, po_Rope, sao_Rope⟩,
      MK_Rope := ⟨mkC_Rope, a3, if_Rope__init__, kcC_Rope⟩,
      IC_Rope := ⟨⟨pg_Rope, hdo_Rope, po_Rope, sao_Rope⟩, ha_Rope, hn, ht, hm_Rope, kit_refT sC_Rope iC_Rope tY_Rope⟩,
      NA_Rope_piece := na_Rope_piece,
      NA_Rope_left := na_Rope_left,
      NA_Rope_right := na_Rope_right,
      NA_Rope_size := na_Rope_size,
      NA_Rope_height := na_Rope_height,
      ME_Ropewhole := ⟨a5, if_Ropewhole, k5⟩,
      ME_Ropechar := ⟨a6, if_Ropechar, k6⟩,
      ME_Ropecut := ⟨a7, if_Ropecut, k7⟩,
      ME_Ropejoined := ⟨a8, if_Ropejoined, k8⟩,
      ME_Ropeedited := ⟨a9, if_Ropeedited, k9⟩,
      ST_Ropeof := ⟨sga_Rope, srd_Rope, ⟨_, _, ac4, a4⟩, k4⟩,
      k_EditError_MendedError := kit_refT s_EditError_MendedError iC_MendedError tY_MendedError,
      k_EditError_ValueError := kit_refTy s_EditError_ValueError (by decide +kernel),
      k_EditError_Entangled := kit_refF sC_EditError s_EditError_Entangled iC_Entangled tY_Entangled,
      m_range := PySem.W.mg_none_of X G z0,
      m_min := PySem.W.mg_none_of X G z1,
      m_max := PySem.W.mg_none_of X G z2,
      m_len := PySem.W.mg_none_of X G z3,
      m_abs := PySem.W.mg_none_of X G z4,
      m_int := PySem.W.mg_none_of X G z5,
      m_sum := PySem.W.mg_none_of X G z6,
      m_isinstance := PySem.W.mg_none_of X G z7,
      m_bool := PySem.W.mg_none_of X G z8,
      m_list := PySem.W.mg_none_of X G z9,
      m_tuple := PySem.W.mg_none_of X G z10,
      m_str := PySem.W.mg_none_of X G z11,
      m_enumerate := PySem.W.mg_none_of X G z12,
      m_sorted := PySem.W.mg_none_of X G z13,
      m_ValueError := PySem.W.mg_none_of X G z14,
      c_LONGEST := ⟨_, PySem.W.mg_of X G y0⟩ }
  exact ⟨PySem.W.fnOf "law" "law" (defArgs s_law) (defBody s_law) (defScope s_law) .none kV31 dc31 pm31 an31 cd31 ct31, fun s v => .of_eq rfl, fun base _ _ => ok_top T⟩
end M
open PySem PySem.W PyProof.Rows
set_option maxRecDepth 100000 in
set_option maxHeartbeats 0 in
theorem PySem.Challenge.cw_mendedtree_k62_rope_text_holds : PySem.Challenge.rw_mendedtree_k62_rope_text.Holds := by
  w_on; o_law; k_head; (case hw => w_witness2)
  k_fill
  refine L2.walk_of (l := PySem.Challenge.rw_mendedtree_k62_rope_text) (n := 63) (k := 100) (x := "script") (CX := fun _ => L2.CX0) (sp := fun w => M.spLaw _) rfl (by decide) rfl ⟨rfl, by decide, by decide⟩ (fun w h Y => PySem.W.kIn_of Y) ?F (fun _ _ a ns hl _ hS => ⟨a, ns, rfl, hS, hl, fun _ => rfl⟩) (fun _ _ _ _ _ h => h)
  case F =>
    intro w mg fa h KX G hmg
    refine' M.all_mk KX G hmg ?g_MendedError ?g_EditError ?g_Entangled ?g_Rope ?a0 ?l0 ?c0 ?k0 ?a1 ?l1 ?c1 ?k1 ?a2 ?l2 ?c2 ?k2 ?a3 ?l3 ?c3 ?k3 ?ac4 ?a4 ?l4 ?c4 ?k4 ?a5 ?l5 ?c5 ?k5 ?a6 ?l6 ?c6 ?k6 ?a7 ?l7 ?c7 ?k7 ?a8 ?l8 ?c8 ?k8 ?a9 ?l9 ?c9 ?k9 ?a10 ?l10 ?c10 ?k10 ?a11 ?l11 ?c11 ?k11 ?a12 ?l12 ?c12 ?k12 ?a13 ?l13 ?c13 ?k13 ?a14 ?l14 ?c14 ?k14 ?a15 ?l15 ?c15 ?k15 ?a16 ?l16 ?c16 ?k16 ?a17 ?l17 ?c17 ?k17 ?a18 ?l18 ?c18 ?k18 ?a19 ?l19 ?c19 ?k19 ?a20 ?l20 ?c20 ?k20 ?a21 ?l21 ?c21 ?k21 ?a22 ?l22 ?c22 ?k22 ?a23 ?l23 ?c23 ?k23 ?a24 ?l24 ?c24 ?k24 ?a25 ?l25 ?c25 ?k25 ?a26 ?l26 ?c26 ?k26 ?a27 ?l27 ?c27 ?k27 ?a28 ?l28 ?c28 ?k28 ?a29 ?l29 ?c29 ?k29 ?a30 ?l30 ?c30 ?k30 ?a31 ?l31 ?c31 ?k31 ?bga_MendedError ?brd_MendedError ?bfi_MendedError ?xL_EditError ?sa_EditError ?ga_EditError ?gg_EditError ?kC_EditError ?eC_EditError ?tC_EditError ?hd_EditError ?ha_EditError ?hm_EditError ?sC_EditError ?tI_EditError ?n_EditError_index ?hn ?ht ?pg_Rope ?hdo_Rope ?po_Rope ?sao_Rope ?mkC_Rope ?kcC_Rope ?ha_Rope ?hm_Rope ?sC_Rope ?iC_Rope ?tY_Rope ?na_Rope_piece ?na_Rope_left ?na_Rope_right ?na_Rope_size ?na_Rope_height ?if_Rope__init__ ?if_Ropewhole ?if_Ropechar ?if_Ropecut ?if_Ropejoined ?if_Ropeedited ?sga_Rope ?srd_Rope ?s_EditError_MendedError ?iC_MendedError ?tY_MendedError ?s_EditError_ValueError ?s_EditError_Entangled ?iC_Entangled ?tY_Entangled ?z0 ?z1 ?z2 ?z3 ?z4 ?z5 ?z6 ?z7 ?z8 ?z9 ?z10 ?z11 ?z12 ?z13 ?z14 ?y0
    (case g_MendedError => k_is); (case g_EditError => k_is); (case g_Entangled => k_is); (case g_Rope => k_is); (case a0 => k_is); (case l0 => k_is); (case c0 => k_is); (case k0 => k_is); (case a1 => k_is); (case l1 => k_is); (case c1 => k_is); (case k1 => k_is); (case a2 => k_is); (case l2 => k_is); (case c2 => k_is); (case k2 => k_is); (case a3 => k_is); (case l3 => k_is); (case c3 => k_is); (case k3 => k_is); (case ac4 => k_is); (case a4 => k_is); (case l4 => k_is); (case c4 => k_is); (case k4 => k_is); (case a5 => k_is); (case l5 => k_is); (case c5 => k_is); (case k5 => k_is); (case a6 => k_is); (case l6 => k_is); (case c6 => k_is); (case k6 => k_is); (case a7 => k_is); (case l7 => k_is); (case c7 => k_is); (case k7 => k_is); (case a8 => k_is); (case l8 => k_is); (case c8 => k_is); (case k8 => k_is); (case a9 => k_is); (case l9 => k_is); (case c9 => k_is); (case k9 => k_is); (case a10 => k_is); (case l10 => k_is); (case c10 => k_is); (case k10 => k_is); (case a11 => k_is); (case l11 => k_is); (case c11 => k_is); (case k11 => k_is); (case a12 => k_is); (case l12 => k_is); (case c12 => k_is); (case k12 => k_is); (case a13 => k_is); (case l13 => k_is); (case c13 => k_is); (case k13 => k_is); (case a14 => k_is); (case l14 => k_is); (case c14 => k_is); (case k14 => k_is); (case a15 => k_is); (case l15 => k_is); (case c15 => k_is); (case k15 => k_is); (case a16 => k_is); (case l16 => k_is); (case c16 => k_is); (case k16 => k_is); (case a17 => k_is); (case l17 => k_is); (case c17 => k_is); (case k17 => k_is); (case a18 => k_is); (case l18 => k_is); (case c18 => k_is); (case k18 => k_is); (case a19 => k_is); (case l19 => k_is); (case c19 => k_is); (case k19 => k_is); (case a20 => k_is); (case l20 => k_is); (case c20 => k_is); (case k20 => k_is); (case a21 => k_is); (case l21 => k_is); (case c21 => k_is); (case k21 => k_is); (case a22 => k_is); (case l22 => k_is); (case c22 => k_is); (case k22 => k_is); (case a23 => k_is); (case l23 => k_is); (case c23 => k_is); (case k23 => k_is); (case a24 => k_is); (case l24 => k_is); (case c24 => k_is); (case k24 => k_is); (case a25 => k_is); (case l25 => k_is); (case c25 => k_is); (case k25 => k_is); (case a26 => k_is); (case l26 => k_is); (case c26 => k_is); (case k26 => k_is); (case a27 => k_is); (case l27 => k_is); (case c27 => k_is); (case k27 => k_is); (case a28 => k_is); (case l28 => k_is); (case c28 => k_is); (case k28 => k_is); (case a29 => k_is); (case l29 => k_is); (case c29 => k_is); (case k29 => k_is); (case a30 => k_is); (case l30 => k_is); (case c30 => k_is); (case k30 => k_is); (case a31 => k_is); (case l31 => k_is); (case c31 => k_is); (case k31 => k_is); (case bga_MendedError => k_is); (case brd_MendedError => k_is); (case bfi_MendedError => k_is); (case xL_EditError => k_is); (case sa_EditError => k_is); (case ga_EditError => k_is); (case gg_EditError => k_is); (case kC_EditError => k_is); (case eC_EditError => k_is); (case tC_EditError => k_is); (case hd_EditError => k_is); (case ha_EditError => k_is); (case hm_EditError => k_is); (case sC_EditError => k_is); (case tI_EditError => k_is); (case n_EditError_index => k_is); (case hn => k_is); (case ht => k_is); (case pg_Rope => k_is); (case hdo_Rope => k_is); (case po_Rope => k_is); (case sao_Rope => k_is); (case mkC_Rope => k_is); (case kcC_Rope => k_is); (case ha_Rope => k_is); (case hm_Rope => k_is); (case sC_Rope => k_is); (case iC_Rope => k_is); (case tY_Rope => k_is); (case na_Rope_piece => k_is); (case na_Rope_left => k_is); (case na_Rope_right => k_is); (case na_Rope_size => k_is); (case na_Rope_height => k_is); (case if_Rope__init__ => k_is); (case if_Ropewhole => k_is); (case if_Ropechar => k_is); (case if_Ropecut => k_is); (case if_Ropejoined => k_is); (case if_Ropeedited => k_is); (case sga_Rope => k_is); (case srd_Rope => k_is); (case s_EditError_MendedError => k_is); (case iC_MendedError => k_is); (case tY_MendedError => k_is); (case s_EditError_ValueError => k_is); (case s_EditError_Entangled => k_is); (case iC_Entangled => k_is); (case tY_Entangled => k_is); (case z0 => k_is); (case z1 => k_is); (case z2 => k_is); (case z3 => k_is); (case z4 => k_is); (case z5 => k_is); (case z6 => k_is); (case z7 => k_is); (case z8 => k_is); (case z9 => k_is); (case z10 => k_is); (case z11 => k_is); (case z12 => k_is); (case z13 => k_is); (case z14 => k_is); (case y0 => k_is)
