import PyProof.Rows.All
import PySem.Challenge.RW_mendedtree_k56_carry_runs
import HandS.ForMost
import HandS.ForExc
import HandS.IsInst
import HandS.Codes
import HandS.FStr
import HandS.FStrTup
import HandS.ExcInit
import HandS.ExcIs
import HandS.ExcField
import HandS.ClsMeth
import HandS.ExcValue
import HandS.Style
import HandS.OwnIter
import HandS.IterVal
import KE.KOpsOwn
set_option Elab.async false
set_option linter.all false
set_option maxRecDepth 100000
set_option maxHeartbeats 4000000
namespace L2
open PySem PySem.Spec PyProof.Rows
/-- what the written part says of an own base class whose __init__ is ValueError's -/
structure BaseC (K : PySem.W.Frag) (C0 : Addr) : Prop where
  ga : PySem.W.specialIn K (.ref C0) "__getattribute__" = some (some (.builtin "type.__getattribute__"))
  rd : PySem.W.readsIn K C0 (.type "type") = true
  fi : PySem.W.findCls K (.ref C0) (.type "type") "__init__" = some (.val (.builtin "ValueError.__init__"))
section
variable {X : Cx} {e : Expr} {es : List Expr} {ta : TA} {p1 p2 pos : Pos} {x : Str} {C0 : Addr}
/-- Base.__init__(self, ..), Base an own class over ValueError without an __init__ of its own -/
theorem pe_baseInit {later : Sem Bool} (hg : Gl X x) (hm : X.mg x = some (.ref C0)) (B : BaseC X.K C0) (ha : PA X (e :: es) ta) (hdb : (x == ("__debug__" : Str)) = false := by decide)
    (told : eval (.Call (.Attribute (.Name x p1) "__init__" p2) (e :: es) [] pos) X.env = (do
      let cls ← eval (.Name x p1) X.env
      standAt p2.atName
      let (m, bound) ← holding [cls] (getMethod cls "__init__" later)
      callWith pos m bound (backTo pos (starEach (e :: es) X.env)) (backToKw pos (keywordEach [] X.env))) := by rfl)
    (one : starEach (e :: es) X.env = (false, eval e X.env) :: starEach es X.env := by rfl) (plain : (backTo pos (starEach es X.env)).any (·.1) = false := by rfl) :
    PE X (.Call (.Attribute (.Name x p1) "__init__" p2) (e :: es) [] pos) (tVeI X.K ta) := by
  constructor
  intro pins s σ H Q I h
  refine PySem.W.methodCall_KW (ld_glob I hg hm (PySem.W.method_cls I.kIn B.ga (PySem.W.cls_value I.kIn B.rd B.fi rfl ?_)) hdb) told
  refine PyProof.Rows.callWith_method1 (id := "ValueError.__init__") (thn (ha.run pos pins _ σ H _ (I.tok _) h) ?_) one plain
  rintro us s1 ⟨vs, H1, I1, r1, a, C, ws, rfl, few, T, here, q⟩
  cases r1 with
  | @cons _ u _ us' ra rw' =>
    have eu : u = Value.ref a := ra
    subst eu
    have n : us'.length ≤ sizeLine := by
      have := Paired.length rw'
      rw [sizeLine_eq]
      omega
    exact oinit_ok T I1 here n fun s2 I2 => ⟨.non, H1, I2, rfl, q⟩
end
end L2

namespace PySem.W
open PySem PySem.Spec PySem.Calls PyProof.Rows
section
variable {prog : Program} {w : World} {A : Around} {E : Value → Shared → Prop} {K : Frag} {D : Addr}
/-- what BaseException's reading of __class__ gives, asked of an error with or without a dict -/
theorem bexc_class {x : Addr} {ox : Obj} {od : Option Obj} {s : Shared} {tk : Tok} {R : Value → Shared → Prop} (C : L2.ExcC K D) (X : K.In s.heap) (I : InstAt s.heap x ox D od) (q : R (.ref D) s)
    (hf : findObj K D od "__class__" = some (.bind (.builtin "getset_descriptor.__get__") (.builtin "object.__class__"))) :
    wpAny (model prog w) A (call (.builtin "BaseException.__getattribute__") [.ref x, .str "__class__" tk]) R E s := by
  have ty := I.type (M := model prog w)
  have isExc : Looks (model prog w) s.heap (isInstance (.ref x) (.type "BaseException")) true := ty.andThen (looks_subIn X C.hs)
  refine wpAny_call (codeAny_call_builtin PySem.F.excAttr_ValueError.ga.plain PySem.F.entry_bexc_ga (@check_slot (model prog w) _ _ s "BaseException.__getattribute__" "BaseException" "__getattribute__" (.ref x) [.str "__class__" tk] [] _ (by decide +kernel) (by decide +kernel) isExc (PySem.F.args_bexc_ga (.ref x) (.str "__class__" tk)) ?_))
  unfold Builtin.«object.__getattribute__»
  refine wpAny_bind (wpAny_of_eq (a := ((Value.ref x : Value), [Value.str "__class__" tk])) (by first | rfl | (simp only [slotArgs]; rfl)) (wpAny_bind (wpAny_pure (wpAny_bind (ty.at (wpAny_bind ((looks_find (M := model prog w) X I hf).at ?_)))))))
  exact wpAny_bind (wpAny_holding (wpAny_call (class_get (ox := ox) (od := od) X I C.hm (wpAny_pure (by first | exact wpAny_pure q | exact q)))))
theorem if_no {b : Bool} {m n : Sem Value} {R : Value → Shared → Prop} {F : Value → Shared → Prop} {u : Shared} (e : b = false) (k : wpAny (model prog w) A n R F u) : wpAny (model prog w) A (if b = true then m else n) R F u := by
  subst e
  exact k
theorem class_of_err {x : Addr} {ox od : Obj} {s : Shared} {Q : Option Value → Shared → Prop} (C : L2.ExcC K D) (X : K.In s.heap) (I : InstAt s.heap x ox D (some od)) (q : Q (some (.ref D)) { s with toks := s.toks + 1 }) :
    wpAny (model prog w) A (getAttr? (.ref x) "__class__") Q E s := by
  have some_cls : (clsIn K D).isSome = true := by
    obtain ⟨c, e, _⟩ := any_some C.hd
    rw [e] <;> rfl
  have found := findObj_data (od := od) some_cls C.ha C.hn C.ht
  have other : (Value.builtin "BaseException.__getattribute__" == Value.builtin "object.__getattribute__") = false := by decide +kernel
  obtain ⟨hp, g, d, t, os⟩ := s
  have ty := I.type (M := model prog w)
  unfold getAttr? getAttrBy? getAttrBy
  refine wpAny_bind (wpAny_mkText (wpAny_bind (wpAny_attempt (wpAny_holding (wpAny_bind (ty.at (wpAny_bind ((looks_findIn (M := model prog w) X C.hg).at ?_))))))))
  refine if_no (by rw [other]; rfl) ?_
  unfold getAttrByItsOwn hookBefore
  refine wpAny_bind ?_
  rw [if_pos (by rfl : onTheHeap (Value.ref D) = true)]
  refine (looks_findIn (M := model prog w) X C.hk).at (wpAny_bind (wpAny_attempt (wpAny_holding ?_)))
  unfold callGetattribute
  refine if_no (by rfl) ?_
  unfold boundAndCalled
  rw [PySem.F.excAttr_ValueError.ga.bind (.ref x)]
  refine wpAny_bind (wpAny_pure (bexc_class C X I ?_ found))
  first
    | exact wpAny_pure (wpAny_pure q)
    | exact wpAny_bind (wpAny_pure (wpAny_pure q))
    | exact wpAny_pure q
    | exact wpAny_pure (wpAny_bind (wpAny_pure (wpAny_pure q)))
/-- isinstance of an error that has a dict -/
theorem own_kitx {x : Addr} {ox : Obj} (C : L2.ExcC K D) : KitX K (.ref x) (.ref D) (fun h => ∃ od, InstAt h x ox D (some od)) :=
  { ty := fun _ _ _ ⟨_, I⟩ => I.type
    it := fun M h X _ A' Q' E' s' k q => (mc_isType (s := s') (fun b o e => k b o (X b o e)) C.hd).at q
    ne := (handS_kitx_exc (x := x) (ox := ox) C.hg C.hk C.hs C.hd C.ha C.hn C.ht C.hm).ne
    ca := fun X ⟨_, I⟩ q => class_of_err C X I q }
end
end PySem.W
namespace L2
open PySem PySem.Spec PyProof.Rows
section
variable {X : Cx} {a D dd : Addr} {oe : Obj} {pn : List (Addr × Obj)}
theorem suite_inst {pins : List (Addr × Obj)} {σ : L2.St} {H : Hp} {s : Shared} {fs : List (Str × V)} (I : Inv (X.suite a ((a, oe) :: pn)) pins σ H s) (hz : Zc (.ref D) (some dd) oe) (hf : ∃ vs, oe.data = .fields vs) (hx : H dd = some (.xd fs)) :
    ∃ od, PySem.W.InstAt s.heap a oe D (some od) := by
  have here := (I.pin (a, oe) (by simp [Cx.suite])).1
  obtain ⟨vs, hv⟩ := hf
  have hdx : ObjOk X.prog X.w H s.heap dd (.xd fs) := I.hok dd _ hx
  obtain ⟨m, names, _⟩ := hdx
  obtain ⟨o, ho, _⟩ := lookIn_ns names
  refine ⟨o, here, hz.1, ?_, by rw [hz.2]; exact ho⟩
  unfold PySem.W.notCls
  rw [hv] <;> rfl
/-- isinstance(e, c), e the exception that the suite holds, with its dict at dd -/
def rIsD (K : PySem.W.Frag) (D a dd : Addr) : List V → Hp → VK → Prop := fun xs H Q => ∃ (c : V) (cv : Value) (b : Bool) (fs : List (Str × V)), xs = [.ref a, c] ∧ ClsV c cv ∧ H dd = some (.xd fs) ∧ PySem.W.kitOne K (.ref D) cv = some b ∧ Q (.bl b) H
theorem call_isD (C : ExcC X.K D) (hz : Zc (.ref D) (some dd) oe) (hf : ∃ vs, oe.data = .fields vs) : CallR (X.suite a ((a, oe) :: pn)) (.builtin "isinstance") (rIsD X.K D a dd) := by
  rintro pins s σ H xs us Q I r ⟨c, cv, b, fs, rfl, hcv, hx, e, q⟩
  obtain ⟨w1, w2, rfl, p1, p2⟩ := vals2 r
  have e1 : w1 = Value.ref a := p1
  have e2 := hcv.eq p2
  subst e1 e2
  exact PySem.W.kia_one (PySem.W.own_kitx C) I.kIn (suite_inst I hz hf hx) e nofun fun tk => ⟨.bl b, H, I.kept (t' := tk) fun _ _ z => z, rfl, q⟩
/-- isinstance(e, (c1, c2, ..)) -/
def rIsDT (K : PySem.W.Frag) (D a dd : Addr) : List V → Hp → VK → Prop := fun xs H Q => ∃ (tp : Addr) (cs : List V) (us : List Value) (b : Bool) (fs : List (Str × V)), xs = [.ref a, .ref tp] ∧ H tp = some (.tup cs) ∧ Paired ClsV cs us ∧ H dd = some (.xd fs) ∧ PySem.W.kitAny K (.ref D) us = some b ∧ Q (.bl b) H
theorem call_isDT (C : ExcC X.K D) (hz : Zc (.ref D) (some dd) oe) (hf : ∃ vs, oe.data = .fields vs) : CallR (X.suite a ((a, oe) :: pn)) (.builtin "isinstance") (rIsDT X.K D a dd) := by
  rintro pins s σ H xs us Q I r ⟨tp, cs, ws, b, fs, rfl, hT, k, hx, e, q⟩
  obtain ⟨w1, w2, rfl, p1, p2⟩ := vals2 r
  have e1 : w1 = Value.ref a := p1
  have e2 : w2 = Value.ref tp := p2
  subst e1 e2
  have hok : ObjOk X.prog X.w H s.heap tp (.tup cs) := I.hok tp _ hT
  obtain ⟨_, its, rv, ⟨oc, od, dt, sl⟩, g1, g2, n, g3⟩ := hok
  have e3 := ClsV.all k rv
  dsimp only at g2 g3
  subst e3 g2 g3
  exact PySem.W.kia_tup (PySem.W.own_kitx C) I.kIn (suite_inst I hz hf hx) g1 e nofun fun tk => ⟨.bl b, H, I.kept (t' := tk) fun _ _ z => z, rfl, q⟩
end
end L2

namespace L2
open PySem PySem.Spec PyProof.Rows
/-- an own error class (name) at C, with an __init__ of its own at fI -/
structure ErrK (K : PySem.W.Frag) (mg : Str → Option Value) (name : Str) (C fI : Addr) : Prop where
  g : mg name = some (.ref C)
  oex : OexC K C
  iC : PySem.W.findIn K (.ref C) "__init__" = some (some (.ref fI))
  tI : PySem.W.typeIn K (.ref fI) = some (.type "function")
  exc : ExcC K C
  xf : XfC K C
  self : PySem.W.exmOne K (.ref C) (.ref C) = some true
theorem errK_mk {K : PySem.W.Frag} {mg : Str → Option Value} {name : Str} {C fI : Addr}
    {nm q : Str} {N : Addr} {bs bm : List Value} {sn : List Str} {sub : List Value} {ab : Bool} {col : Option Bool} {dd : Option Addr} {m0 m1 m2 m3 m5 : Option Value}
    (g : mg name = some (.ref C)) (xL : K.lookup C = some (excClassObj nm q C N bs bm true sn sub ab col dd m0 m1 m2 m3 m5 "ValueError.__new__")) (hbm : PySem.HandSPX.refsVE bm = true)
    (sa : PySem.W.findIn K (.ref C) "__setattr__" = some (some (.builtin "object.__setattr__"))) (ga : PySem.W.findIn K (.ref C) "__getattribute__" = some (some (.builtin "BaseException.__getattribute__"))) (gg : PySem.W.findIn K (.ref C) "__getattr__" = some none)
    (iC : PySem.W.findIn K (.ref C) "__init__" = some (some (.ref fI))) (tI : PySem.W.typeIn K (.ref fI) = some (.type "function")) (kC : PySem.W.keepIn K (.ref C) = true) (eC : PySem.W.subIn K (.ref C) (.type "BaseException") = some true) (tC : PySem.W.typeIn K (.ref C) = some (.type "type"))
    (hd : PySem.W.hasDictIn K C = true) (ha : PySem.W.findIn K (.ref C) "__class__" = some (some (.builtin "object.__class__"))) (hn : PySem.W.specialIn K (.builtin "object.__class__") "__get__" = some (some (.builtin "getset_descriptor.__get__")))
    (ht : PySem.W.takesIn K (.builtin "object.__class__") = some true) (hm : PySem.W.mroIn K C (.type "object") = some true) (sC : PySem.W.subIn K (.ref C) (.ref C) = some true) : ErrK K mg name C fI :=
  { g := g, oex := ⟨⟨nm, q, N, bs, bm, sn, sub, ab, col, dd, m0, m1, m2, m3, m5, xL, hbm⟩, sa, eC, tC, kC⟩, iC := iC, tI := tI, exc := ⟨ga, gg, eC, hd, ha, hn, ht, hm⟩, xf := ⟨ga, gg, eC, hd⟩, self := PySem.W.exm_ref eC hd tC sC }
/-- what making such an error with one field leaves: an error whose dict holds the field, all else as it was -/
def spInit1 (f : Str) (C : Addr) (ok : V → Prop) : Sp := fun vs H Q _ => ∃ (a : Addr) (v : V), vs = [.ref a, v] ∧ ok v ∧ H a = some (exo a C none) ∧ ∀ dx, H dx = none → dx ≠ a → Q .non (upd (upd H dx (exd dx [(f, v)])) a (exo a C (some dx)))
theorem made1 {H : Hp} {a dx C : Addr} {f : Str} {v : V} {fs : List (Str × V)} (na : H a = none) (nd : (upd H a (exo a C none)) dx = none) (hne : dx ≠ a) :
    H dx = none ∧ Same H (upd (del (upd (upd (upd H a (exo a C none)) dx (exd dx fs)) a (exo a C (some dx))) a) dx (.xd fs)) ∧ (upd (del (upd (upd (upd H a (exo a C none)) dx (exd dx fs)) a (exo a C (some dx))) a) dx (.xd fs)) dx = some (.xd fs) := by
  have nd' : H dx = none := by
    rw [upd_ne hne] at nd
    exact nd
  refine ⟨nd', fun b o e => ?_, upd_same⟩
  have h1 : b ≠ dx := ne_of_none e nd'
  have h2 : b ≠ a := ne_of_none e na
  rw [upd_ne h1, del_ne h2, upd_ne h2, upd_ne h1, upd_ne h2]
  exact e
/-- the reading of C(e), from such a promise of __init__ -/
theorem mk1 {C : Addr} {f : Str} {ok : V → Prop} {ta : TA} {σ : L2.St} {H : Hp} {Q : XK} (h : ta σ H fun vs H1 => ∃ v, vs = [v] ∧ ok v ∧ ∀ d H', Same H1 H' → H1 d = none → H' d = some (.xd [(f, v)]) → Q (.ref C) (some d) H')
    (mono : ∀ Q1 Q2 : List V → Hp → Prop, (∀ vs H1, Q1 vs H1 → Q2 vs H1) → ta σ H Q1 → ta σ H Q2) : tMkO C (spInit1 f C ok) [] ta σ H Q := by
  refine mono _ _ (fun vs H1 h1 => ?_) h
  obtain ⟨v, rfl, hv, q⟩ := h1
  refine ⟨by show 1 ≤ 1000; decide, fun a na => ⟨a, v, rfl, hv, upd_same, fun dx nd hne => ⟨rfl, dx, [(f, v)], upd_same, ?_, ?_, ?_⟩⟩⟩
  · rw [upd_ne hne, upd_same]
  · exact (made1 (f := f) (v := v) (fs := [(f, v)]) na nd hne).1
  · obtain ⟨m1, m2, m3⟩ := made1 (f := f) (v := v) (fs := [(f, v)]) na nd hne
    exact q dx _ m2 m1 m3
end L2
namespace L2
open PySem PySem.Spec PyProof.Rows
theorem kit_refT {K : PySem.W.Frag} {C D : Addr} (h : PySem.W.subIn K (.ref C) (.ref D) = some true) (i : PySem.W.isClsIn K D = true) (t : PySem.W.typeIn K (.ref D) = some (.type "type")) : PySem.W.kitOne K (.ref C) (.ref D) = some true := by
  unfold PySem.W.kitOne
  split
  · rfl
  · show (if ((PySem.W.clsIn K D).isSome && PySem.W.typeIn K (.ref D) == some (.type "type")) = true then PySem.W.subIn K (.ref C) (.ref D) else none) = some true
    have i' : (PySem.W.clsIn K D).isSome = true := i
    rw [i', t, h]
    rfl
theorem kit_refF {K : PySem.W.Frag} {C D : Addr} (h0 : PySem.W.subIn K (.ref C) (.ref C) = some true) (h : PySem.W.subIn K (.ref C) (.ref D) = some false) (i : PySem.W.isClsIn K D = true) (t : PySem.W.typeIn K (.ref D) = some (.type "type")) : PySem.W.kitOne K (.ref C) (.ref D) = some false := by
  have hne : (Value.ref C == Value.ref D) = false := by
    rw [beq_eq_false_iff_ne]
    intro e
    have e' : C = D := Value.ref.inj e
    rw [← e', h0] at h
    cases h
  unfold PySem.W.kitOne
  rw [hne]
  show (if ((PySem.W.clsIn K D).isSome && PySem.W.typeIn K (.ref D) == some (.type "type")) = true then PySem.W.subIn K (.ref C) (.ref D) else none) = some false
  have i' : (PySem.W.clsIn K D).isSome = true := i
  rw [i', t, h]
  rfl
theorem kit_refTy {K : PySem.W.Frag} {C : Addr} {T : String} {b : Bool} (h : PySem.W.subIn K (.ref C) (.type T) = some b) (m : PySem.W.kitMeta T = true) : PySem.W.kitOne K (.ref C) (.type T) = some b := by
  unfold PySem.W.kitOne
  have hne : (Value.ref C == Value.type T) = false := by
    rw [beq_eq_false_iff_ne]
    intro e
    cases e
  rw [hne]
  show (if PySem.W.kitMeta T = true then PySem.W.subIn K (.ref C) (.type T) else none) = some b
  rw [if_pos m, h]
end L2

namespace L2
open PySem PySem.Spec PyProof.Rows
theorem passX0 {P : Program} {w : World} {X : Cx} (e1 : X.prog = P) (e2 : X.w = w) : Passes (L2.CX P w) X E0 := fun _ _ _ _ _ _ _ c => by
  obtain ⟨_, _, _, _, _, _, _, _, _, _, _, _, z⟩ := c
  exact z.elim
section
variable {X : Cx} {a : Addr} {oe : Obj} {pn : List (Addr × Obj)} {cls : Value} {d : Option Addr}
/-- isinstance(e, c) in the suite that holds e -/
def rIsX (K : PySem.W.Frag) (a : Addr) (cls : Value) (d : Option Addr) : List V → Hp → VK → Prop := fun xs H Q => ∃ (D dd : Addr), cls = .ref D ∧ d = some dd ∧ ExcC K D ∧ rIsD K D a dd xs H Q
theorem call_isX (hz : Zc cls d oe) (hf : ∃ vs, oe.data = .fields vs) : CallR (X.suite a ((a, oe) :: pn)) (.builtin "isinstance") (rIsX X.K a cls d) := by
  rintro pins s σ H xs us Q I r ⟨D, dd, rfl, rfl, C, h⟩
  exact call_isD C hz hf pins s σ H xs us Q I r h
/-- isinstance(e, (c1, ..)) -/
def rIsXT (K : PySem.W.Frag) (a : Addr) (cls : Value) (d : Option Addr) : List V → Hp → VK → Prop := fun xs H Q => ∃ (D dd : Addr), cls = .ref D ∧ d = some dd ∧ ExcC K D ∧ rIsDT K D a dd xs H Q
theorem call_isXT (hz : Zc cls d oe) (hf : ∃ vs, oe.data = .fields vs) : CallR (X.suite a ((a, oe) :: pn)) (.builtin "isinstance") (rIsXT X.K a cls d) := by
  rintro pins s σ H xs us Q I r ⟨D, dd, rfl, rfl, C, h⟩
  exact call_isDT C hz hf pins s σ H xs us Q I r h
end
end L2

namespace L2
open PySem PySem.Spec PyProof.Rows
/-- an error object of the own class at C, held as a value, its dict at d -/
def erv (a C : Addr) (d : Option Addr) : HO := .ext fun hp => ∃ (oe : Obj) (vs : Array Value), hp.get? a = some oe ∧ Zc (.ref C) d oe ∧ oe.data = .fields vs
section
variable {X : Cx} {pins : List (Addr × Obj)} {σ : L2.St} {H : Hp} {s : Shared} {a C dd : Addr} {fs : List (Str × V)}
theorem erv_ok {P : Program} {w : World} {hp : Heap} {d : Option Addr} {oe : Obj} {vs : Array Value} (h1 : hp.get? a = some oe) (h2 : Zc (.ref C) d oe) (h3 : oe.data = .fields vs) : ObjOk P w H hp a (erv a C d) :=
  ⟨⟨oe, vs, h1, h2, h3⟩, ⟨oe, h1⟩, fun _ _ ⟨o1, v1, k1, k2, k3⟩ more => ⟨o1, v1, more _ k1, k2, k3⟩⟩
/-- what makes an error also gives it as a value -/
theorem pe_ofMk {e : Expr} {t : L2.St → Hp → XK → Prop} (h : PMk X e t) :
    PE X e (fun σ H Q => t σ H fun cls d H1 => ∃ C, cls = .ref C ∧ ∀ a, H1 a = none → Q (.ref a) (upd H1 a (erv a C d))) := by
  constructor
  intro pins s σ H Q I hw
  refine thn (h pins s σ H _ I hw) ?_
  rintro u s1 ⟨a, oe, vs, sI, H1, cls, d, eu, I1, kp, n1, ho, hz, hd, _, n2, os, bare, _, C, ec, q⟩
  subst eu
  subst ec
  refine ⟨.ref a, upd H1 a (erv a C d), ?_, rfl, q a n2⟩
  exact I1.call' (ch := []) os (Un.laidN kp n1 n2) (I1.hok.laidN kp n2 (erv_ok ho hz hd)) bare (by simp)
/-- where the error and its dict stand -/
theorem erv_inst (I : Inv X pins σ H s) (ha : H a = some (erv a C (some dd))) (hx : H dd = some (.xd fs)) :
    ∃ (oe : Obj) (m : Str → Option Value) (od : Option Obj), PySem.W.InstAt s.heap a oe C od ∧ (∃ o, od = some o) ∧ (∀ n, PySem.W.lookIn n (od.getD oe) = some (m n)) ∧ ∀ f, RelO (fs.lookup f) (m f) := by
  have k1 : ObjOk X.prog X.w H s.heap a (.ext fun hp => ∃ (oe : Obj) (vs : Array Value), hp.get? a = some oe ∧ Zc (.ref C) (some dd) oe ∧ oe.data = .fields vs) := I.hok a _ ha
  obtain ⟨⟨oe, vs, g1, g2, g3⟩, _⟩ := k1
  have k2 : ObjOk X.prog X.w H s.heap dd (.xd fs) := I.hok dd _ hx
  obtain ⟨m, k3, k4⟩ := k2
  obtain ⟨o, k5, k6⟩ := lookIn_ns k3
  refine ⟨oe, m, some o, ⟨g1, g2.1, ?_, ?_⟩, ⟨o, rfl⟩, k6, k4⟩
  · unfold PySem.W.notCls
    rw [g3] <;> rfl
  · rw [g2.2]
    exact k5
/-- isinstance(x, c), x an error that is held as a value -/
def rIsV (K : PySem.W.Frag) : List V → Hp → VK → Prop := fun xs H Q => ∃ (a C dd : Addr) (fs : List (Str × V)) (c : V) (cv : Value) (b : Bool), xs = [.ref a, c] ∧ H a = some (erv a C (some dd)) ∧ H dd = some (.xd fs) ∧ ExcC K C ∧ ClsV c cv ∧ PySem.W.kitOne K (.ref C) cv = some b ∧ Q (.bl b) H
theorem call_isV : CallR X (.builtin "isinstance") (rIsV X.K) := by
  rintro pins s σ H xs us Q I r ⟨a, C, dd, fs, c, cv, b, rfl, ha, hx, T, hcv, e, q⟩
  obtain ⟨w1, w2, rfl, p1, p2⟩ := vals2 r
  have e1 : w1 = Value.ref a := p1
  have e2 := hcv.eq p2
  subst e1 e2
  obtain ⟨oe, m, od, J, ⟨o, eo⟩, _⟩ := erv_inst I ha hx
  subst eo
  exact PySem.W.kia_one (PySem.W.own_kitx T) I.kIn ⟨o, J⟩ e nofun fun tk => ⟨.bl b, H, I.kept (t' := tk) fun _ _ z => z, rfl, q⟩
/-- x.f, x an error that is held as a value -/
def tFxE (K : PySem.W.Frag) (f : Str) (te : TE) : TE := fun σ H Q => te σ H fun x H1 => ∃ (a C dd : Addr) (fs : List (Str × V)) (v : V), x = .ref a ∧ XfC K C ∧ PySem.W.findIn K (.ref C) f = some none ∧ H1 a = some (erv a C (some dd)) ∧ H1 dd = some (.xd fs) ∧ fs.lookup f = some v ∧ Q v H1
theorem pe_fxE {e : Expr} {te : TE} {pos : Pos} {n : Str} (he : PE X e te) (hb : attributeBase e n X.env (eval e X.env) = eval e X.env := by rfl) : PE X (.Attribute e n pos) (tFxE X.K n te) := by
  constructor
  intro pins s σ H Q I h
  refine attr_of hb (thn (he.run pins s σ H _ I h) ?_)
  rintro y s1 ⟨x, H1, I1, rx, a, C, dd, fs, v, ex, T, hno, ha, hx, l, q⟩
  subst ex
  have ey : y = Value.ref a := rx
  subst ey
  obtain ⟨oe, m, od, J, ⟨o, eo⟩, k1, k2⟩ := erv_inst I1 ha hx
  subst eo
  have k3 := k2 n
  rw [l] at k3
  obtain ⟨val, k4, k5⟩ := RelO.some_of k3
  have k6 : PySem.W.lookIn n o = some (some val) := by
    rw [← k4]
    exact k1 n
  exact HandSPX.exc_get I1.kIn J T.ga T.gg T.exC (PySem.W.findObj_own T.hdC hno rfl k6) (handed_of k5) ⟨v, H1, I1.tok _, k5, q⟩
end
end L2

namespace L2
open PySem PySem.Spec PyProof.Rows
/-- a flat item as repr tells it -/
def sText : V → Str
  | .int i => toString i
  | .str y => reprText y
  | _ => Str.empty
def sOk : V → Prop
  | .int i => i.natAbs.log2 < 1920
  | .str y => ∀ c ∈ y.cps.toList, c < 16 ^ 8
  | _ => False
def sCost : V → Nat
  | .int _ => 1925
  | .str y => 10 * y.length + 4
  | _ => 0
theorem sText_len {v : V} (h : sOk v) : (sText v).length + 2 ≤ sCost v := by
  cases v with
  | int i =>
    have := PyProof.Rows.int_text_len_1921 (i := i) h
    show (Str.ofString (toString i)).length + 2 ≤ 1925
    omega
  | str y =>
    have := StrLaws.reprText_len y h
    show (reprText y).length + 2 ≤ 10 * y.length + 4
    omega
  | _ => exact False.elim h
def sCosts (l : List V) : Nat := (l.map sCost).sum
theorem sCosts_cons (v : V) (l : List V) : sCosts (v :: l) = sCost v + sCosts l := by
  unfold sCosts
  rw [List.map_cons, List.sum_cons]
theorem s_piled : ∀ l : List V, (∀ v ∈ l, sOk v) → piled (l.map sText) ≤ sCosts l
  | [], _ => Nat.zero_le _
  | v :: l, h => by
    have h1 := sText_len (h v List.mem_cons_self)
    have h2 := s_piled l fun x hx => h x (List.mem_cons_of_mem _ hx)
    rw [List.map_cons, piled_cons, sCosts_cons]
    omega
theorem repr_allS {prog : Program} {w : World} : ∀ {l : List V} {its : List Value}, Vals l its → (∀ v ∈ l, sOk v) → sCosts l ≤ sizeLine → ReprAll prog w its (l.map sText)
  | [], _, r, _, _ => by
    cases r
    exact .nil
  | v :: l, _, r, h, hz => by
    cases r with
    | @cons _ u _ us r1 r2 =>
      have h1 := h v List.mem_cons_self
      have hl := sText_len h1
      rw [sCosts_cons] at hz
      have k : ReprIs prog w u (sText v) := by
        cases v with
        | int i =>
          obtain ⟨t, rfl⟩ := r1
          exact ReprIs.int t h1
        | str y =>
          obtain ⟨t, rfl⟩ := r1
          exact ReprIs.str y t (by have : (reprText y).length + 2 ≤ sCost (.str y) := hl; omega)
        | _ => exact False.elim h1
      exact .cons k (repr_allS r2 (fun x hx => h x (List.mem_cons_of_mem _ hx)) (by omega))
section
variable {X : Cx}
/-- {t}, t a tuple of ints and texts: some text -/
def tFmtS (K : PySem.W.Frag) (te : TE) : TE := fun σ H Q => te σ H fun x H1 => ∃ (a : Addr) (l : List V), x = .ref a ∧ SqT K H1 a l ∧ (∀ v ∈ l, sOk v) ∧ sCosts l + 7 ≤ sizeLine ∧ ∀ m : Str, m.length ≤ sCosts l + 7 → Q (.str m) H1
theorem pe_fmtS {e : Expr} {te : TE} {pos : Pos} {k : Nat} (hr : Room k X.A) (he : PE X e te) : PE X (.FormattedValue e (-1) none pos) (tFmtS X.K te) := by
  refine ⟨fun pins s σ H Q I h => ?_⟩
  refine wpAny_FormattedValue_plain (thn (he.run pins s σ H _ I h) fun v s1 hv => ?_)
  obtain ⟨x, H1, I1, r1, a, l, rfl, ht, hc, hz, q⟩ := hv
  cases r1
  obtain ⟨its, rv, ⟨o, ho, hcl, n, hd⟩, _⟩ := I1.tuple ht
  have hp := s_piled l hc
  have htx := fmt_text (l.map sText)
  have hu := hr.units
  exact fmt_tuple (ts := l.map sText) (by omega) ho hcl hd (repr_allS rv hc (by omega)) (by omega) fun m u tk hm => ⟨.str m, H1, I1.tok _, ⟨u, rfl⟩, q m (by omega)⟩
end
/-- x = e and what follows, e's reading first -/
theorem seq_asg {te : TE} {g : TG} {b : TS} {D : Ends} {σ : L2.St} {H : Hp} (h : te σ H fun x H1 => g x σ H1 fun σ2 H2 => b D σ2 H2) : tSeq (tAsg te g) b D σ H := h
/-- what making an error leaves: an error whose dict holds the fields fs, all else as it was -/
def spInitN (C : Addr) (n : Nat) (ok : Hp → List V → Prop) (fs : List V → List (Str × V)) : Sp := fun vs H Q _ => ∃ (a : Addr) (ws : List V), vs = .ref a :: ws ∧ ws.length = n ∧ ok H ws ∧ H a = some (exo a C none) ∧
  ∀ dx H', H dx = none → dx ≠ a → H' a = some (exo a C (some dx)) → H' dx = some (exd dx (fs ws)) → (∀ b, b ≠ a → b ≠ dx → H' b = H b) → Q .non H'
theorem mkN {C : Addr} {n : Nat} {ok : Hp → List V → Prop} {fs : List V → List (Str × V)} {ta : TA} {σ : L2.St} {H : Hp} {Q : XK}
    (h : ta σ H fun ws H1 => ws.length = n ∧ ws.length ≤ 1000 ∧ (∀ a, H1 a = none → ok (upd H1 a (exo a C none)) ws) ∧ ∀ d H', Same H1 H' → H1 d = none → H' d = some (.xd (fs ws)) → Q (.ref C) (some d) H')
    (mono : ∀ Q1 Q2 : List V → Hp → Prop, (∀ vs H1, Q1 vs H1 → Q2 vs H1) → ta σ H Q1 → ta σ H Q2) : tMkO C (spInitN C n ok fs) [] ta σ H Q := by
  refine mono _ _ (fun ws H1 h1 => ?_) h
  obtain ⟨hn, hz, hk, q⟩ := h1
  refine ⟨hz, fun a na => ⟨a, ws, by rw [List.append_nil], hn, hk a na, upd_same, fun dx H' nd hne ha hd hb => ⟨rfl, dx, fs ws, ha, hd, ?_, ?_⟩⟩⟩
  · rw [upd_ne hne] at nd
    exact nd
  · rw [upd_ne hne] at nd
    refine q dx _ (fun b o e => ?_) nd upd_same
    have h1 : b ≠ a := ne_of_none e na
    have h2 : b ≠ dx := ne_of_none e nd
    rw [upd_ne h2, del_ne h1, hb b h1 h2, upd_ne h1]
    exact e
end L2

/-! operators of own classes: binary ones of two instances of one class, unary ones, `in` -/
namespace OwnOp
open PySem PySem.Spec PyProof.Rows L2
section
variable {X : Cx} {CX : CXT} {C f : Addr} {fd : FuncData} {ps : List Str} {sp : Sp} {E : XK} {n : Nat}
def rOwn2 (C : Addr) (sp : Sp) (E : XK) : R2 := fun x y H Q => ∃ a b dx dy fs gs, x = .ref a ∧ y = .ref b ∧ H a = some (.ins C dx fs) ∧ H b = some (.ins C dy gs) ∧ sp [.ref a, .ref b] H Q E
theorem op_own {op : Operator} (hs : PySem.W.findIn X.K (.ref C) (PySem.dunder op.info.2) = some (some (.ref f))) (hf : PySem.W.isFn X.K (.ref f) = true) (hc : PySem.W.selfFirst X.K C = true)
    (F : FnOk X.prog X.w X.K X.mg X.base CX n f fd ps sp) (hr : Room n X.A) (hb : Binds X.K fd ps []) (hx : Passes CX X E) : OpR X (binaryOp op) (rOwn2 C sp E) := by
  intro pins s σ H x y v u Q I rx ry h
  obtain ⟨a, b, dx, dy, fs, gs, rfl, rfl, ha, hb', q⟩ := h
  cases rx
  cases ry
  obtain ⟨mA, J, _⟩ := ins_get I.hok ha
  obtain ⟨mB, J', _⟩ := ins_get I.hok hb'
  obtain ⟨od, J, _⟩ := J.look
  obtain ⟨od', J', _⟩ := J'.look
  obtain ⟨m, hF⟩ := I.fr
  refine PySem.W.binop_K hF I.ok.mod.kin J J'.type hc hs hf ?_
  refine wpAny_mono (run_fn (us := [.ref a, .ref b]) (vs := [.ref a, .ref b]) F hr hb .nil hx I (.cons rfl (.cons rfl .nil)) q) (fun r s' z => ?_) fun _ _ e => e
  obtain ⟨k, H', I', rk, qk⟩ := z
  cases k with
  | str y => obtain ⟨t, rfl⟩ := rk; exact ⟨.str y, H', I', ⟨t, rfl⟩, qk⟩
  | int y => obtain ⟨t, rfl⟩ := rk; exact ⟨.int y, H', I', ⟨t, rfl⟩, qk⟩
  | byt y => obtain ⟨t, rfl⟩ := rk; exact ⟨.byt y, H', I', ⟨t, rfl⟩, qk⟩
  | flt y => obtain ⟨t, rfl⟩ := rk; exact ⟨.flt y, H', I', ⟨t, rfl⟩, qk⟩
  | non => cases rk; exact ⟨.non, H', I', rfl, qk⟩
  | bl y => cases rk; exact ⟨.bl y, H', I', rfl, qk⟩
  | ref y => cases rk; exact ⟨.ref y, H', I', rfl, qk⟩
  | ty y => cases rk; exact ⟨.ty y, H', I', rfl, qk⟩
def rOwn1 (C : Addr) (sp : Sp) (E : XK) : V → Hp → VK → Prop := fun x H Q => ∃ a dx fs, x = .ref a ∧ H a = some (.ins C dx fs) ∧ sp [.ref a] H Q E
theorem un_ownNeg (hs : PySem.W.findIn X.K (.ref C) "__neg__" = some (some (.ref f))) (hf : PySem.W.isFn X.K (.ref f) = true)
    (F : FnOk X.prog X.w X.K X.mg X.base CX n f fd ps sp) (hr : Room n X.A) (hb : Binds X.K fd ps []) (hx : Passes CX X E) : UnR X (unaryOp .USub) (rOwn1 C sp E) := by
  intro pins s σ H x v Q I rx h
  obtain ⟨a, dx, fs, rfl, ha, q⟩ := h
  cases rx
  obtain ⟨mA, J, _⟩ := ins_get I.hok ha
  obtain ⟨od, J, _⟩ := J.look
  obtain ⟨m, hF⟩ := I.fr
  exact PySem.W.ksp_neg hF I.ok.mod.kin J hs hf (run_fn (us := [.ref a]) (vs := [.ref a]) F hr hb .nil hx I (.cons rfl .nil) q)
/-- x in o, o of an own class whose __contains__ answers True or False -/
def rOwnIn (C : Addr) (sp : Sp) (E : XK) : R2 := fun x y H Q => ∃ b dy gs, y = .ref b ∧ H b = some (.ins C dy gs) ∧ sp [.ref b, x] H (fun v H' => ∃ k, v = .bl k ∧ Q (.bl k) H') E
theorem op_ownIn (hs : PySem.W.findIn X.K (.ref C) "__contains__" = some (some (.ref f))) (hf : PySem.W.isFn X.K (.ref f) = true)
    (F : FnOk X.prog X.w X.K X.mg X.base CX n f fd ps sp) (hr : Room n X.A) (hb : Binds X.K fd ps []) (hx : Passes CX X E) : OpR X (compareOp .In) (rOwnIn C sp E) := by
  intro pins s σ H x y v u Q I rx ry h
  obtain ⟨b, dy, gs, rfl, hb', q⟩ := h
  cases ry
  obtain ⟨mB, J', _⟩ := ins_get I.hok hb'
  obtain ⟨od', J', _⟩ := J'.look
  obtain ⟨m, hF⟩ := I.fr
  refine PySem.W.in_K hF I.ok.mod.kin J' hs hf ?_
  refine wpAny_mono (run_fn (us := [.ref b, v]) (vs := [.ref b, x]) F hr hb .nil hx I (.cons rfl (.cons rx .nil)) q) (fun r s' z => ?_) fun _ _ e => e
  obtain ⟨k, H', I', rk, b', rfl, qk⟩ := z
  cases rk
  exact wpAny_truthy_bool ⟨.bl b', H', I', rfl, qk⟩
end
end OwnOp

/-! own classes whose __iter__ hands out the iterator of a tuple: iter(t), for x in o, list(o) -/
namespace OwnOp
open PySem PySem.Spec PyProof.Rows L2
abbrev tiObj (t : Addr) (i : Nat) : Obj := { cls := .type "tuple_iterator", data := .fields #[.ref t, .int i 0] }
/-- the iterator of the tuple at t, at its place i -/
def TiO (t it : Addr) (i : Nat) : HO := .ext fun h => h.get? it = some (tiObj t i)
section
variable {X : Cx} {pins : List (Addr × Obj)} {σ : L2.St} {H : Hp} {s : Shared} {it t : Addr} {i : Nat}
theorem tiO_ok {P : Program} {w : World} {H : Hp} {h : Heap} (e : h.get? it = some (tiObj t i)) : ObjOk P w H h it (TiO t it i) := ⟨e, ⟨_, e⟩, fun h1 h2 q k => k _ q⟩
theorem tiO_get (I : Inv X pins σ H s) (e : H it = some (TiO t it i)) : s.heap.get? it = some (tiObj t i) := (I.hok it _ e).1
end
/-! ### iter(t) -/
def rIterT (K : PySem.W.Frag) : List V → Hp → VK → Prop := fun xs H Q => ∃ (t : Addr) (zs : List V), xs = [.ref t] ∧ SqT K H t zs ∧ ∀ it, H it = Option.none → Q (.ref it) (upd H it (TiO t it 0))
section
variable {X : Cx}
theorem call_iterT : CallR X (.builtin "iter") (rIterT X.K) := by
  intro pins s σ H xs us Q I r h
  obtain ⟨t, zs, rfl, hq, q⟩ := h
  obtain ⟨u, rfl, ru⟩ := vals1 r
  cases ru
  obtain ⟨its, rv, pl, hz⟩ := I.tuple hq
  refine Calls.call_function_entry (by decide +kernel) (by decide +kernel) PySem.W.kdk_entry_iter (PySem.W.kdk_args_iter _) ?_
  unfold Builtin.«iter»
  refine wpAny_bind (m := someArgs "iter" 1 2 _) (wpAny_of_eq (a := [Value.ref t]) (by first | rfl | kernel_rfl!) ?_)
  show wpAny _ _ (pyIter (.ref t) >>= _) _ _ _
  refine wpAny_bind (wpAny_pyIter_tuple (show s.heap.IsTuple t its.toArray from pl) ?_)
  refine wpAny_pure ⟨_, rfl, ?_⟩
  exact ⟨.ref s.heap.objs.size, _, I.laid (t' := s.toks) (fun b u e => Heap.get?_push_of_some _ e) (Nat.le_refl _) (tiO_ok (Heap.get?_push_size _ rfl)), rfl, q _ (I.hok.fresh (Nat.le_refl _))⟩
end
/-- the same, and the iterator is younger than the call -/
def rIterTN (K : PySem.W.Frag) (n : Nat) : List V → Hp → VK → Prop := fun xs H Q => ∃ (t : Addr) (zs : List V), xs = [.ref t] ∧ SqT K H t zs ∧ ∀ it, n ≤ it → H it = Option.none → Q (.ref it) (upd H it (TiO t it 0))
theorem call_iterTN {X : Cx} : CallR X (.builtin "iter") (rIterTN X.K X.s_0.heap.objs.size) := by
  intro pins s σ H xs us Q I r h
  obtain ⟨t, zs, rfl, hq, q⟩ := h
  obtain ⟨u, rfl, ru⟩ := vals1 r
  cases ru
  obtain ⟨its, rv, pl, hz⟩ := I.tuple hq
  refine Calls.call_function_entry (by decide +kernel) (by decide +kernel) PySem.W.kdk_entry_iter (PySem.W.kdk_args_iter _) ?_
  unfold Builtin.«iter»
  refine wpAny_bind (m := someArgs "iter" 1 2 _) (wpAny_of_eq (a := [Value.ref t]) (by first | rfl | kernel_rfl!) ?_)
  show wpAny _ _ (pyIter (.ref t) >>= _) _ _ _
  refine wpAny_bind (wpAny_pyIter_tuple (show s.heap.IsTuple t its.toArray from pl) ?_)
  refine wpAny_pure ⟨_, rfl, ?_⟩
  exact ⟨.ref s.heap.objs.size, _, I.laid (t' := s.toks) (fun b u e => Heap.get?_push_of_some _ e) (Nat.le_refl _) (tiO_ok (Heap.get?_push_size _ rfl)), rfl, q _ I.sz (I.hok.fresh (Nat.le_refl _))⟩
/-! ### a def's body, run at one state alone -/
section
variable {CX : CXT} {P : Program} {w : World} {K : PySem.W.Frag} {mg : Str → Option Value} {base : Heap}
theorem run_here {x qual : Str} {st : Stmt} {f : Addr} {fd : FuncData} {N ps : List Str} {k : Nat} (F : Fun K x qual st f fd) (S : FnScope N ps (defScope st)) {A : Around} {outer : List Env} {s : Shared} {H : Hp} {args : Args} {us : List Value} {vs : List V} {Q : VK} {E : XK}
    (hr : Room (k + 1) A) (e0 : Env0 P w K mg base A outer s H) (hb : BindsTo s fd args (ps.zip us)) (r : Vals vs us) (hl : vs.length = ps.length)
    (hbody : ∀ cdv : Value, Room k (A.deeper (envOfC qual (defScope st) s.heap.objs.size f cdv)) → ∃ t, PSs (cxOf CX P w K mg base N qual (defScope st) f cdv A outer s H E) (defBody st) t ∧ t { nx := fun _ H' => Q .non H', rt := Q } (start N vs) H) :
    codeAny (model P w) A (.call (.ref f) args) (CR CX outer P w H s Q E) s := by
  obtain ⟨oc, od, kV, doc, pm, an, cdv, ct, osl, rfl, lk, hcd⟩ := F.ex
  have kin : K.In s.heap := e0.mod.kin.keeps fun b o e => (e0.bs b o e).1
  have nolim : s.heap.NoLimit := e0.mod.nolimit.keeps fun b o e => (e0.bs b o e).1
  have kinds : ∀ y ∈ ps.zip us, (defScope st).names.lookup y.1 = some .local ∨ ((defScope st).names.lookup y.1 = some .cell ∧ ((cellsFrom (s.heap.objs.size + 1) (defScope st).names []).lookup y.1).isSome = true) := by
    rintro ⟨n, v⟩ hy
    exact (S.par n (List.of_mem_zip hy).1).elim (fun q => .inl q) fun q => .inr ⟨q, PySem.W.cellsFrom_some _ _ _ (.inl q)⟩
  have code := PySem.W.codeRec_of kin hcd
  refine codeAny_call_function hr.depth (kin _ _ lk) rfl S.co S.gen rfl code (hb _ _ _ _ (wpAny_newFunctionEnv_cells S.kind kinds fun env he s1 y => ?_))
  subst he
  refine ⟨nolim.keeps y.toInCall.keep, codeAny_func ?_⟩
  obtain ⟨t, ht, hq⟩ := hbody cdv (hr.deeper _)
  have I1 := inv_start (CX := CX) (E := E) S hr.hd e0 hl r y
  refine wpAny_mono (ht.run [] s1 (start N vs) H _ I1 hq) (fun fl s' hs => ?_) fun _ _ hs => hs
  have done : ∀ {σ' : L2.St} {H' : Hp} {v : V} {u : Value}, Inv (cxOf CX P w K mg base N qual (defScope st) f cdv A outer s H E) [] σ' H' s' → RelV v u → Q v H' → CE outer P w H s Q u s' := by
    intro σ' H' v u J rv q
    exact ⟨v, H', J.os, J.bare, J.base, J.hok, rv, q⟩
  cases fl with
  | ret u => exact let ⟨v, σ', H', J, rv, q⟩ := hs; done J rv q
  | next => exact let ⟨σ', H', J, q⟩ := hs; done (v := V.non) (u := Value.none) J rfl q
  | brk => exact (fun ⟨_, _, _, no⟩ => False.elim no) hs
  | cont => exact (fun ⟨_, _, _, no⟩ => False.elim no) hs
end
theorem slot_ti : Slot "tuple_iterator" "__next__" "tuple_iterator.__next__" := PySem.F.slot_tuple_iterator_next
/-! ### a class with such an __iter__ -/
structure ItT (K : PySem.W.Frag) (C fi : Addr) : Prop where
  it : PySem.W.findIn K (.ref C) "__iter__" = some (some (.ref fi))
  itF : PySem.W.isFn K (.ref fi) = true
  nolen : PySem.W.findIn K (.ref C) "__len__" = some none
  nohint : PySem.W.findIn K (.ref C) "__length_hint__" = some none
section
variable {X : Cx} {C fi : Addr} {fd : FuncData} {ps N : List Str} {x qual : Str} {st : Stmt} {n : Nat} {TA : Addr → Hp → Addr → List V → Prop}
/-- what the body of __iter__ does: it hands out the iterator of the tuple that TA tells, a new one -/
def ItBody (P : Program) (w : World) (K : PySem.W.Frag) (mg : Str → Option Value) (base : Heap) (N : List Str) (qual : Str) (st : Stmt) (f : Addr) (n : Nat) (TA : Addr → Hp → Addr → List V → Prop) : Prop :=
  ∀ (cdv : Value) (A : Around) (outer : List Env) (s : Shared) (H : Hp) (p t : Addr) (xs : List V) (Q : VK) (E : XK), Room n (A.deeper (envOfC qual (defScope st) s.heap.objs.size f cdv)) → TA p H t xs → SqT K H t xs →
    (∀ it, s.heap.objs.size ≤ it → H it = Option.none → Q (.ref it) (upd H it (TiO t it 0))) →
    ∃ t', PSs (cxOf CX0 P w K mg base N qual (defScope st) f cdv A outer s H E).nox (defBody st) t' ∧ t' { nx := fun _ H' => Q .non H', rt := Q } (start N [.ref p]) H
theorem own_pyIter {A1 : Around} {pins : List (Addr × Obj)} {σ : L2.St} {H : Hp} {s : Shared} {a dx t : Addr} {fs : List (Str × V)} {xs : List V} {R : Value → Shared → Prop} {R2 : Value → Shared → Prop} (sb : Sub X (n + 1) A1) (hc : ItT X.K C fi)
    (F : Fun X.K x qual st fi fd) (S : FnScope N ["self"] (defScope st)) (hbody : ItBody X.prog X.w X.K X.mg X.base N qual st fi n TA) (hb : Binds X.K fd ["self"] []) (I : Inv X pins σ H s) (ha : H a = some (.ins C dx fs)) (ht : TA a H t xs) (hq : SqT X.K H t xs)
    (k : ∀ it s', s.heap.objs.size ≤ it → H it = Option.none → Inv X pins σ (upd H it (TiO t it 0)) s' → R (.ref it) s') :
    wpAny (model X.prog X.w) A1 (pyIter (.ref a)) R R2 s := by
  obtain ⟨mA, J, _⟩ := ins_get I.hok ha
  obtain ⟨od, J, _⟩ := J.look
  obtain ⟨m, hF⟩ := I.fr
  refine PySem.W.owit_iter hF I.ok.mod.kin J hc.it hc.itF ?_
  have e0 : Env0 X.prog X.w X.K X.mg X.base A1 X.stack s H := by
    have e := I.env0
    exact ⟨by rw [sb.fr]; exact e.frames, e.mod, e.bs, e.bsz, e.funs, e.frf, e.hok, e.bare⟩
  have hz : BindsTo s fd ⟨[.ref a], []⟩ ((["self"] : List Str).zip [Value.ref a]) := by simpa using hb s [.ref a] I.kIn rfl
  have r2 : Vals [V.ref a] [Value.ref a] := .cons rfl .nil
  have run : codeAny (model X.prog X.w) A1 (.call (.ref fi) ⟨[.ref a], []⟩) (CR CX0 X.stack X.prog X.w H s (fun v H' => ∃ it, v = .ref it ∧ s.heap.objs.size ≤ it ∧ H it = Option.none ∧ H' = upd H it (TiO t it 0)) (fun _ _ _ => False)) s :=
    run_here F S sb.room e0 hz r2 rfl fun cdv hr => by
      obtain ⟨t', h1, h2⟩ := hbody cdv A1 X.stack s H a t xs (fun v H' => ∃ it, v = .ref it ∧ s.heap.objs.size ≤ it ∧ H it = Option.none ∧ H' = upd H it (TiO t it 0)) (fun _ _ _ => False) hr ht hq fun it h1 h2 => ⟨it, rfl, h1, h2, rfl⟩
      exact ⟨t', h1.nox, h2⟩
  refine wpAny_call (codeAny_mono run fun r s' hq => ?_)
  cases r with
  | error e => exact False.elim hq
  | ok fl =>
    cases fl with
    | next => exact False.elim hq
    | brk => exact False.elim hq
    | cont => exact False.elim hq
    | ret w' =>
      obtain ⟨v2, H2, I2, rv2, it, ev2, h1, h2, eH2⟩ := I.after hq
      subst ev2
      subst eH2
      cases rv2
      unfold PySem.W.OwitIt
      exact wpAny_specialOf (name := Str.ofString "__next__") ⟨_, tiO_get I2 upd_same, rfl⟩ slot_ti.lookup (k it s' h1 h2 I2)
/-- for x in o: the items of its tuple -/
def iOwnT (C : Addr) (K : PySem.W.Frag) (TA : Addr → Hp → Addr → List V → Prop) (te : TE) : TI := fun σ H R => te σ H fun v H1 => ∃ p dx fs t xs, v = .ref p ∧ H1 p = some (.ins C dx fs) ∧ TA p H1 t xs ∧ SqT K H1 t xs ∧ R (Itt K t) H1
theorem pi_own {tg e : Expr} {te : TE} (he : PE X e te) (hr : Room (n + 1) X.A) (hc : ItT X.K C fi) (F : Fun X.K x qual st fi fd) (S : FnScope N ["self"] (defScope st)) (hbody : ItBody X.prog X.w X.K X.mg X.base N qual st fi n TA) (hb : Binds X.K fd ["self"] []) :
    PI X tg e (iOwnT C X.K TA te) := by
  refine ⟨fun pins s σ H R I h => ?_⟩
  refine thn (he.run pins s σ H _ I h) fun u s1 ⟨v, H1, I1, r1, p, dx, fs, t, xs, ev, hp, ht, hq, q⟩ => ?_
  subst ev
  cases r1
  refine own_pyIter (⟨hr, rfl⟩ : Sub X (n + 1) X.A) hc F S hbody hb I1 hp ht hq fun it s2 h1 h2 I2 => ?_
  have hi : upd H1 it (TiO t it 0) it = some (TiO t it 0) := upd_same
  have st0 : s2.heap.IsTupleIter it t 0 := ⟨_, tiO_get I2 hi, rfl, rfl⟩
  have hi' := hi
  unfold TiO at hi'
  have back : ItX.dropH (upd H1 it (TiO t it 0)) it = H1 := ItX.dropH_upd h2
  have I3 := ItX.inv_drop I2 hi'
  have fp := ItX.inv_fp I2 hi (Nat.le_trans I1.sz h1)
  rw [show ItX.dropH (upd H1 it (TiO t it 0)) it = H1 from back] at I3 fp
  refine ⟨it, [it], _, _, H1, rfl, I3, turn_tuple t it, st0, fun b hb => ?_, q⟩
  have e : b = it := by simpa using hb
  rw [e]
  exact fp
/-! ### list(o) -/
theorem tup_loop {A1 : Around} {pins : List (Addr × Obj)} {σ : L2.St} {H : Hp} {q t it : Addr} {xs : List V} {Rs : Result → Shared → Prop} (hA : A1.in1.handled = Option.none) (hq : H q = Option.none) (ht : ∀ o, SqT X.K (upd H q o) t xs) (hqi : it ≠ q)
    (fp : H it = Option.none ∧ it ≠ X.env.locals ∧ (it ∈ X.ex ∨ X.s_0.heap.objs.size ≤ it) ∧ (∀ x c, X.env.cells.lookup x = some c → c ≠ it) ∧ ∀ p ∈ X.pn ++ pins, p.1 ≠ it)
    (hdone : ∀ s, Inv X pins σ (upd H q (.lst xs)) s → Rs (.ok (.ret .none)) s) (hlen : xs.length < sizeLine) :
    ∀ (m i : Nat) (s : Shared), xs.length - i = m → i ≤ xs.length → Inv X pins σ (upd H q (.lst (xs.take i))) s → s.heap.IsTupleIter it t i → codeAny (model X.prog X.w) A1 (.builtin "list.extend.loop" ⟨[.ref q, .ref it, .none], []⟩) Rs s := by
  obtain ⟨f0, f1, f3, f4, f5⟩ := fp
  have f0' : ∀ o, (upd H q o) it = Option.none := fun o => by rw [upd_ne hqi]; exact f0
  intro m
  induction m with
  | zero =>
    intro i s hm hi I st
    have e : i = xs.length := by omega
    subst e
    rw [List.take_length] at I
    obtain ⟨its, rv, p, hz⟩ := I.tuple (ht _)
    refine codeAny_builtin PySem.F.entry_extend_loop ?_
    rw [Around.under_plainId PySem.F.plain_extend_loop _]
    show wpAny _ A1.in1 (pyNext (.ref it) >>= _) _ _ s
    have hl := rv.length
    refine wpAny_bind (wpAny_pyNext_tuple_end hA st (show s.heap.IsTuple t its.toArray from p) (by simp; omega) fun h' eb => ?_)
    exact wpAny_pure (hdone _ (I.turned (t' := s.toks) (fun b o hb z => eb b o hb z) (f0' _) f1 f3 f4 f5))
  | succ m ih =>
    intro i s hm hi I st
    have hlt : i < xs.length := by omega
    obtain ⟨its, rv, p, hz⟩ := I.tuple (ht _)
    obtain ⟨u, hu, ru⟩ := rv.get (List.getElem?_eq_getElem hlt)
    refine codeAny_builtin PySem.F.entry_extend_loop ?_
    rw [Around.under_plainId PySem.F.plain_extend_loop _]
    show wpAny _ A1.in1 (pyNext (.ref it) >>= _) _ _ s
    refine wpAny_bind (wpAny_pyNext_tuple_item st (show s.heap.IsTuple t its.toArray from p) (x := u) (by simpa using hu) fun h' st' sb => ?_)
    have I1 : Inv X pins σ (upd H q (.lst (xs.take i))) { s with heap := h' } := I.turned (t' := s.toks) (fun b o hb z => (sb.2 b hb).trans z) (f0' _) f1 f3 f4 f5
    show wpAny _ A1.in1 (updateSeq q (·.push u) >>= _) _ _ _
    obtain ⟨z, its2, k, r2, hl, e⟩ := I1.lstM upd_same
    have lt2 : its2.length < sizeLine := by rw [← hl, List.length_take]; omega
    have I2 := I1.lset (its' := its2 ++ [u]) (ys := xs.take (i + 1)) (f := (·.push u)) (t' := s.toks) upd_same e (by simp) (by rw [List.take_add_one, List.getElem?_eq_getElem hlt]; exact r2.append (.cons ru .nil)) (by rw [List.length_take]; omega)
    rw [upd_upd] at I2
    refine wpAny_bind (wpAny_updateSeq e rfl (wpAny_pure ⟨plainId_quiet PySem.F.plain_extend_loop _, ?_⟩) (by rw [List.size_toArray]; omega) (by show (its2.toArray.push u).size ≤ sizeLine + 1; rw [Array.size_push, List.size_toArray]; omega))
    exact ih (i + 1) _ (by omega) (by omega) I2 (st'.at fun o z => (Heap.get?_update_other h' (Obj.mapSeq (·.push u)) (Ne.symm hqi)).trans z)
def rListT (C : Addr) (K : PySem.W.Frag) (TA : Addr → Hp → Addr → List V → Prop) : List V → Hp → VK → Prop := fun vs H Q => ∃ a dx fs t xs, vs = [.ref a] ∧ H a = some (.ins C dx fs) ∧ TA a H t xs ∧ (∀ q o, H q = Option.none → TA a (upd H q o) t xs) ∧ SqT K H t xs ∧ xs.length < sizeLine ∧
  ∀ q, H q = Option.none → Q (.ref q) (upd H q (.lst xs))
theorem call_listT (hc : ItT X.K C fi) (F : Fun X.K x qual st fi fd) (S : FnScope N ["self"] (defScope st)) (hbody : ItBody X.prog X.w X.K X.mg X.base N qual st fi n TA) (hb : Binds X.K fd ["self"] []) (hr : Room (n + 3) X.A) (hcalm : X.A.handled = Option.none) :
    CallR X (.type "list") (rListT C X.K TA) := by
  intro pins s σ H vs us Q I rv h
  obtain ⟨a, dx, fs, t, xs, rfl, ha, ht, htk, hq, hlen, k⟩ := h
  obtain ⟨u, rfl, ru⟩ := rv.one
  cases ru
  have sb : Sub X (n + 1) X.A.in1.in1 := Sub.in1 (Sub.in1 (⟨hr, rfl⟩ : Sub X (n + 1 + 2) X.A))
  have hS : (s.heap.push { cls := .type "list", data := .seq #[] }).get? s.heap.objs.size = some { cls := .type "list", data := .seq #[] } := Heap.get?_push_size _ rfl
  have fr : H s.heap.objs.size = Option.none := I.hok.fresh (Nat.le_refl _)
  have I1 : Inv X pins σ (upd H s.heap.objs.size (.lst [])) { s with heap := s.heap.push { cls := .type "list", data := .seq #[] } } := I.lnew (its := []) (t' := s.toks) .nil (Nat.zero_le _)
  have I2 := I1.lset (f := fun _ => #[]) (its := []) (its' := []) (ys := []) (t' := s.toks) upd_same hS rfl .nil (Nat.zero_le _)
  rw [upd_upd] at I2
  generalize hqa : s.heap.objs.size = q at *
  refine callType_codes (Q₁ := fun obj s₁ => obj = .ref q ∧ s₁ = { s with heap := s.heap.push { cls := .type "list", data := .seq #[] } }) PySem.F.called_list (PySem.F.typeCall_list_1 _) PySem.F.entry_list_init
    (by rw [← hqa]; exact code_list_new _ ⟨rfl, rfl⟩) fun obj s₁ h₁ => ?_
  obtain ⟨rfl, rfl⟩ := h₁
  refine ⟨⟨_, hS, rfl⟩, PySem.F.args_list_init_2 _ _, ?_⟩
  show wpAny _ _ (do let old ← Builtin.List.listItems (.ref q); Builtin.List.listUpdate (.ref q) (fun _ => #[]); letGo old.toList.reverse; Builtin.List.listExtendWith (.ref q) (.ref a) .none) _ _ _
  refine wpAny_bind ?_
  unfold Builtin.List.listItems
  refine wpAny_bind (wpAny_seqItems hS rfl (wpAny_pure ?_))
  show wpAny _ _ (updateSeq q (fun _ => #[]) >>= fun _ => letGo (#[] : Array Value).toList.reverse >>= fun _ => Builtin.List.listExtendWith (.ref q) (.ref a) .none) _ _ _
  refine wpAny_bind (wpAny_updateSeq hS rfl (wpAny_bind (wpAny_letGo ?_)))
  have hne : q ≠ a := fun z => by rw [z, ha] at fr; cases fr
  have ha2 : upd H q (.lst []) a = some (.ins C dx fs) := by rw [upd_ne (Ne.symm hne)]; exact ha
  have ht2 : ∀ o, SqT X.K (upd H q o) t xs := fun o => hq.ext (Ext.upd fr)
  obtain ⟨mA, J, _⟩ := ins_get I2.hok ha2
  obtain ⟨od, J, _⟩ := J.look
  unfold Builtin.List.listExtendWith
  refine wpAny_bind (J.type.here ?_)
  have e1 : Builtin.List.listSameRef (.ref q) (.ref a) = false := by simp [Builtin.List.listSameRef, hne]
  have e2 : (Value.ref C == Value.type "list") = false := rfl
  have e3 : (Value.ref C == Value.type "tuple") = false := rfl
  simp only [e1, e2, e3, Bool.or_false, Bool.false_eq_true, if_false]
  refine wpAny_bind (own_pyIter sb hc F S hbody hb I2 ha2 (htk q _ fr) (ht2 _) fun it s3 h1 h2 I3 => ?_)
  have hi : upd (upd H q (.lst [])) it (TiO t it 0) it = some (TiO t it 0) := upd_same
  have st0 : s3.heap.IsTupleIter it t 0 := ⟨_, tiO_get I3 hi, rfl, rfl⟩
  have hi' := hi
  unfold TiO at hi'
  have back : ItX.dropH (upd (upd H q (.lst [])) it (TiO t it 0)) it = upd H q (.lst []) := ItX.dropH_upd h2
  have I4 := ItX.inv_drop I3 hi'
  have hqi : it ≠ q := fun z => by rw [z, upd_same] at h2; cases h2
  have h2' : H it = Option.none := by rw [upd_ne hqi] at h2; exact h2
  obtain ⟨g0, g1, g2, g3, g4, g5⟩ := ItX.inv_fp I3 hi (Nat.le_trans I2.sz h1)
  rw [back] at I4
  have loop := fun (Rs : Result → Shared → Prop) hd => tup_loop (A1 := X.A.in1) (Rs := Rs) (pins := pins) (σ := σ) (H := H) (q := q) (t := t) (it := it) (xs := xs) hcalm fr ht2 hqi ⟨h2', g1, g3, g4, g5⟩ hd hlen xs.length 0
  have fin : ∀ s4, Inv X pins σ (upd H q (.lst xs)) s4 → wants (fun r s₂ => r = .none ∧ EP X pins σ Q (.ref q) s₂) X.xe (.ok (.ret .none)) s4 := fun s4 I5 => ⟨rfl, .ref q, _, I5, rfl, k q fr⟩
  have ha3 : upd H q (.lst []) a = some (.ins C dx fs) := ha2
  obtain ⟨mA', J', _⟩ := ins_get I4.hok ha3
  obtain ⟨od', J', _⟩ := J'.look
  refine wpAny_bind (wpAny_holding ?_)
  unfold Builtin.List.listLengthHint
  refine wpAny_bind (wpAny_bind (J'.type.here ((PySem.W.looks_findIn I4.kIn hc.nolen).here ?_)))
  refine PySem.W.KFB.if_not rfl (PySem.W.KFB.if_not rfl ?_)
  refine wpAny_bind (wpAny_bind (J'.type.here ((PySem.W.looks_findIn I4.kIn hc.nohint).here (wpAny_pure ?_))))
  obtain ⟨z5, its5, k5, r5, hl5, e5⟩ := I4.lstM upd_same
  cases r5
  refine wpAny_ite_split (fun _ => ?_) (fun _ => wpAny_pure ⟨plainId_quiet PySem.F.plain_extend_loop _, loop _ fin s3 (Nat.sub_zero _) (Nat.zero_le _) I4 st0⟩)
  refine wpAny_bind (wpAny_rule (wpAny_bind ?_))
  show wpAny _ _ (updateSeq q (·.push .none) >>= fun _ => updateSeq q (·.pop)) _ _ _
  refine wpAny_bind (wpAny_updateSeq e5 rfl ?_)
  have I6 := I4.lset (f := (·.push Value.none)) (its' := [Value.none]) (ys := [.non]) (t' := s3.toks) upd_same e5 (by simp) (.cons rfl .nil) (by rw [List.length_singleton, sizeLine_eq]; decide)
  obtain ⟨z7, its7, k7, r7, hl7, e7⟩ := I6.lstM upd_same
  obtain ⟨u7, rfl, ru7⟩ := r7.one
  refine wpAny_updateSeq e7 rfl ?_ (by show 1 ≤ sizeLine; rw [sizeLine_eq]; decide) (by show 0 ≤ sizeLine + 1; exact Nat.zero_le _)
  have I8 := I6.lset (f := (·.pop)) (its := [u7]) (its' := []) (ys := []) (t' := s3.toks) upd_same e7 (by rfl) .nil (Nat.zero_le _)
  rw [upd_upd, upd_upd] at I8
  refine wpAny_pure ⟨plainId_quiet PySem.F.plain_extend_loop _, loop _ fin _ (Nat.sub_zero _) (Nat.zero_le _) I8 (st0.at fun o z => ?_)⟩
  exact (Heap.get?_update_other _ _ (Ne.symm hqi)).trans ((Heap.get?_update_other _ _ (Ne.symm hqi)).trans z)
end
end OwnOp

namespace M
open PySem PySem.Spec PyProof.Rows L2
def topS (i : Nat) : Stmt := PySem.Challenge.pw_mendedtree_k56_carry_runs.main.body.getD i (.Pass ⟨0, 0, 0, 0⟩)
abbrev s_EditError_init : Stmt := inClass (topS 3) 0
theorem sc_EditError_init : FnScope ["self", "index"] ["self", "index"] (defScope s_EditError_init) := ⟨rfl, rfl, rfl, by decide +kernel, rfl, by decide +kernel, by decide +kernel⟩
abbrev s_first_misfit : Stmt := topS 6
theorem sc_first_misfit : FnScope ["length", "edits", "index", "start", "end", "new"] ["length", "edits"] (defScope s_first_misfit) := ⟨rfl, rfl, rfl, by decide +kernel, rfl, by decide +kernel, by decide +kernel⟩
abbrev s_check_fits : Stmt := topS 7
theorem sc_check_fits : FnScope ["length", "edits", "index"] ["length", "edits"] (defScope s_check_fits) := ⟨rfl, rfl, rfl, by decide +kernel, rfl, by decide +kernel, by decide +kernel⟩
abbrev s_Carry_init : Stmt := inClass (topS 9) 0
theorem sc_Carry_init : FnScope ["self", "old", "new", "runs"] ["self", "old", "new", "runs"] (defScope s_Carry_init) := ⟨rfl, rfl, rfl, by decide +kernel, rfl, by decide +kernel, by decide +kernel⟩
abbrev s_Carry___iter__ : Stmt := inClass (topS 9) 1
theorem sc_Carry___iter__ : FnScope ["self"] ["self"] (defScope s_Carry___iter__) := ⟨rfl, rfl, rfl, by decide +kernel, rfl, by decide +kernel, by decide +kernel⟩
abbrev s_Carry___add__ : Stmt := inClass (topS 9) 2
theorem sc_Carry___add__ : FnScope ["self", "other"] ["self", "other"] (defScope s_Carry___add__) := ⟨rfl, rfl, rfl, by decide +kernel, rfl, by decide +kernel, by decide +kernel⟩
abbrev s_through : Stmt := topS 12
theorem sc_through : FnScope ["first", "second", "pieces", "at", "old", "new", "count", "index", "begin", "end"] ["first", "second"] (defScope s_through) := ⟨rfl, rfl, rfl, by decide +kernel, rfl, by decide +kernel, by decide +kernel⟩
abbrev s_joined_runs : Stmt := topS 13
theorem sc_joined_runs : FnScope ["pieces", "runs", "old", "new", "count"] ["pieces"] (defScope s_joined_runs) := ⟨rfl, rfl, rfl, by decide +kernel, rfl, by decide +kernel, by decide +kernel⟩
abbrev s_carry_of : Stmt := topS 14
theorem sc_carry_of : FnScope ["length", "edits", "carry", "start", "end", "new"] ["length", "edits"] (defScope s_carry_of) := ⟨rfl, rfl, rfl, by decide +kernel, rfl, by decide +kernel, by decide +kernel⟩
abbrev s_carry_of_one : Stmt := topS 15
theorem sc_carry_of_one : FnScope ["length", "start", "end", "count", "behind", "pieces", "piece"] ["length", "start", "end", "count"] (defScope s_carry_of_one) := ⟨rfl, rfl, rfl, by decide +kernel, rfl, by decide +kernel, by decide +kernel⟩
abbrev s_law_reel : Stmt := topS 17
theorem sc_law_reel : FnScope ["script", "reel", "k", "cell", "rest", "turn", "mixed"] ["script"] (defScope s_law_reel) := ⟨rfl, rfl, rfl, by decide +kernel, rfl, by decide +kernel, by decide +kernel⟩
abbrev s_law_draw : Stmt := topS 18
theorem sc_law_draw : FnScope ["reel", "size", "count", "at"] ["reel", "size"] (defScope s_law_draw) := ⟨rfl, rfl, rfl, by decide +kernel, rfl, by decide +kernel, by decide +kernel⟩
abbrev s_law_pick : Stmt := topS 19
theorem sc_law_pick : FnScope ["reel", "row"] ["reel", "row"] (defScope s_law_pick) := ⟨rfl, rfl, rfl, by decide +kernel, rfl, by decide +kernel, by decide +kernel⟩
abbrev s_law_word : Stmt := topS 20
theorem sc_law_word : FnScope ["reel", "letters", "least", "most", "k"] ["reel", "letters", "least", "most"] (defScope s_law_word) := ⟨rfl, rfl, rfl, by decide +kernel, rfl, by decide +kernel, by decide +kernel⟩
abbrev s_law_number : Stmt := topS 21
theorem sc_law_number : FnScope ["value"] ["value"] (defScope s_law_number) := ⟨rfl, rfl, rfl, by decide +kernel, rfl, by decide +kernel, by decide +kernel⟩
abbrev s_law_signs : Stmt := topS 22
theorem sc_law_signs : FnScope ["signs"] [] (defScope s_law_signs) := ⟨rfl, rfl, rfl, by decide +kernel, rfl, by decide +kernel, by decide +kernel⟩
abbrev s_law_stepped : Stmt := topS 23
theorem sc_law_stepped : FnScope ["reel", "size", "letters", "first", "step", "k"] ["reel", "size"] (defScope s_law_stepped) := ⟨rfl, rfl, rfl, by decide +kernel, rfl, by decide +kernel, by decide +kernel⟩
abbrev s_law_text : Stmt := topS 24
theorem sc_law_text : FnScope ["reel", "form", "size"] ["reel"] (defScope s_law_text) := ⟨rfl, rfl, rfl, by decide +kernel, rfl, by decide +kernel, by decide +kernel⟩
abbrev s_law_new : Stmt := topS 25
theorem sc_law_new : FnScope ["reel", "size"] ["reel"] (defScope s_law_new) := ⟨rfl, rfl, rfl, by decide +kernel, rfl, by decide +kernel, by decide +kernel⟩
abbrev s_law_edit_row : Stmt := topS 26
theorem sc_law_edit_row : FnScope ["reel", "text", "count", "edits", "now", "near", "turn", "form", "start", "end", "new"] ["reel", "text", "count"] (defScope s_law_edit_row) := ⟨rfl, rfl, rfl, by decide +kernel, rfl, by decide +kernel, by decide +kernel⟩
abbrev s_law_unfit : Stmt := topS 27
theorem sc_law_unfit : FnScope ["reel", "size", "much", "new", "place", "form"] ["reel", "size"] (defScope s_law_unfit) := ⟨rfl, rfl, rfl, by decide +kernel, rfl, by decide +kernel, by decide +kernel⟩
abbrev s_law_planted : Stmt := topS 28
theorem sc_law_planted : FnScope ["reel", "text", "edits", "many", "sizes", "edit", "rows", "turn", "at"] ["reel", "text", "edits", "many"] (defScope s_law_planted) := ⟨rfl, rfl, rfl, by decide +kernel, rfl, by decide +kernel, by decide +kernel⟩
abbrev s_law_first_unfit : Stmt := topS 29
theorem sc_law_first_unfit : FnScope ["size", "edits", "now", "k", "start", "end"] ["size", "edits"] (defScope s_law_first_unfit) := ⟨rfl, rfl, rfl, by decide +kernel, rfl, by decide +kernel, by decide +kernel⟩
abbrev s_law_tags : Stmt := topS 30
theorem sc_law_tags : FnScope ["size", "edits", "tags", "k", "edit", "char"] ["size", "edits"] (defScope s_law_tags) := ⟨rfl, rfl, rfl, by decide +kernel, rfl, by decide +kernel, by decide +kernel⟩
abbrev s_law_runs : Stmt := topS 31
theorem sc_law_runs : FnScope ["tags", "runs", "k", "last"] ["tags"] (defScope s_law_runs) := ⟨rfl, rfl, rfl, by decide +kernel, rfl, by decide +kernel, by decide +kernel⟩
abbrev s_law_carry_ok : Stmt := topS 32
theorem sc_law_carry_ok : FnScope ["told", "old", "new", "runs", "row", "part"] ["told", "old", "new", "runs"] (defScope s_law_carry_ok) := ⟨rfl, rfl, rfl, by decide +kernel, rfl, by decide +kernel, by decide +kernel⟩
abbrev s_law_refused : Stmt := topS 33
theorem sc_law_refused : FnScope ["size", "edits", "e"] ["size", "edits"] (defScope s_law_refused) := ⟨rfl, rfl, rfl, by decide +kernel, rfl, by decide +kernel, by decide +kernel⟩
abbrev s_law_due : Stmt := topS 34
theorem sc_law_due : FnScope ["size", "edits", "tags"] ["size", "edits"] (defScope s_law_due) := ⟨rfl, rfl, rfl, by decide +kernel, rfl, by decide +kernel, by decide +kernel⟩
abbrev s_law_right : Stmt := topS 35
theorem sc_law_right : FnScope ["told", "due"] ["told", "due"] (defScope s_law_right) := ⟨rfl, rfl, rfl, by decide +kernel, rfl, by decide +kernel, by decide +kernel⟩
abbrev s_law_asked : Stmt := topS 36
theorem sc_law_asked : FnScope ["size", "edits", "others", "due", "due_others", "handed", "told", "beside", "made", "turn", "rows", "row"] ["size", "edits", "others"] (defScope s_law_asked) := ⟨rfl, rfl, rfl, by decide +kernel, rfl, by decide +kernel, by decide +kernel⟩
abbrev s_law : Stmt := topS 37
theorem sc_law : FnScope ["script", "reel", "planted", "counts", "text", "size", "edits", "others", "spoilt", "first", "handed", "told"] ["script"] (defScope s_law) := ⟨rfl, rfl, rfl, by decide +kernel, rfl, by decide +kernel, by decide +kernel⟩
structure Txt (K : PySem.W.Frag) (mg : Str → Option Value) where
  a_EditError_init : Addr
  fd_EditError_init : FuncData
  F_EditError_init : Fun K "__init__" "EditError.__init__" s_EditError_init a_EditError_init fd_EditError_init
  b_EditError_init : Binds K fd_EditError_init ["self", "index"] []
  a_first_misfit : Addr
  fd_first_misfit : FuncData
  F_first_misfit : Fun K "_first_misfit" "_first_misfit" s_first_misfit a_first_misfit fd_first_misfit
  b_first_misfit : Binds K fd_first_misfit ["length", "edits"] []
  g_first_misfit : mg "_first_misfit" = some (.ref a_first_misfit)
  a_check_fits : Addr
  fd_check_fits : FuncData
  F_check_fits : Fun K "check_fits" "check_fits" s_check_fits a_check_fits fd_check_fits
  b_check_fits : Binds K fd_check_fits ["length", "edits"] []
  g_check_fits : mg "check_fits" = some (.ref a_check_fits)
  a_Carry_init : Addr
  fd_Carry_init : FuncData
  F_Carry_init : Fun K "__init__" "Carry.__init__" s_Carry_init a_Carry_init fd_Carry_init
  b_Carry_init : Binds K fd_Carry_init ["self", "old", "new", "runs"] []
  a_Carry___iter__ : Addr
  fd_Carry___iter__ : FuncData
  F_Carry___iter__ : Fun K "__iter__" "Carry.__iter__" s_Carry___iter__ a_Carry___iter__ fd_Carry___iter__
  b_Carry___iter__ : Binds K fd_Carry___iter__ ["self"] []
  a_Carry___add__ : Addr
  fd_Carry___add__ : FuncData
  F_Carry___add__ : Fun K "__add__" "Carry.__add__" s_Carry___add__ a_Carry___add__ fd_Carry___add__
  b_Carry___add__ : Binds K fd_Carry___add__ ["self", "other"] []
  a_through : Addr
  fd_through : FuncData
  F_through : Fun K "_through" "_through" s_through a_through fd_through
  b_through : Binds K fd_through ["first", "second"] []
  g_through : mg "_through" = some (.ref a_through)
  a_joined_runs : Addr
  fd_joined_runs : FuncData
  F_joined_runs : Fun K "joined_runs" "joined_runs" s_joined_runs a_joined_runs fd_joined_runs
  b_joined_runs : Binds K fd_joined_runs ["pieces"] []
  g_joined_runs : mg "joined_runs" = some (.ref a_joined_runs)
  a_carry_of : Addr
  fd_carry_of : FuncData
  F_carry_of : Fun K "carry_of" "carry_of" s_carry_of a_carry_of fd_carry_of
  b_carry_of : Binds K fd_carry_of ["length", "edits"] []
  g_carry_of : mg "carry_of" = some (.ref a_carry_of)
  a_carry_of_one : Addr
  fd_carry_of_one : FuncData
  F_carry_of_one : Fun K "_carry_of_one" "_carry_of_one" s_carry_of_one a_carry_of_one fd_carry_of_one
  b_carry_of_one : Binds K fd_carry_of_one ["length", "start", "end", "count"] []
  g_carry_of_one : mg "_carry_of_one" = some (.ref a_carry_of_one)
  a_law_reel : Addr
  fd_law_reel : FuncData
  F_law_reel : Fun K "_law_reel" "_law_reel" s_law_reel a_law_reel fd_law_reel
  b_law_reel : Binds K fd_law_reel ["script"] []
  g_law_reel : mg "_law_reel" = some (.ref a_law_reel)
  a_law_draw : Addr
  fd_law_draw : FuncData
  F_law_draw : Fun K "_law_draw" "_law_draw" s_law_draw a_law_draw fd_law_draw
  b_law_draw : Binds K fd_law_draw ["reel", "size"] []
  g_law_draw : mg "_law_draw" = some (.ref a_law_draw)
  a_law_pick : Addr
  fd_law_pick : FuncData
  F_law_pick : Fun K "_law_pick" "_law_pick" s_law_pick a_law_pick fd_law_pick
  b_law_pick : Binds K fd_law_pick ["reel", "row"] []
  g_law_pick : mg "_law_pick" = some (.ref a_law_pick)
  a_law_word : Addr
  fd_law_word : FuncData
  F_law_word : Fun K "_law_word" "_law_word" s_law_word a_law_word fd_law_word
  b_law_word : Binds K fd_law_word ["reel", "letters", "least", "most"] []
  g_law_word : mg "_law_word" = some (.ref a_law_word)
  a_law_number : Addr
  fd_law_number : FuncData
  F_law_number : Fun K "_law_number" "_law_number" s_law_number a_law_number fd_law_number
  b_law_number : Binds K fd_law_number ["value"] []
  g_law_number : mg "_law_number" = some (.ref a_law_number)
  a_law_signs : Addr
  fd_law_signs : FuncData
  F_law_signs : Fun K "_law_signs" "_law_signs" s_law_signs a_law_signs fd_law_signs
  b_law_signs : Binds K fd_law_signs [] []
  g_law_signs : mg "_law_signs" = some (.ref a_law_signs)
  a_law_stepped : Addr
  fd_law_stepped : FuncData
  F_law_stepped : Fun K "_law_stepped" "_law_stepped" s_law_stepped a_law_stepped fd_law_stepped
  b_law_stepped : Binds K fd_law_stepped ["reel", "size"] []
  g_law_stepped : mg "_law_stepped" = some (.ref a_law_stepped)
  a_law_text : Addr
  fd_law_text : FuncData
  F_law_text : Fun K "_law_text" "_law_text" s_law_text a_law_text fd_law_text
  b_law_text : Binds K fd_law_text ["reel"] []
  g_law_text : mg "_law_text" = some (.ref a_law_text)
  a_law_new : Addr
  fd_law_new : FuncData
  F_law_new : Fun K "_law_new" "_law_new" s_law_new a_law_new fd_law_new
  b_law_new : Binds K fd_law_new ["reel"] []
  g_law_new : mg "_law_new" = some (.ref a_law_new)
  a_law_edit_row : Addr
  fd_law_edit_row : FuncData
  F_law_edit_row : Fun K "_law_edit_row" "_law_edit_row" s_law_edit_row a_law_edit_row fd_law_edit_row
  b_law_edit_row : Binds K fd_law_edit_row ["reel", "text", "count"] []
  g_law_edit_row : mg "_law_edit_row" = some (.ref a_law_edit_row)
  a_law_unfit : Addr
  fd_law_unfit : FuncData
  F_law_unfit : Fun K "_law_unfit" "_law_unfit" s_law_unfit a_law_unfit fd_law_unfit
  b_law_unfit : Binds K fd_law_unfit ["reel", "size"] []
  g_law_unfit : mg "_law_unfit" = some (.ref a_law_unfit)
  a_law_planted : Addr
  fd_law_planted : FuncData
  F_law_planted : Fun K "_law_planted" "_law_planted" s_law_planted a_law_planted fd_law_planted
  b_law_planted : Binds K fd_law_planted ["reel", "text", "edits", "many"] []
  g_law_planted : mg "_law_planted" = some (.ref a_law_planted)
  a_law_first_unfit : Addr
  fd_law_first_unfit : FuncData
  F_law_first_unfit : Fun K "_law_first_unfit" "_law_first_unfit" s_law_first_unfit a_law_first_unfit fd_law_first_unfit
  b_law_first_unfit : Binds K fd_law_first_unfit ["size", "edits"] []
  g_law_first_unfit : mg "_law_first_unfit" = some (.ref a_law_first_unfit)
  a_law_tags : Addr
  fd_law_tags : FuncData
  F_law_tags : Fun K "_law_tags" "_law_tags" s_law_tags a_law_tags fd_law_tags
  b_law_tags : Binds K fd_law_tags ["size", "edits"] []
  g_law_tags : mg "_law_tags" = some (.ref a_law_tags)
  a_law_runs : Addr
  fd_law_runs : FuncData
  F_law_runs : Fun K "_law_runs" "_law_runs" s_law_runs a_law_runs fd_law_runs
  b_law_runs : Binds K fd_law_runs ["tags"] []
  g_law_runs : mg "_law_runs" = some (.ref a_law_runs)
  a_law_carry_ok : Addr
  fd_law_carry_ok : FuncData
  F_law_carry_ok : Fun K "_law_carry_ok" "_law_carry_ok" s_law_carry_ok a_law_carry_ok fd_law_carry_ok
  b_law_carry_ok : Binds K fd_law_carry_ok ["told", "old", "new", "runs"] []
  g_law_carry_ok : mg "_law_carry_ok" = some (.ref a_law_carry_ok)
  a_law_refused : Addr
  fd_law_refused : FuncData
  F_law_refused : Fun K "_law_refused" "_law_refused" s_law_refused a_law_refused fd_law_refused
  b_law_refused : Binds K fd_law_refused ["size", "edits"] []
  g_law_refused : mg "_law_refused" = some (.ref a_law_refused)
  a_law_due : Addr
  fd_law_due : FuncData
  F_law_due : Fun K "_law_due" "_law_due" s_law_due a_law_due fd_law_due
  b_law_due : Binds K fd_law_due ["size", "edits"] []
  g_law_due : mg "_law_due" = some (.ref a_law_due)
  a_law_right : Addr
  fd_law_right : FuncData
  F_law_right : Fun K "_law_right" "_law_right" s_law_right a_law_right fd_law_right
  b_law_right : Binds K fd_law_right ["told", "due"] []
  g_law_right : mg "_law_right" = some (.ref a_law_right)
  a_law_asked : Addr
  fd_law_asked : FuncData
  F_law_asked : Fun K "_law_asked" "_law_asked" s_law_asked a_law_asked fd_law_asked
  b_law_asked : Binds K fd_law_asked ["size", "edits", "others"] []
  g_law_asked : mg "_law_asked" = some (.ref a_law_asked)
  a_law : Addr
  fd_law : FuncData
  F_law : Fun K "law" "law" s_law a_law fd_law
  b_law : Binds K fd_law ["script"] []
  g_law : mg "law" = some (.ref a_law)
  m_range : mg "range" = none
  m_min : mg "min" = none
  m_max : mg "max" = none
  m_len : mg "len" = none
  m_abs : mg "abs" = none
  m_int : mg "int" = none
  m_sum : mg "sum" = none
  m_isinstance : mg "isinstance" = none
  m_bool : mg "bool" = none
  m_list : mg "list" = none
  m_tuple : mg "tuple" = none
  m_str : mg "str" = none
  m_enumerate : mg "enumerate" = none
  m_ValueError : mg "ValueError" = none
  m_iter : mg "iter" = none
  C_MendedError : Addr
  G_MendedError : mg "MendedError" = some (.ref C_MendedError)
  C_EditError : Addr
  G_EditError : mg "EditError" = some (.ref C_EditError)
  C_Entangled : Addr
  G_Entangled : mg "Entangled" = some (.ref C_Entangled)
  C_Carry : Addr
  G_Carry : mg "Carry" = some (.ref C_Carry)
  B_MendedError : BaseC K C_MendedError
  E_EditError : ErrK K mg "EditError" C_EditError a_EditError_init
  n_EditError_index : PySem.W.findIn K (.ref C_EditError) "index" = some none
  CL_Carry : Cls K C_Carry
  MK_Carry : Mk K C_Carry a_Carry_init
  IC_Carry : C8.InsC K C_Carry
  NA_Carry_old : NoAttr K C_Carry "old"
  NA_Carry_new : NoAttr K C_Carry "new"
  NA_Carry_runs : NoAttr K C_Carry "runs"
  ME_Carry__add__ : Meth K C_Carry "__add__" a_Carry___add__
  SF_Carry : PySem.W.selfFirst K C_Carry = true
  IT_Carry : OwnOp.ItT K C_Carry a_Carry___iter__
  k_EditError_MendedError : PySem.W.kitOne K (.ref C_EditError) (.ref C_MendedError) = some true
  k_EditError_ValueError : PySem.W.kitOne K (.ref C_EditError) (.type "ValueError") = some true
  k_EditError_Entangled : PySem.W.kitOne K (.ref C_EditError) (.ref C_Entangled) = some false
/-! ### heaps: what a def leaves as it was -/
/-- all that was tracked but at r stands as it was -/
def But (r : Addr) (H H' : Hp) : Prop := ∀ b o, b ≠ r → H b = some o → H' b = some o
theorem But.refl (r : Addr) (H : Hp) : But r H H := fun _ _ _ h => h
theorem But.trans {r : Addr} {H H1 H2 : Hp} (a : But r H H1) (b : But r H1 H2) : But r H H2 := fun c o n h => b c o n (a c o n h)
theorem But.of {r : Addr} {H H' : Hp} (e : Same H H') : But r H H' := fun b o _ h => e b o h
theorem But.set {r : Addr} {H : Hp} {o : HO} : But r H (upd H r o) := fun b u n h => by rw [upd_ne n]; exact h
theorem But.new {r p : Addr} {H : Hp} {o : HO} (h : H p = none) : But r H (upd H p o) := fun b u _ e => by rw [upd_ne (ne_of_none e h)]; exact e
theorem same_upd {H : Hp} {p : Addr} {o : HO} (h : H p = none) : Same H (upd H p o) := fun b x e => by rw [upd_ne (ne_of_none e h)]; exact e
/-- the list that the drawing goes along: a place, then numbers -/
def ReelAt (H : Hp) (r : Addr) : Prop := ∃ (z : Int) (c : List Int), H r = some (.lst (.int z :: c.map V.int)) ∧ 1 ≤ c.length ∧ c.length ≤ 100000
theorem ReelAt.new {H : Hp} {r p : Addr} {o : HO} (h : ReelAt H r) (n : H p = none) : ReelAt (upd H p o) r := by
  obtain ⟨z, c, h1, h2⟩ := h
  exact ⟨z, c, by rw [upd_ne (ne_of_none h1 n)]; exact h1, h2⟩
theorem ReelAt.ne {H : Hp} {r p : Addr} (h : ReelAt H r) (n : H p = none) : r ≠ p := by
  obtain ⟨z, c, h1, h2⟩ := h
  exact ne_of_none h1 n
theorem atI_lt {xs : List V} {z : Int} (h0 : 0 ≤ z) (h : z.toNat < xs.length) : atI xs z = some (xs[z.toNat]'h) :=
  at_of (j := z.toNat) (by omega) (List.getElem?_eq_getElem h)
theorem at_of' {α : Type} {xs : List α} {z : Int} {c : α} (h0 : 0 ≤ z) (h : xs[z.toNat]? = some c) : atI xs z = some c := by
  have e : z = ((z.toNat : Nat) : Int) := by omega
  rw [e]
  exact atI_nat h
theorem fmod_range (a : Int) {n : Int} (h : 0 < n) : 0 ≤ a.fmod n ∧ a.fmod n < n := ⟨Int.fmod_nonneg_of_pos a h, Int.fmod_lt_of_pos a h⟩
theorem sz1 {n : Nat} (h : n ≤ 100000) : n ≤ sizeLine := Nat.le_trans h (by decide)
theorem sz2 {n : Nat} (h : n < 100000) : n < sizeLine := Nat.lt_of_lt_of_le h (by decide)
/-- a text's signs -/
abbrev cs (x : Str) : List Nat := x.cps.toList
theorem len_cs (x : Str) : x.length = (cs x).length := by
  show x.cps.size = x.cps.toList.length
  rw [Array.length_toList]
theorem cs_mk (l : List Nat) : cs ⟨l.toArray⟩ = l := rfl
theorem cs_inj {x y : Str} (h : cs x = cs y) : x = y := by
  cases x with
  | mk a =>
    cases y with
    | mk b =>
      have e : a = b := Array.toList_inj.mp h
      rw [e]
theorem cs_app (x y : Str) : cs (x ++ y) = cs x ++ cs y := by
  show (x.cps ++ y.cps).toList = _
  rw [Array.toList_append]
theorem cs_join {e : Str} (he : cs e = []) : ∀ ys : List Str, cs (Str.join e ys) = (ys.map cs).flatten
  | [] => rfl
  | [x] => by
    show cs x = ([x].map cs).flatten
    simp
  | x :: y :: r => by
    show cs (x ++ e ++ Str.join e (y :: r)) = _
    rw [cs_app, cs_app, he, List.append_nil, cs_join he (y :: r)]
    rfl
theorem cs_joinT {e : Str} (he : cs e = []) (ys : List Str) : cs (Txt.join e ys) = (ys.map cs).flatten := by rw [TL.join_eq]; exact cs_join he ys
/-- the text of one sign -/
abbrev sg (c : Nat) : Str := ⟨#[c]⟩
theorem sg_flat : ∀ l : List Nat, ((l.map sg).map cs).flatten = l
  | [] => rfl
  | c :: r => by
    show [c] ++ ((r.map sg).map cs).flatten = c :: r
    rw [sg_flat r]
    rfl
theorem sg_lens : ∀ l : List Nat, ((l.map sg).map (·.length)).sum = l.length
  | [] => rfl
  | c :: r => by
    show 1 + ((r.map sg).map (·.length)).sum = r.length + 1
    rw [sg_lens r]
    omega
theorem join_sg {e : Str} (he : cs e = []) (l : List Nat) : Txt.join e (l.map sg) = ⟨l.toArray⟩ := cs_inj (by rw [cs_joinT he, sg_flat])
theorem But.seq {r : Addr} {K : PySem.W.Frag} {H H' : Hp} {a : Addr} {xs : List V} (e : But r H H') (n : a ≠ r) (h : SqL K H a xs) : SqL K H' a xs := by
  rcases h with (h | ⟨o, h⟩) | h
  · exact .inl (.inl (e _ _ n h))
  · exact .inl (.inr ⟨o, e _ _ n h⟩)
  · exact .inr h
theorem But.free {r : Addr} {H H' : Hp} (e : But r H H') {l : Addr} (n : l ≠ r) (h : H' l = none) : H l = none := by
  cases q : H l with
  | none => rfl
  | some o =>
    rw [e l o n q] at h
    cases h
/-- a text whose signs are signs -/
def TOk (x : Str) : Prop := ∀ c ∈ cs x, c < 1114112
def tokB (x : Str) : Bool := x.cps.toList.all fun c => decide (c < 1114112)
theorem tok_of {x : Str} (h : tokB x = true) : TOk x := fun c hc => of_decide_eq_true (List.all_eq_true.mp h c hc)

section
variable {P : Program} {w : World} {K : PySem.W.Frag} {mg : Str → Option Value} {base : Heap}
/-! ### the reel -/
def spReel (K : PySem.W.Frag) : Sp := fun vs H Q _ => ∃ (a : Addr) (ns : List Int), vs = [.ref a] ∧ SqL K H a (ns.map V.int) ∧
  ∀ H' p, Same H H' → H p = none → ReelAt H' p → Q (.ref p) H'
def spDraw : Sp := fun vs H Q _ => ∃ (r : Addr) (n : Int), vs = [.ref r, .int n] ∧ ReelAt H r ∧ 0 < n ∧
  ∀ (v : Int) H', 0 ≤ v → v < n → But r H H' → ReelAt H' r → Q (.int v) H'
theorem ok_draw (T : Txt K mg) : FnOk P w K mg base CX0 1 T.a_law_draw T.fd_law_draw ["reel", "size"] spDraw := by
  refine T.F_law_draw.ok sc_law_draw (fun vs H Q E h => ?_) (fun cdv A outer s H vs Q E hr h => ?_)
  · obtain ⟨r, n, rfl, _⟩ := h
    rfl
  · obtain ⟨r, n, rfl, ⟨z, c, hr0, hc, hc2⟩, hn, q⟩ := h
    refine ⟨_, (pss_cons (ps_set (i := 2) sc_law_draw.nd rfl (.inl rfl) (pe_op op_sub (pe_callB call_len_seq (by rfl) T.m_len PySem.boot_len (pa_cons (pv 0) pa_nil)) pe_int))
      (pss_cons (ps_set (i := 3) sc_law_draw.nd rfl (.inl rfl) (pe_ix ix_list (pv 0) pe_int (fun _ _ => rfl)))
      (pss_cons (ps_asg (pe_op op_add (pv 3) pe_int) (pg_sub (pv 0) pe_int set_list))
      (pss_one (ps_ret (pe_op op_modN (pe_callTy call_int1 (by rfl) T.m_int (by decide +kernel) (pa_cons (pe_op op_add (pe_ix ix_list (pv 0) (pe_op op_add pe_int (pe_op op_modN (pe_callTy call_int1 (by rfl) T.m_int (by decide +kernel) (pa_cons (pv 3) pa_nil)) (pv 2))) (fun _ _ => rfl)) (pe_op op_mul (pe_op op_fdivN (pv 3) (pv 2)) pe_int)) pa_nil)) (pv 1))))))), ?_⟩
    have hl : (V.int z :: c.map V.int).length = c.length + 1 := by rw [List.length_cons, List.length_map]
    -- count = len(reel) - 1
    refine ⟨.ref r, rfl, r, _, rfl, .inl (SqL.of hr0), _, _, rfl, rfl, ?_⟩
    -- at = reel[0]
    refine ⟨.ref r, rfl, r, _, 0, .int z, rfl, rfl, SqL.of hr0, atI_nat (j := 0) rfl, ?_⟩
    -- reel[0] = at + 1
    refine ⟨_, rfl, z, 1, rfl, rfl, .ref r, rfl, r, _, 0, 0, rfl, rfl, hr0, by rw [hl]; unfold ixN; rw [if_pos (by omega), if_pos (by omega)]; rfl, ?_⟩
    have e1 : (V.int z :: c.map V.int).set 0 (.int (z + 1)) = .int (z + 1) :: c.map V.int := rfl
    rw [e1]
    have hc0 : (0 : Int) < ((V.int z :: c.map V.int).length : Int) - 1 := by rw [hl]; omega
    have fm := fmod_range z hc0
    have hat : 0 ≤ 1 + z.fmod (((V.int z :: c.map V.int).length : Int) - 1) := by omega
    have hat2 : (1 + z.fmod (((V.int z :: c.map V.int).length : Int) - 1)).toNat < (V.int (z + 1) :: c.map V.int).length := by
      have e2 : (V.int (z + 1) :: c.map V.int).length = c.length + 1 := by rw [List.length_cons, List.length_map]
      rw [hl] at fm ⊢
      rw [e2]
      omega
    obtain ⟨y, hy⟩ : ∃ y, atI (V.int (z + 1) :: c.map V.int) (1 + z.fmod (((V.int z :: c.map V.int).length : Int) - 1)) = some (.int y) := by
      have e := atI_lt hat hat2
      have e2 : (V.int (z + 1) :: c.map V.int) = ((z + 1) :: c).map V.int := rfl
      refine ⟨((z + 1) :: c)[(1 + z.fmod (((V.int z :: c.map V.int).length : Int) - 1)).toNat]'(by rw [e2, List.length_map] at hat2; exact hat2), ?_⟩
      rw [e]
      congr 1
      simp only [e2, List.getElem_map]
    -- return int(reel[1 + int(at) % count] + at // count * 389) % size
    refine ⟨.ref r, rfl, _, rfl, .inl ⟨z, rfl, ?_⟩⟩
    refine ⟨_, rfl, z, _, rfl, rfl, by omega, 1, _, rfl, rfl, r, _, _, .int y, rfl, rfl, SqL.of upd_same, hy, ?_⟩
    refine ⟨_, rfl, _, rfl, z, _, rfl, rfl, ⟨by omega, by rw [hl]; omega⟩, _, 389, rfl, rfl, .inr ⟨by decide, by decide⟩, _, _, rfl, rfl, .inl ⟨_, rfl, ?_⟩⟩
    refine ⟨_, rfl, _, n, rfl, rfl, by omega, ?_⟩
    exact q _ _ (fmod_range _ hn).1 (fmod_range _ hn).2 But.set ⟨z + 1, c, upd_same, hc, hc2⟩
/-- the words in which a turn of the reel's making is told -/
def Making (a o : Addr) (H : Hp) (n : Nat) (σ : L2.St) (H' : Hp) : Prop := ∃ y2 y3 y4 y5 y6, σ = [some (.ref a), some (.ref o), y2, y3, y4, y5, y6] ∧ Same H H' ∧ ∃ c : List Int, H' o = some (.lst (.int 0 :: c.map V.int)) ∧ c.length ≤ n
theorem ints_snoc (c : List Int) (x : Int) : (V.int 0 :: c.map V.int) ++ [V.int x] = .int 0 :: (c ++ [x]).map V.int := by
  rw [List.map_append]
  rfl
theorem same_mut {H H' : Hp} {p : Addr} {o : HO} (e : Same H H') (h : H p = none) : Same H (upd H' p o) := fun b x q => by
  rw [upd_ne (ne_of_none q h)]
  exact e b x q
theorem ok_reel (T : Txt K mg) : FnOk P w K mg base CX0 1 T.a_law_reel T.fd_law_reel ["script"] (spReel K) := by
  refine T.F_law_reel.ok sc_law_reel (fun vs H Q E h => ?_) (fun cdv A outer s H vs Q E hr h => ?_)
  · obtain ⟨a, ns, rfl, _⟩ := h
    rfl
  · obtain ⟨a, ns, rfl, hS, q⟩ := h
    refine ⟨_, (pss_cons (ps_set (i := 1) sc_law_reel.nd rfl (.inl rfl) (pe_lst (pa_cons pe_int pa_nil)))
      (pss_cons (ps_for PassesOwn.never rfl (pi_range1 (by rfl) T.m_range (pa_cons (pe_callB (call_min2 rfl) (by rfl) T.m_min (by decide +kernel) (pa_cons (pe_callB call_len_seq (by rfl) T.m_len PySem.boot_len (pa_cons (pv 0) pa_nil)) (pa_cons pe_int pa_nil))) pa_nil)) (pg_name (i := 2) sc_law_reel.nd rfl (.inl rfl)) (pss_cons (ps_set (i := 3) sc_law_reel.nd rfl (.inl rfl) (pe_ix ix_list (pv 0) (pv 2) (fun _ _ => rfl)))
      (pss_one (ps_if (pt_cmpR op_ge (pe_callB call_abs (by rfl) T.m_abs (by decide +kernel) (pa_cons (pv 3) pa_nil)) (pe_op op_pow pe_int pe_int) (nomark _)) (pss_cons (ps_set (i := 4) sc_law_reel.nd rfl (.inl rfl) (pe_callB call_abs (by rfl) T.m_abs (by decide +kernel) (pa_cons (pv 3) pa_nil)))
      (pss_one (ps_for PassesOwn.never rfl (pi_range1 (by rfl) T.m_range (pa_cons pe_int pa_nil)) (pg_name (i := 5) sc_law_reel.nd rfl (.inl rfl)) (pss_one (ps_if (pt_cmpR op_gt (pv 4) pe_int (nomark _)) (pss_cons (ps_expr (pe_bm PySem.F.plainAttrs_list PySem.F.slot_list_append PySem.F.type_list_append mt_append (pv 1) (pa_cons (pe_op op_mod (pe_callTy call_int1 (by rfl) T.m_int (by decide +kernel) (pa_cons (pv 4) pa_nil)) pe_int) pa_nil)))
      (pss_one (ps_set (i := 4) sc_law_reel.nd rfl (.inl rfl) (pe_op op_fdiv (pv 4) pe_int)))) pss_nil))))) (pss_cons (ps_set (i := 6) sc_law_reel.nd rfl (.inl rfl) (pe_op op_mod (pe_callTy call_int1 (by rfl) T.m_int (by decide +kernel) (pa_cons (pe_op op_add (pe_op op_add (pe_op op_mul (pv 3) pe_int) (pe_op op_mul (pv 2) pe_int)) pe_int) pa_nil)) pe_int))
      (pss_one (ps_for PassesOwn.never rfl (pi_range1 (by rfl) T.m_range (pa_cons pe_int pa_nil)) (pg_name (i := 5) sc_law_reel.nd rfl (.inl rfl)) (pss_cons (ps_set (i := 6) sc_law_reel.nd rfl (.inl rfl) (pe_op op_mod (pe_callTy call_int1 (by rfl) T.m_int (by decide +kernel) (pa_cons (pe_op op_add (pe_op op_add (pe_op op_mul (pv 6) pe_int) (pe_op op_mul (pv 5) pe_int)) pe_int) pa_nil)) pe_int))
      (pss_one (ps_expr (pe_bm PySem.F.plainAttrs_list PySem.F.slot_list_append PySem.F.type_list_append mt_append (pv 1) (pa_cons (pe_op op_mod (pe_callTy call_int1 (by rfl) T.m_int (by decide +kernel) (pa_cons (pe_op op_fdiv (pv 6) pe_int) pa_nil)) pe_int) pa_nil))))))))))))
      (pss_cons (ps_set (i := 6) sc_law_reel.nd rfl (.inl rfl) (pe_op op_mod (pe_callTy call_int1 (by rfl) T.m_int (by decide +kernel) (pa_cons (pe_op op_add (pe_op op_add (pe_op op_mul (pe_callB (cr_sum rfl) (by rfl) T.m_sum (by decide +kernel) (pa_cons (pv 1) pa_nil)) pe_int) (pe_op op_mul (pe_callB call_len_seq (by rfl) T.m_len PySem.boot_len (pa_cons (pv 1) pa_nil)) pe_int)) pe_int) pa_nil)) pe_int))
      (pss_cons (ps_for PassesOwn.never rfl (pi_range1 (by rfl) T.m_range (pa_cons pe_int pa_nil)) (pg_name (i := 5) sc_law_reel.nd rfl (.inl rfl)) (pss_cons (ps_set (i := 6) sc_law_reel.nd rfl (.inl rfl) (pe_op op_mod (pe_callTy call_int1 (by rfl) T.m_int (by decide +kernel) (pa_cons (pe_op op_add (pe_op op_add (pe_op op_mul (pv 6) pe_int) (pe_op op_mul (pv 5) pe_int)) pe_int) pa_nil)) pe_int))
      (pss_one (ps_expr (pe_bm PySem.F.plainAttrs_list PySem.F.slot_list_append PySem.F.type_list_append mt_append (pv 1) (pa_cons (pe_op op_mod (pe_callTy call_int1 (by rfl) T.m_int (by decide +kernel) (pa_cons (pe_op op_fdiv (pv 6) pe_int) pa_nil)) pe_int) pa_nil))))))
      (pss_one (ps_ret (pv 1))))))), ?_⟩
    -- reel = [0]
    refine ⟨by show 1 ≤ sizeLine; decide, fun o no => ?_⟩
    have s1 : Same H (upd H o (.lst [.int 0])) := same_upd no
    -- for k in range(min(len(script), 63))
    refine ⟨.ref a, rfl, a, _, rfl, .inl (s1.seq hS), _, _, rfl, _, rfl, by split <;> omega, by split <;> omega, ?_⟩
    refine for_range (lo := 0) (fun i σ H' => Making a o H (60 * i) σ H' ∧ i ≤ 63) ⟨⟨none, none, none, none, none, rfl, s1, [], upd_same, Nat.zero_le _⟩, Nat.zero_le _⟩ ?_ ?_
    · rintro i σ H3 hi ⟨⟨y2, y3, y4, y5, y6, rfl, s3, c, ho, hc⟩, hi63⟩
      have hi' : i < ns.length ∧ i < 63 := by
        rw [List.length_map] at hi
        split at hi <;> omega
      obtain ⟨x, hx⟩ : ∃ x, ns[i]? = some x := ⟨_, List.getElem?_eq_getElem hi'.1⟩
      -- cell = script[k]
      refine ⟨.ref a, rfl, _, rfl, a, _, _, .int x, rfl, rfl, s3.seq hS, at_of (j := i) (by omega) (by rw [List.getElem?_map, hx]; rfl), ?_⟩
      -- if abs(cell) >= 10 ** 18
      refine ⟨_, rfl, x, rfl, 10, 18, rfl, rfl, ⟨by decide, by decide, by decide⟩, _, _, rfl, rfl, _, rfl, ite2 (fun e => ?_) (fun e => ?_)⟩
      · -- rest = abs(cell); for turn in range(60)
        refine ⟨_, rfl, x, rfl, 60, rfl, by decide, by decide, ?_⟩
        refine for_range (lo := 0) (n := 60) (fun j σ H' => (∃ z : Int, σ[4]? = some (some (.int z))) ∧ Making a o H (60 * i + j) σ H') ⟨⟨_, rfl⟩, _, _, _, _, _, rfl, s3, c, ho, hc⟩ ?_ ?_
        · rintro j σ H4 hj ⟨⟨z, hz⟩, y2, y3, y4, y5, y6, rfl, s4, c, ho, hc⟩
          have hz' : y4 = some (.int z) := Option.some.inj hz
          subst hz'
          refine ⟨_, rfl, z, 0, rfl, rfl, _, rfl, ite2 (fun e => ?_) (fun e => ?_)⟩
          · refine ⟨.ref o, rfl, .inl ⟨rfl, _, SqL.of ho⟩, _, rfl, .inl ⟨z, rfl, z, 1009, rfl, rfl, (by show (0 : Int) < 1009; decide), o, _, _, rfl, rfl, ho, ?_, ?_⟩⟩
            · rw [List.length_cons, List.length_map]
              exact sz2 (by omega)
            · refine ⟨_, rfl, z, 1009, rfl, rfl, ⟨by decide, by decide⟩, ⟨_, rfl⟩, _, _, _, _, _, rfl, same_mut s4 no, c ++ [z % 1009], ?_, ?_⟩
              · rw [upd_same, ints_snoc]
              · rw [List.length_append]
                show c.length + 1 ≤ _
                omega
          · exact ⟨⟨z, rfl⟩, _, _, _, _, _, rfl, s4, c, ho, by omega⟩
        · rintro σ H4 ⟨_, y2, y3, y4, y5, y6, rfl, s4, c, ho, hc⟩
          exact ⟨⟨_, _, _, _, _, rfl, s4, c, ho, by omega⟩, by omega⟩
      · -- mixed = ..; for turn in range(4)
        refine ⟨_, rfl, x, 48271, rfl, rfl, .inr ⟨by decide, by decide⟩, _, rfl, _, 69621, rfl, rfl, .inr ⟨by decide, by decide⟩, _, _, rfl, rfl, _, 4099, rfl, rfl, .inl ⟨_, rfl, _, _, rfl, rfl, (by show (0 : Int) < 2147483647; decide), ?_⟩⟩
        refine ⟨4, rfl, by decide, by decide, ?_⟩
        refine for_range (lo := 0) (n := 4) (fun j σ H' => (∃ z : Int, σ[6]? = some (some (.int z))) ∧ Making a o H (60 * i + j) σ H') ⟨⟨_, rfl⟩, _, _, _, _, _, rfl, s3, c, ho, hc⟩ ?_ ?_
        · rintro j σ H4 hj ⟨⟨z, hz⟩, y2, y3, y4, y5, y6, rfl, s4, c, ho, hc⟩
          have hz' : y6 = some (.int z) := Option.some.inj hz
          subst hz'
          refine ⟨_, rfl, z, 16807, rfl, rfl, .inr ⟨by decide, by decide⟩, _, rfl, _, 7919, rfl, rfl, .inr ⟨by decide, by decide⟩, _, _, rfl, rfl, _, 101, rfl, rfl, .inl ⟨_, rfl, _, _, rfl, rfl, (by show (0 : Int) < 2147483629; decide), ?_⟩⟩
          refine ⟨.ref o, rfl, .inl ⟨rfl, _, SqL.of ho⟩, _, rfl, _, 2111, rfl, rfl, ⟨by decide, by decide⟩, .inl ⟨_, rfl, _, 1009, rfl, rfl, (by show (0 : Int) < 1009; decide), o, _, _, rfl, rfl, ho, ?_, ?_⟩⟩
          · rw [List.length_cons, List.length_map]
            exact sz2 (by omega)
          · refine ⟨⟨_, rfl⟩, _, _, _, _, _, rfl, same_mut s4 no, c ++ [((z * 16807 + (0 + (j : Int)) * 7919 + 101) % 2147483629 / 2111) % 1009], ?_, ?_⟩
            · rw [upd_same]
              exact congrArg (fun l => some (HO.lst l)) (ints_snoc c _)
            · rw [List.length_append]
              show c.length + 1 ≤ _
              omega
        · rintro σ H4 ⟨_, y2, y3, y4, y5, y6, rfl, s4, c, ho, hc⟩
          exact ⟨⟨_, _, _, _, _, rfl, s4, c, ho, by omega⟩, by omega⟩
    · rintro σ H3 ⟨⟨y2, y3, y4, y5, y6, rfl, s3, c, ho, hc⟩, hi63⟩
      have e0 : (V.int 0 :: c.map V.int) = ((0 : Int) :: c).map V.int := rfl
      have ho' : SqL K H3 o (((0 : Int) :: c).map V.int) := SqL.of ho
      refine ⟨.ref o, rfl, o, (0 : Int) :: c, rfl, ho', _, 69621, rfl, rfl, .inr ⟨by decide, by decide⟩, .ref o, rfl, o, _, rfl, .inl ho', _, 48271, rfl, rfl, .inr ⟨by decide, by decide⟩, _, _, rfl, rfl, _, 977, rfl, rfl, .inl ⟨_, rfl, _, _, rfl, rfl, (by show (0 : Int) < 2147483647; decide), ?_⟩⟩
      refine ⟨40, rfl, by decide, by decide, ?_⟩
      refine for_range (lo := 0) (n := 40) (fun j σ H' => (∃ z : Int, σ[6]? = some (some (.int z))) ∧ ∃ y2 y3 y4 y5 y6, σ = [some (.ref a), some (.ref o), y2, y3, y4, y5, y6] ∧ Same H H' ∧ ∃ c : List Int, H' o = some (.lst (.int 0 :: c.map V.int)) ∧ j ≤ c.length ∧ c.length ≤ 4000 + j) ⟨⟨_, rfl⟩, _, _, _, _, _, rfl, s3, c, ho, Nat.zero_le _, ?_⟩ ?_ ?_
      · have : (min' : Nat) → min' ≤ 63 → c.length ≤ 60 * min' → c.length ≤ 4000 + 0 := fun m h1 h2 => by omega
        exact this _ hi63 hc
      · rintro j σ H4 hj ⟨⟨z, hz⟩, y2, y3, y4, y5, y6, rfl, s4, c, ho, hc1, hc⟩
        have hz' : y6 = some (.int z) := Option.some.inj hz
        subst hz'
        refine ⟨_, rfl, z, 16807, rfl, rfl, .inr ⟨by decide, by decide⟩, _, rfl, _, 7919, rfl, rfl, .inr ⟨by decide, by decide⟩, _, _, rfl, rfl, _, 101, rfl, rfl, .inl ⟨_, rfl, _, _, rfl, rfl, (by show (0 : Int) < 2147483629; decide), ?_⟩⟩
        refine ⟨.ref o, rfl, .inl ⟨rfl, _, SqL.of ho⟩, _, rfl, _, 2111, rfl, rfl, ⟨by decide, by decide⟩, .inl ⟨_, rfl, _, 1009, rfl, rfl, (by show (0 : Int) < 1009; decide), o, _, _, rfl, rfl, ho, ?_, ?_⟩⟩
        · rw [List.length_cons, List.length_map]
          exact sz2 (by omega)
        · refine ⟨⟨_, rfl⟩, _, _, _, _, _, rfl, same_mut s4 no, c ++ [((z * 16807 + (0 + (j : Int)) * 7919 + 101) % 2147483629 / 2111) % 1009], ?_, ?_, ?_⟩
          · rw [upd_same]
            exact congrArg (fun l => some (HO.lst l)) (ints_snoc c _)
          · rw [List.length_append]
            show _ ≤ c.length + 1
            omega
          · rw [List.length_append]
            show c.length + 1 ≤ _
            omega
      · rintro σ H4 ⟨_, y2, y3, y4, y5, y6, rfl, s4, c, ho, hc1, hc⟩
        refine ⟨.ref o, rfl, q H4 o s4 no ⟨0, c, ho, by omega, by omega⟩⟩

/-! ### a drawn item, a drawn word -/
theorem But.seqT {r : Addr} {K : PySem.W.Frag} {H H' : Hp} {a : Addr} {xs : List V} (e : But r H H') (n : a ≠ r) (h : SqT K H a xs) : SqT K H' a xs := by
  rcases h with (h | ⟨o, h⟩) | h
  · exact .inl (.inl (e _ _ n h))
  · exact .inl (.inr ⟨o, e _ _ n h⟩)
  · exact .inr h
def spPick (K : PySem.W.Frag) : Sp := fun vs H Q _ => ∃ (r : Addr) (row : V), vs = [.ref r, row] ∧ ReelAt H r ∧
  ((∃ z, row = .str z ∧ 0 < (cs z).length ∧ (cs z).length ≤ 100000 ∧ ∀ c H', c ∈ cs z → But r H H' → ReelAt H' r → Q (.str (sg c)) H') ∨
   (∃ p xs, row = .ref p ∧ p ≠ r ∧ SqL K H p xs ∧ 0 < xs.length ∧ ∀ v H', v ∈ xs → But r H H' → ReelAt H' r → Q v H'))
theorem ok_pick (T : Txt K mg) : FnOk P w K mg base CX0 2 T.a_law_pick T.fd_law_pick ["reel", "row"] (spPick K) := by
  have G_law_draw : FnOk P w K mg base CX0 1 T.a_law_draw T.fd_law_draw ["reel", "size"] spDraw := ok_draw T
  refine T.F_law_pick.ok sc_law_pick (fun vs H Q E h => ?_) (fun cdv A outer s H vs Q E hr h => ?_)
  · obtain ⟨r, n, rfl, _⟩ := h
    rfl
  · have hr_law_draw : Room 1 _ := hr
    obtain ⟨r, row, rfl, hr0, ⟨z, rfl, hz, hz2, q⟩ | ⟨p, xs, rfl, hp, hS, hx, q⟩⟩ := h
    · refine ⟨_, (pss_one (ps_ret (pe_ix ix_seq (pv 1) (pe_call G_law_draw hr_law_draw (by rfl) T.g_law_draw T.F_law_draw.kp T.b_law_draw .nil pass0 (pa_cons (pv 0) (pa_cons (pe_callB call_len (by rfl) T.m_len PySem.boot_len (pa_cons (pv 1) pa_nil)) pa_nil))) (fun _ _ => rfl)))), ?_⟩
      have hl := len_cs z
      refine ⟨_, rfl, _, rfl, _, rfl, _, z.length, rfl, ⟨sz1 (by omega), rfl⟩, r, _, rfl, hr0, by omega, fun v H' h0 h1 hb hR => ?_⟩
      have hv : v.toNat < (cs z).length := by omega
      exact .inr (.inr ⟨z, v, (cs z)[v.toNat], rfl, rfl, sz1 (by omega), at_of' h0 (List.getElem?_eq_getElem hv), q _ _ (List.getElem_mem hv) hb hR⟩)
    · refine ⟨_, (pss_one (ps_ret (pe_ix ix_seq (pv 1) (pe_call G_law_draw hr_law_draw (by rfl) T.g_law_draw T.F_law_draw.kp T.b_law_draw .nil pass0 (pa_cons (pv 0) (pa_cons (pe_callB call_len (by rfl) T.m_len PySem.boot_len (pa_cons (pv 1) pa_nil)) pa_nil))) (fun _ _ => rfl)))), ?_⟩
      refine ⟨_, rfl, _, rfl, _, rfl, _, xs.length, rfl, .inl ⟨xs, hS, rfl⟩, r, _, rfl, hr0, by omega, fun v H' h0 h1 hb hR => ?_⟩
      have hv : v.toNat < xs.length := by omega
      exact .inl ⟨p, xs, v, xs[v.toNat], rfl, rfl, hb.seq hp hS, at_of (j := v.toNat) (by omega) (List.getElem?_eq_getElem hv), q _ _ (List.getElem_mem hv) hb hR⟩
def spWord : Sp := fun vs H Q _ => ∃ (r : Addr) (z : Str) (a b : Int), vs = [.ref r, .str z, .int a, .int b] ∧ ReelAt H r ∧ 0 < (cs z).length ∧ (cs z).length ≤ 100000 ∧ 0 ≤ a ∧ a ≤ b ∧ b ≤ 50000 ∧
  ∀ (x : Str) H', a ≤ ((cs x).length : Int) → ((cs x).length : Int) ≤ b → (∀ c ∈ cs x, c ∈ cs z) → But r H H' → ReelAt H' r → Q (.str x) H'
theorem map_snoc (l : List Nat) (c : Nat) : ((l.map sg).map V.str) ++ [V.str (sg c)] = ((l ++ [c]).map sg).map V.str := by
  rw [List.map_append, List.map_append]
  rfl
theorem ok_word (T : Txt K mg) : FnOk P w K mg base CX0 3 T.a_law_word T.fd_law_word ["reel", "letters", "least", "most"] spWord := by
  have G_law_draw : FnOk P w K mg base CX0 1 T.a_law_draw T.fd_law_draw ["reel", "size"] spDraw := ok_draw T
  have G_law_pick : FnOk P w K mg base CX0 2 T.a_law_pick T.fd_law_pick ["reel", "row"] (spPick K) := ok_pick T
  refine T.F_law_word.ok sc_law_word (fun vs H Q E h => ?_) (fun cdv A outer s H vs Q E hr h => ?_)
  · obtain ⟨r, z, a, b, rfl, _⟩ := h
    rfl
  · have hr_law_draw : Room 1 _ := hr.mono (by decide)
    have hr_law_pick : Room 2 _ := hr
    obtain ⟨r, z, a, b, rfl, hr0, hz, hz2, h0, h1, h2, q⟩ := h
    refine ⟨_, (pss_one (ps_ret (pe_join pe_str (pe_lc (own := [("k", 4)]) (g := gName 4) (by rfl) sc_law_word.nd (pi_range1 (by rfl) T.m_range (pa_cons (pe_op op_add (pv 2) (pe_call G_law_draw hr_law_draw (by rfl) T.g_law_draw T.F_law_draw.kp T.b_law_draw .nil pass0 (pa_cons (pv 0) (pa_cons (pe_op op_add (pe_op op_sub (pv 3) (pv 2)) pe_int) pa_nil)))) pa_nil)) (blkOk_by (own := [("k", 4)]) (N := ["reel", "letters", "least", "most", "k"]) (sc := defScope s_law_word) (by decide +kernel)) (fun _ _ _ _ _ => pg_name (i := 4) sc_law_word.nd rfl (Or.inl rfl)) (fun _ _ _ _ _ => pts_nil) (fun _ _ _ _ _ => (pe_call G_law_pick hr_law_pick (by rfl) T.g_law_pick T.F_law_pick.kp T.b_law_pick .nil pass0 (pa_cons (pv 0) (pa_cons (pv 1) pa_nil)))))))), ?_⟩
    refine ⟨⟨_, rfl⟩, _, rfl, _, rfl, _, rfl, _, rfl, _, _, rfl, rfl, _, 1, rfl, rfl, r, _, rfl, hr0, by omega, fun v H1 v0 v1 hb1 hR1 => ?_⟩
    refine ⟨_, _, rfl, rfl, _, rfl, by omega, by omega, fun D nD => ?_⟩
    refine lc_range (lo := 0) (n := (a + v).toNat) (fun i H' => ∃ l : List Nat, H' D = some (.lst ((l.map sg).map V.str)) ∧ l.length = i ∧ (∀ c ∈ l, c ∈ cs z) ∧ But r H1 H' ∧ ReelAt H' r)
      ⟨[], upd_same, rfl, (fun c hc => absurd hc List.not_mem_nil), But.new nD, hR1.new nD⟩ ?_ ?_
    · rintro i H' hi ⟨l, hD, hl, hm, hb, hR⟩
      refine ⟨rfl, _, rfl, _, rfl, r, _, rfl, hR, .inl ⟨z, rfl, hz, hz2, fun c H2 hc hb2 hR2 => ?_⟩⟩
      have hDr : D ≠ r := (hR1.ne nD).symm
      have hD2 := hb2 D _ hDr hD
      refine ⟨_, hD2, sz2 (by rw [List.length_map, List.length_map]; omega), l ++ [c], ?_, ?_, ?_, ?_, ?_⟩
      · rw [upd_same, map_snoc]
      · rw [List.length_append, hl]
        rfl
      · intro x hx
        rcases List.mem_append.mp hx with hx | hx
        · exact hm x hx
        · rw [List.mem_singleton.mp hx]
          exact hc
      · exact fun b o n e => by
          rw [upd_ne (ne_of_none e nD)]
          exact hb2 b o n (hb b o n e)
      · obtain ⟨z1, c1, e1, e2⟩ := hR2
        exact ⟨z1, c1, by rw [upd_ne hDr.symm]; exact e1, e2⟩
    · rintro H' ⟨l, hD, hl, hm, hb, hR⟩
      refine ⟨_, _, _, rfl, rfl, .inl (SqL.of hD), ?_, ?_⟩
      · rw [sg_lens, List.length_map]
        show l.length + l.length * 0 ≤ _
        omega
      · rw [join_sg rfl]
        exact q _ _ (by show a ≤ (l.length : Int); omega) (by show (l.length : Int) ≤ b; omega) hm (hb1.trans hb) hR

/-! ### drawn texts -/
def spNumber : Sp := fun vs H Q _ => ∃ i, vs = [.int i] ∧ Q (.bl true) H
theorem ok_number (T : Txt K mg) : FnOk P w K mg base CX0 1 T.a_law_number T.fd_law_number ["value"] spNumber := by
  refine T.F_law_number.ok sc_law_number (fun vs H Q E h => ?_) (fun cdv A outer s H vs Q E hr h => ?_)
  · obtain ⟨i, rfl, _⟩ := h
    rfl
  · obtain ⟨i, rfl, q⟩ := h
    refine ⟨_, (pss_one (ps_ret (pe_and (pe_callB call_isi (by rfl) T.m_isinstance (by decide +kernel) (pa_cons (pv 0) (pa_cons (pe_bltn (v := .ty "int") (by rfl) T.m_int (by decide +kernel) rfl) pa_nil))) (pe_one (pe_not (pe_callB call_isi (by rfl) T.m_isinstance (by decide +kernel) (pa_cons (pv 0) (pa_cons (pe_bltn (v := .ty "bool") (by rfl) T.m_bool (by decide +kernel) rfl) pa_nil)))))))), ?_⟩
    refine ⟨_, rfl, _, _, _, _, true, rfl, .ty _, .base (.int i), kit_ty (by decide +kernel), true, rfl, iteT ⟨_, rfl, _, _, _, _, false, rfl, .ty _, .base (.int i), kit_ty (by decide +kernel), false, rfl, q⟩⟩
def spSigns : Sp := fun vs H Q _ => vs = [] ∧ ∀ z : Str, (cs z).length = 96 → TOk z → Q (.str z) H
theorem ok_signs (T : Txt K mg) : FnOk P w K mg base CX0 1 T.a_law_signs T.fd_law_signs [] spSigns := by
  refine T.F_law_signs.ok sc_law_signs (fun vs H Q E h => ?_) (fun cdv A outer s H vs Q E hr h => ?_)
  · obtain ⟨rfl, _⟩ := h
    rfl
  · obtain ⟨rfl, q⟩ := h
    refine ⟨_, (pss_cons (ps_set (i := 0) sc_law_signs.nd rfl (.inl rfl) pe_str)
      (pss_one (ps_ret (pe_op op_add_str (pv 0) pe_str)))), ?_⟩
    refine ⟨_, rfl, _, _, rfl, rfl, by decide +kernel, ?_⟩
    exact q _ (by decide +kernel) (tok_of (by decide +kernel))
/-- every item of a written list of ints -/
theorem ints_of {vs : List V} {lo hi : Int} (h : ∀ v ∈ vs, ∃ i, v = V.int i ∧ lo ≤ i ∧ i ≤ hi) {v : V} (m : v ∈ vs) : ∃ i, v = V.int i ∧ lo ≤ i ∧ i ≤ hi := h v m
def intsIn (lo hi : Int) : List V → Bool
  | [] => true
  | .int i :: r => decide (lo ≤ i) && decide (i ≤ hi) && intsIn lo hi r
  | _ :: _ => false
theorem intsIn_mem {lo hi : Int} : ∀ {vs : List V}, intsIn lo hi vs = true → ∀ v ∈ vs, ∃ i, v = V.int i ∧ lo ≤ i ∧ i ≤ hi
  | [], _, v, m => absurd m List.not_mem_nil
  | .int i :: r, h, v, m => by
    unfold intsIn at h
    simp only [Bool.and_eq_true, decide_eq_true_eq] at h
    rcases List.mem_cons.mp m with rfl | m
    · exact ⟨i, rfl, h.1.1, h.1.2⟩
    · exact intsIn_mem h.2 v m
  | .non :: _, h, _, _ => by cases h
  | .bl _ :: _, h, _, _ => by cases h
  | .str _ :: _, h, _, _ => by cases h
  | .byt _ :: _, h, _, _ => by cases h
  | .flt _ :: _, h, _, _ => by cases h
  | .ref _ :: _, h, _, _ => by cases h
  | .ty _ :: _, h, _, _ => by cases h
def strsIn (lo hi : Nat) : List V → Bool
  | [] => true
  | .str z :: r => decide (lo ≤ z.cps.size) && decide (z.cps.size ≤ hi) && tokB z && strsIn lo hi r
  | _ :: _ => false
theorem strsIn_mem {lo hi : Nat} : ∀ {vs : List V}, strsIn lo hi vs = true → ∀ v ∈ vs, ∃ z, v = V.str z ∧ lo ≤ (cs z).length ∧ (cs z).length ≤ hi ∧ TOk z
  | [], _, v, m => absurd m List.not_mem_nil
  | .str z :: r, h, v, m => by
    unfold strsIn at h
    simp only [Bool.and_eq_true, decide_eq_true_eq] at h
    rcases List.mem_cons.mp m with rfl | m
    · have e : (cs z).length = z.cps.size := by
        show z.cps.toList.length = _
        rw [Array.length_toList]
      exact ⟨z, rfl, by omega, by omega, tok_of h.1.2⟩
    · exact strsIn_mem h.2 v m
  | .non :: _, h, _, _ => by cases h
  | .bl _ :: _, h, _, _ => by cases h
  | .int _ :: _, h, _, _ => by cases h
  | .byt _ :: _, h, _, _ => by cases h
  | .flt _ :: _, h, _, _ => by cases h
  | .ref _ :: _, h, _, _ => by cases h
  | .ty _ :: _, h, _, _ => by cases h
theorem strs4 {z1 z2 : Str} {a b : Str} (h1 : (cs z1).length = 96) (h2 : (cs z2).length = 96) (o1 : TOk z1) (o2 : TOk z2) (ha : strsIn 1 96 [.str a, .str b] = true) {v : V} (m : v ∈ [V.str z1, V.str z2, V.str a, V.str b]) :
    ∃ z, v = V.str z ∧ 0 < (cs z).length ∧ (cs z).length ≤ 96 ∧ TOk z := by
  rcases List.mem_cons.mp m with rfl | m
  · exact ⟨z1, rfl, by omega, by omega, o1⟩
  rcases List.mem_cons.mp m with rfl | m
  · exact ⟨z2, rfl, by omega, by omega, o2⟩
  obtain ⟨z, e, h3, h4, h5⟩ := strsIn_mem ha v m
  exact ⟨z, e, by omega, h4, h5⟩
def spStepped : Sp := fun vs H Q _ => ∃ (r : Addr) (n : Int), vs = [.ref r, .int n] ∧ ReelAt H r ∧ 0 ≤ n ∧ n ≤ 50000 ∧ ∀ (x : Str) H', ((cs x).length : Int) = n → TOk x → But r H H' → ReelAt H' r → Q (.str x) H'
theorem ok_stepped (T : Txt K mg) : FnOk P w K mg base CX0 3 T.a_law_stepped T.fd_law_stepped ["reel", "size"] spStepped := by
  have G_law_draw : FnOk P w K mg base CX0 1 T.a_law_draw T.fd_law_draw ["reel", "size"] spDraw := ok_draw T
  have G_law_pick : FnOk P w K mg base CX0 2 T.a_law_pick T.fd_law_pick ["reel", "row"] (spPick K) := ok_pick T
  have G_law_signs : FnOk P w K mg base CX0 1 T.a_law_signs T.fd_law_signs [] spSigns := ok_signs T
  refine T.F_law_stepped.ok sc_law_stepped (fun vs H Q E h => ?_) (fun cdv A outer s H vs Q E hr h => ?_)
  · obtain ⟨r, n, rfl, _⟩ := h
    rfl
  · have hr_law_draw : Room 1 _ := hr.mono (by decide)
    have hr_law_signs : Room 1 _ := hr.mono (by decide)
    have hr_law_pick : Room 2 _ := hr
    obtain ⟨r, n, rfl, hr0, h0, h1, q⟩ := h
    refine ⟨_, (pss_cons (ps_set (i := 2) sc_law_stepped.nd rfl (.inr rfl) (pe_call G_law_pick hr_law_pick (by rfl) T.g_law_pick T.F_law_pick.kp T.b_law_pick .nil pass0 (pa_cons (pv 0) (pa_cons (pe_lst (pa_cons (pe_call0 G_law_signs hr_law_signs (by rfl) T.g_law_signs T.F_law_signs.kp T.b_law_signs .nil pass0) (pa_cons (pe_call0 G_law_signs hr_law_signs (by rfl) T.g_law_signs T.F_law_signs.kp T.b_law_signs .nil pass0) (pa_cons pe_str (pa_cons pe_str pa_nil))))) pa_nil))))
      (pss_cons (ps_set (i := 3) sc_law_stepped.nd rfl (.inr rfl) (pe_call G_law_draw hr_law_draw (by rfl) T.g_law_draw T.F_law_draw.kp T.b_law_draw .nil pass0 (pa_cons (pv 0) (pa_cons pe_int pa_nil))))
      (pss_cons (ps_set (i := 4) sc_law_stepped.nd rfl (.inr rfl) (pe_call G_law_pick hr_law_pick (by rfl) T.g_law_pick T.F_law_pick.kp T.b_law_pick .nil pass0 (pa_cons (pv 0) (pa_cons (pe_lst (pa_cons pe_int (pa_cons pe_int (pa_cons pe_int (pa_cons pe_int pa_nil))))) pa_nil))))
      (pss_one (ps_ret (pe_join pe_str (pe_lc (own := [("k", 5)]) (g := gName 5) (by rfl) sc_law_stepped.nd (pi_range1 (by rfl) T.m_range (pa_cons (pv 1) pa_nil)) (blkOk_by (own := [("k", 5)]) (N := ["reel", "size", "letters", "first", "step", "k"]) (sc := defScope s_law_stepped) (by decide +kernel)) (fun _ _ _ _ _ => pg_name (i := 5) sc_law_stepped.nd rfl (Or.inl rfl)) (fun _ _ _ _ _ => pts_nil) (fun _ _ _ _ _ => (pe_ix ix_str (pv 2) (pe_op op_modN (pe_callTy call_int1 (by rfl) T.m_int (by decide +kernel) (pa_cons (pe_op op_add (pv 3) (pe_op op_mul (pv 5) (pv 4))) pa_nil)) (pe_callB call_len_str (by rfl) T.m_len PySem.boot_len (pa_cons (pv 2) pa_nil))) (fun _ _ => rfl)))))))))), ?_⟩
    -- letters
    refine ⟨_, rfl, rfl, fun z1 l1 o1 => ⟨rfl, fun z2 l2 o2 => ⟨by show 4 ≤ sizeLine; decide, fun p np => ?_⟩⟩⟩
    refine ⟨r, _, rfl, hr0.new np, .inr ⟨p, _, rfl, (hr0.ne np).symm, SqL.of upd_same, by show 0 < 4; decide, fun v H1 hv hb1 hR1 => ?_⟩⟩
    obtain ⟨z, rfl, hz0, hz1, hzo⟩ := strs4 l1 l2 o1 o2 (by decide +kernel) hv
    have hb1' : But r H H1 := (But.new np).trans hb1
    -- first
    refine ⟨_, rfl, r, _, rfl, hR1, by decide, fun f H2 f0 f1 hb2 hR2 => ?_⟩
    -- step
    refine ⟨_, rfl, by show 4 ≤ sizeLine; decide, fun p2 np2 => ?_⟩
    refine ⟨r, _, rfl, hR2.new np2, .inr ⟨p2, _, rfl, (hR2.ne np2).symm, SqL.of upd_same, by show 0 < 4; decide, fun v H3 hv hb3 hR3 => ?_⟩⟩
    obtain ⟨st, rfl, hs0, hs1⟩ : ∃ i : Int, v = .int i ∧ 0 ≤ i ∧ i ≤ 100 := by
      rcases List.mem_cons.mp hv with rfl | hv
      · exact ⟨1, rfl, by decide, by decide⟩
      rcases List.mem_cons.mp hv with rfl | hv
      · exact ⟨5, rfl, by decide, by decide⟩
      rcases List.mem_cons.mp hv with rfl | hv
      · exact ⟨7, rfl, by decide, by decide⟩
      rcases List.mem_cons.mp hv with rfl | hv
      · exact ⟨95, rfl, by decide, by decide⟩
      · exact absurd hv List.not_mem_nil
    have hb3' : But r H H3 := hb1'.trans (hb2.trans ((But.new np2).trans hb3))
    refine ⟨⟨_, rfl⟩, _, rfl, n, rfl, by omega, by omega, fun D nD => ?_⟩
    refine lc_range (lo := 0) (n := n.toNat) (fun i H' => ∃ l : List Nat, H' D = some (.lst ((l.map sg).map V.str)) ∧ l.length = i ∧ (∀ c ∈ l, c < 1114112) ∧ But r H3 H' ∧ ReelAt H' r)
      ⟨[], upd_same, rfl, (fun c hc => absurd hc List.not_mem_nil), But.new nD, hR3.new nD⟩ ?_ ?_
    · rintro i H' hi ⟨l, hD, hl, hlo, hb, hR⟩
      have fm := fmod_range (f + (0 + (i : Int)) * st) (n := (z.length : Int)) (by rw [len_cs]; omega)
      have hlz := len_cs z
      have hv : ((f + (0 + (i : Int)) * st).fmod (z.length : Int)).toNat < (cs z).length := by omega
      obtain ⟨c, hc⟩ : ∃ c, (cs z)[((f + (0 + (i : Int)) * st).fmod (z.length : Int)).toNat]? = some c := ⟨_, List.getElem?_eq_getElem hv⟩
      refine ⟨rfl, _, rfl, _, rfl, _, rfl, _, rfl, _, _, rfl, rfl, .inr ⟨by omega, by omega⟩, _, _, rfl, rfl, .inl ⟨_, rfl, ?_⟩⟩
      refine ⟨_, rfl, z, rfl, sz1 (by omega), _, _, rfl, rfl, by omega, z, _, c, rfl, rfl, sz1 (by omega), at_of' fm.1 hc, ?_⟩
      have hDr : D ≠ r := (hR3.ne nD).symm
      refine ⟨_, hD, sz2 (by rw [List.length_map, List.length_map]; omega), l ++ [c], ?_, ?_, ?_, ?_, ?_⟩
      · rw [upd_same, map_snoc]
      · rw [List.length_append, hl]
        rfl
      · intro x hx
        rcases List.mem_append.mp hx with hx | hx
        · exact hlo x hx
        · rw [List.mem_singleton.mp hx]
          exact hzo c (List.mem_of_getElem? hc)
      · exact fun b o n e => by
          rw [upd_ne (ne_of_none e nD)]
          exact hb b o n e
      · obtain ⟨z1, c1, e1, e2⟩ := hR
        exact ⟨z1, c1, by rw [upd_ne hDr.symm]; exact e1, e2⟩
    · rintro H' ⟨l, hD, hl, hlo, hb, hR⟩
      refine ⟨_, _, _, rfl, rfl, .inl (SqL.of hD), ?_, ?_⟩
      · rw [sg_lens, List.length_map]
        show l.length + l.length * 0 ≤ _
        omega
      · rw [join_sg rfl]
        exact q _ _ (by show (l.length : Int) = n; omega) hlo (hb3'.trans hb) hR
/-- a text of at most n signs -/
def spText (m : Nat) : Sp := fun vs H Q _ => ∃ (r : Addr), vs = [.ref r] ∧ ReelAt H r ∧ ∀ (x : Str) H', (cs x).length ≤ m → TOk x → But r H H' → ReelAt H' r → Q (.str x) H'

theorem ok_text (T : Txt K mg) : FnOk P w K mg base CX0 4 T.a_law_text T.fd_law_text ["reel"] (spText 2000) := by
  have G_law_draw : FnOk P w K mg base CX0 1 T.a_law_draw T.fd_law_draw ["reel", "size"] spDraw := ok_draw T
  have G_law_pick : FnOk P w K mg base CX0 2 T.a_law_pick T.fd_law_pick ["reel", "row"] (spPick K) := ok_pick T
  have G_law_word : FnOk P w K mg base CX0 3 T.a_law_word T.fd_law_word ["reel", "letters", "least", "most"] spWord := ok_word T
  have G_law_signs : FnOk P w K mg base CX0 1 T.a_law_signs T.fd_law_signs [] spSigns := ok_signs T
  have G_law_stepped : FnOk P w K mg base CX0 3 T.a_law_stepped T.fd_law_stepped ["reel", "size"] spStepped := ok_stepped T
  refine T.F_law_text.ok sc_law_text (fun vs H Q E h => ?_) (fun cdv A outer s H vs Q E hr h => ?_)
  · obtain ⟨r, rfl, _⟩ := h
    rfl
  · have hr_law_draw : Room 1 _ := hr.mono (by decide)
    have hr_law_signs : Room 1 _ := hr.mono (by decide)
    have hr_law_pick : Room 2 _ := hr.mono (by decide)
    have hr_law_word : Room 3 _ := hr
    have hr_law_stepped : Room 3 _ := hr
    obtain ⟨r, rfl, hr0, q⟩ := h
    refine ⟨_, (pss_cons (ps_set (i := 1) sc_law_text.nd rfl (.inl rfl) (pe_call G_law_draw hr_law_draw (by rfl) T.g_law_draw T.F_law_draw.kp T.b_law_draw .nil pass0 (pa_cons (pv 0) (pa_cons pe_int pa_nil))))
      (pss_cons (ps_if (pt_cmpR op_eq (pv 1) pe_int (nomark _)) (pss_cons (ps_set (i := 2) sc_law_text.nd rfl (.inl rfl) (pe_op op_add pe_int (pe_call G_law_draw hr_law_draw (by rfl) T.g_law_draw T.F_law_draw.kp T.b_law_draw .nil pass0 (pa_cons (pv 0) (pa_cons pe_int pa_nil)))))
      (pss_cons (ps_if (pt_cmpR op_eq (pe_call G_law_draw hr_law_draw (by rfl) T.g_law_draw T.F_law_draw.kp T.b_law_draw .nil pass0 (pa_cons (pv 0) (pa_cons pe_int pa_nil))) pe_int (nomark _)) (pss_one (ps_set (i := 2) sc_law_text.nd rfl (.inl rfl) (pe_op op_sub pe_int (pe_call G_law_draw hr_law_draw (by rfl) T.g_law_draw T.F_law_draw.kp T.b_law_draw .nil pass0 (pa_cons (pv 0) (pa_cons pe_int pa_nil)))))) pss_nil)
      (pss_one (ps_ret (pe_call G_law_stepped hr_law_stepped (by rfl) T.g_law_stepped T.F_law_stepped.kp T.b_law_stepped .nil pass0 (pa_cons (pv 0) (pa_cons (pv 2) pa_nil))))))) pss_nil)
      (pss_cons (ps_if (pt_cmpR op_lt (pv 1) pe_int (nomark _)) (pss_one (ps_ret (pe_call G_law_stepped hr_law_stepped (by rfl) T.g_law_stepped T.F_law_stepped.kp T.b_law_stepped .nil pass0 (pa_cons (pv 0) (pa_cons (pe_call G_law_pick hr_law_pick (by rfl) T.g_law_pick T.F_law_pick.kp T.b_law_pick .nil pass0 (pa_cons (pv 0) (pa_cons (pe_lst (pa_cons pe_int (pa_cons pe_int (pa_cons pe_int (pa_cons pe_int (pa_cons pe_int (pa_cons pe_int (pa_cons pe_int pa_nil)))))))) pa_nil))) pa_nil))))) pss_nil)
      (pss_one (ps_ret (pe_call G_law_word hr_law_word (by rfl) T.g_law_word T.F_law_word.kp T.b_law_word .nil pass0 (pa_cons (pv 0) (pa_cons (pe_call G_law_pick hr_law_pick (by rfl) T.g_law_pick T.F_law_pick.kp T.b_law_pick .nil pass0 (pa_cons (pv 0) (pa_cons (pe_lst (pa_cons (pe_call0 G_law_signs hr_law_signs (by rfl) T.g_law_signs T.F_law_signs.kp T.b_law_signs .nil pass0) (pa_cons (pe_call0 G_law_signs hr_law_signs (by rfl) T.g_law_signs T.F_law_signs.kp T.b_law_signs .nil pass0) (pa_cons pe_str (pa_cons pe_str pa_nil))))) pa_nil))) (pa_cons pe_int (pa_cons (pe_call G_law_pick hr_law_pick (by rfl) T.g_law_pick T.F_law_pick.kp T.b_law_pick .nil pass0 (pa_cons (pv 0) (pa_cons (pe_lst (pa_cons pe_int (pa_cons pe_int (pa_cons pe_int (pa_cons pe_int pa_nil))))) pa_nil))) pa_nil)))))))))), ?_⟩
    -- form
    refine ⟨_, rfl, r, _, rfl, hr0, by decide, fun f H1 f0 f1 hb1 hR1 => ?_⟩
    refine ⟨_, rfl, rfl, _, rfl, ite2 (fun e => ?_) (fun e => ?_)⟩
    · refine ⟨_, rfl, r, _, rfl, hR1, by decide, fun a H2 a0 a1 hb2 hR2 => ?_⟩
      refine ⟨200, a, rfl, rfl, ?_⟩
      refine ⟨_, rfl, r, _, rfl, hR2, by decide, fun b H3 b0 b1 hb3 hR3 => ?_⟩
      have hb := hb1.trans (hb2.trans hb3)
      refine ⟨rfl, _, rfl, ite2 (fun e => ?_) (fun e => ?_)⟩
      · refine ⟨_, rfl, r, _, rfl, hR3, by decide, fun c H4 c0 c1 hb4 hR4 => ?_⟩
        refine ⟨2000, c, rfl, rfl, _, rfl, _, rfl, r, _, rfl, hR4, by omega, by omega, fun x H5 hx ho hb5 hR5 => ?_⟩
        exact q x H5 (by omega) ho (hb.trans (hb4.trans hb5)) hR5
      · refine ⟨_, rfl, _, rfl, r, _, rfl, hR3, by omega, by omega, fun x H5 hx ho hb5 hR5 => ?_⟩
        exact q x H5 (by omega) ho (hb.trans hb5) hR5
    · refine ⟨_, rfl, f, 4, rfl, rfl, _, rfl, ite2 (fun e => ?_) (fun e => ?_)⟩
      · refine ⟨_, rfl, _, rfl, by show 7 ≤ sizeLine; decide, fun p np => ?_⟩
        refine ⟨r, _, rfl, hR1.new np, .inr ⟨p, _, rfl, (hR1.ne np).symm, SqL.of upd_same, by show 0 < 7; decide, fun v H2 hv hb2 hR2 => ?_⟩⟩
        obtain ⟨i, rfl, i0, i1⟩ := intsIn_mem (lo := 0) (hi := 60) (by decide +kernel) v hv
        refine ⟨r, _, rfl, hR2, i0, by omega, fun x H5 hx ho hb5 hR5 => ?_⟩
        exact q x H5 (by omega) ho (hb1.trans ((But.new np).trans (hb2.trans hb5))) hR5
      · refine ⟨_, rfl, _, rfl, rfl, fun z1 l1 o1 => ⟨rfl, fun z2 l2 o2 => ⟨by show 4 ≤ sizeLine; decide, fun p np => ?_⟩⟩⟩
        refine ⟨r, _, rfl, hR1.new np, .inr ⟨p, _, rfl, (hR1.ne np).symm, SqL.of upd_same, by show 0 < 4; decide, fun v H2 hv hb2 hR2 => ?_⟩⟩
        obtain ⟨z, rfl, hz0, hz1, hzo⟩ := strs4 l1 l2 o1 o2 (by decide +kernel) hv
        refine ⟨_, rfl, by show 4 ≤ sizeLine; decide, fun p2 np2 => ?_⟩
        refine ⟨r, _, rfl, hR2.new np2, .inr ⟨p2, _, rfl, (hR2.ne np2).symm, SqL.of upd_same, by show 0 < 4; decide, fun v H3 hv hb3 hR3 => ?_⟩⟩
        obtain ⟨i, rfl, i0, i1⟩ := intsIn_mem (lo := 1) (hi := 20) (by decide +kernel) v hv
        refine ⟨r, z, 0, i, rfl, hR3, hz0, by omega, by decide, by omega, by omega, fun x H5 hx hx2 hxz hb5 hR5 => ?_⟩
        exact q x H5 (by omega) (fun c hc => hzo c (hxz c hc)) (hb1.trans ((But.new np).trans (hb2.trans ((But.new np2).trans (hb3.trans hb5))))) hR5

theorem ok_new (T : Txt K mg) : FnOk P w K mg base CX0 4 T.a_law_new T.fd_law_new ["reel"] (spText 300) := by
  have G_law_draw : FnOk P w K mg base CX0 1 T.a_law_draw T.fd_law_draw ["reel", "size"] spDraw := ok_draw T
  have G_law_pick : FnOk P w K mg base CX0 2 T.a_law_pick T.fd_law_pick ["reel", "row"] (spPick K) := ok_pick T
  have G_law_word : FnOk P w K mg base CX0 3 T.a_law_word T.fd_law_word ["reel", "letters", "least", "most"] spWord := ok_word T
  have G_law_signs : FnOk P w K mg base CX0 1 T.a_law_signs T.fd_law_signs [] spSigns := ok_signs T
  have G_law_stepped : FnOk P w K mg base CX0 3 T.a_law_stepped T.fd_law_stepped ["reel", "size"] spStepped := ok_stepped T
  refine T.F_law_new.ok sc_law_new (fun vs H Q E h => ?_) (fun cdv A outer s H vs Q E hr h => ?_)
  · obtain ⟨r, rfl, _⟩ := h
    rfl
  · have hr_law_draw : Room 1 _ := hr.mono (by decide)
    have hr_law_signs : Room 1 _ := hr.mono (by decide)
    have hr_law_pick : Room 2 _ := hr.mono (by decide)
    have hr_law_word : Room 3 _ := hr
    have hr_law_stepped : Room 3 _ := hr
    obtain ⟨r, rfl, hr0, q⟩ := h
    refine ⟨_, (pss_cons (ps_if (pt_cmpR op_eq (pe_call G_law_draw hr_law_draw (by rfl) T.g_law_draw T.F_law_draw.kp T.b_law_draw .nil pass0 (pa_cons (pv 0) (pa_cons pe_int pa_nil))) pe_int (nomark _)) (pss_one (ps_ret (pe_call G_law_stepped hr_law_stepped (by rfl) T.g_law_stepped T.F_law_stepped.kp T.b_law_stepped .nil pass0 (pa_cons (pv 0) (pa_cons (pe_call G_law_pick hr_law_pick (by rfl) T.g_law_pick T.F_law_pick.kp T.b_law_pick .nil pass0 (pa_cons (pv 0) (pa_cons (pe_lst (pa_cons pe_int (pa_cons pe_int (pa_cons pe_int (pa_cons pe_int (pa_cons pe_int (pa_cons pe_int (pa_cons pe_int (pa_cons pe_int (pa_cons pe_int pa_nil)))))))))) pa_nil))) pa_nil))))) pss_nil)
      (pss_cons (ps_set (i := 1) sc_law_new.nd rfl (.inl rfl) (pe_call G_law_pick hr_law_pick (by rfl) T.g_law_pick T.F_law_pick.kp T.b_law_pick .nil pass0 (pa_cons (pv 0) (pa_cons (pe_lst (pa_cons pe_int (pa_cons pe_int (pa_cons pe_int (pa_cons pe_int (pa_cons pe_int (pa_cons pe_int (pa_cons pe_int (pa_cons pe_int pa_nil))))))))) pa_nil))))
      (pss_one (ps_ret (pe_call G_law_word hr_law_word (by rfl) T.g_law_word T.F_law_word.kp T.b_law_word .nil pass0 (pa_cons (pv 0) (pa_cons (pe_call G_law_pick hr_law_pick (by rfl) T.g_law_pick T.F_law_pick.kp T.b_law_pick .nil pass0 (pa_cons (pv 0) (pa_cons (pe_lst (pa_cons (pe_call0 G_law_signs hr_law_signs (by rfl) T.g_law_signs T.F_law_signs.kp T.b_law_signs .nil pass0) (pa_cons (pe_call0 G_law_signs hr_law_signs (by rfl) T.g_law_signs T.F_law_signs.kp T.b_law_signs .nil pass0) (pa_cons pe_str (pa_cons pe_str pa_nil))))) pa_nil))) (pa_cons (pv 1) (pa_cons (pv 1) pa_nil))))))))), ?_⟩
    refine ⟨_, rfl, r, _, rfl, hr0, by decide, fun f H1 f0 f1 hb1 hR1 => ?_⟩
    refine ⟨rfl, _, rfl, ite2 (fun e => ?_) (fun e => ?_)⟩
    · refine ⟨_, rfl, _, rfl, by show 9 ≤ sizeLine; decide, fun p np => ?_⟩
      refine ⟨r, _, rfl, hR1.new np, .inr ⟨p, _, rfl, (hR1.ne np).symm, SqL.of upd_same, by show 0 < 9; decide, fun v H2 hv hb2 hR2 => ?_⟩⟩
      obtain ⟨i, rfl, i0, i1⟩ := intsIn_mem (lo := 15) (hi := 300) (by decide +kernel) v hv
      refine ⟨r, _, rfl, hR2, by omega, by omega, fun x H5 hx ho hb5 hR5 => ?_⟩
      exact q x H5 (by omega) ho (hb1.trans ((But.new np).trans (hb2.trans hb5))) hR5
    · refine ⟨_, rfl, by show 8 ≤ sizeLine; decide, fun p np => ?_⟩
      refine ⟨r, _, rfl, hR1.new np, .inr ⟨p, _, rfl, (hR1.ne np).symm, SqL.of upd_same, by show 0 < 8; decide, fun v H2 hv hb2 hR2 => ?_⟩⟩
      obtain ⟨i, rfl, i0, i1⟩ := intsIn_mem (lo := 0) (hi := 5) (by decide +kernel) v hv
      refine ⟨_, rfl, _, rfl, rfl, fun z1 l1 o1 => ⟨rfl, fun z2 l2 o2 => ⟨by show 4 ≤ sizeLine; decide, fun p2 np2 => ?_⟩⟩⟩
      refine ⟨r, _, rfl, hR2.new np2, .inr ⟨p2, _, rfl, (hR2.ne np2).symm, SqL.of upd_same, by show 0 < 4; decide, fun v H3 hv hb3 hR3 => ?_⟩⟩
      obtain ⟨z, rfl, hz0, hz1, hzo⟩ := strs4 l1 l2 o1 o2 (by decide +kernel) hv
      refine ⟨_, rfl, _, rfl, r, z, i, i, rfl, hR3, hz0, by omega, by omega, by omega, by omega, fun x H5 hx hx2 hxz hb5 hR5 => ?_⟩
      exact q x H5 (by omega) (fun c hc => hzo c (hxz c hc)) (hb1.trans ((But.new np).trans (hb2.trans ((But.new np2).trans (hb3.trans hb5))))) hR5


/-! ### edits, in plain Lean -/
abbrev Ed := Int × Int × Str
abbrev Ed.len (e : Ed) : Nat := (cs e.2.2).length
/-- a text with a stretch replaced -/
def spliceL (t : List Nat) (a b : Nat) (s : List Nat) : List Nat := t.take a ++ s ++ t.drop b
def spl1 (t : List Nat) (e : Ed) : List Nat := spliceL t e.1.toNat e.2.1.toNat (cs e.2.2)
def appl (t : List Nat) (es : List Ed) : List Nat := es.foldl spl1 t
def fit1 (n : Nat) (e : Ed) : Prop := 0 ≤ e.1 ∧ e.1 ≤ e.2.1 ∧ e.2.1 ≤ (n : Int)
instance (n : Nat) (e : Ed) : Decidable (fit1 n e) := by unfold fit1; infer_instance
def size1 (n : Nat) (e : Ed) : Nat := n - (e.2.1.toNat - e.1.toNat) + e.len
def sizeL (n : Nat) (es : List Ed) : Nat := es.foldl size1 n
def fitsL : Nat → List Ed → Prop
  | _, [] => True
  | n, e :: r => fit1 n e ∧ fitsL (size1 n e) r
/-- the index of the first edit that does not fit -/
def unfit : Nat → List Ed → Option Nat
  | _, [] => none
  | n, e :: r => if fit1 n e then (unfit (size1 n e) r).map (· + 1) else some 0
theorem spliceL_len {t s : List Nat} {a b : Nat} (h : a ≤ b) : (spliceL t a b s).length ≤ t.length + s.length := by
  unfold spliceL
  rw [List.length_append, List.length_append, List.length_take, List.length_drop]
  omega
theorem spl1_len {t : List Nat} {e : Ed} (h : fit1 t.length e) : (spl1 t e).length = size1 t.length e := by
  obtain ⟨h1, h2, h3⟩ := h
  unfold spl1 spliceL size1 Ed.len
  rw [List.length_append, List.length_append, List.length_take, List.length_drop]
  omega
theorem fitsL_snoc : ∀ (n : Nat) (es : List Ed) (e : Ed), fitsL n (es ++ [e]) ↔ fitsL n es ∧ fit1 (sizeL n es) e
  | n, [], e => by
    show fit1 n e ∧ True ↔ True ∧ fit1 n e
    simp
  | n, x :: r, e => by
    show fit1 n x ∧ fitsL (size1 n x) (r ++ [e]) ↔ (fit1 n x ∧ fitsL (size1 n x) r) ∧ fit1 (sizeL (size1 n x) r) e
    rw [fitsL_snoc (size1 n x) r e, and_assoc]
theorem appl_snoc (t : List Nat) (es : List Ed) (e : Ed) : appl t (es ++ [e]) = spl1 (appl t es) e := by
  unfold appl
  rw [List.foldl_append]
  rfl
theorem sizeL_snoc (n : Nat) (es : List Ed) (e : Ed) : sizeL n (es ++ [e]) = size1 (sizeL n es) e := by
  unfold sizeL
  rw [List.foldl_append]
  rfl
theorem appl_len : ∀ {t : List Nat} {es : List Ed}, fitsL t.length es → (appl t es).length = sizeL t.length es
  | t, [], _ => rfl
  | t, e :: r, h => by
    obtain ⟨h1, h2⟩ := h
    have e1 := spl1_len h1
    show (appl (spl1 t e) r).length = sizeL (size1 t.length e) r
    rw [← e1] at h2 ⊢
    exact appl_len h2
theorem fitsL_take : ∀ {n : Nat} {es : List Ed} (k : Nat), fitsL n es → fitsL n (es.take k)
  | _, [], k, _ => by rw [List.take_nil]; exact True.intro
  | _, _ :: _, 0, _ => True.intro
  | _, _ :: _, k + 1, h => ⟨h.1, fitsL_take k h.2⟩
theorem unfit_none : ∀ {n : Nat} {es : List Ed}, unfit n es = none ↔ fitsL n es
  | _, [] => by
    show none = none ↔ True
    simp
  | n, e :: r => by
    show (if fit1 n e then (unfit (size1 n e) r).map (· + 1) else some 0) = none ↔ fit1 n e ∧ fitsL (size1 n e) r
    by_cases h : fit1 n e
    · rw [if_pos h, Option.map_eq_none_iff, unfit_none]
      simp [h]
    · rw [if_neg h]
      simp [h]
theorem unfit_take : ∀ {n k : Nat} {es : List Ed}, unfit n es = some k → fitsL n (es.take k) ∧ k < es.length
  | _, _, [], h => by cases h
  | n, k, e :: r, h => by
    have h' : (if fit1 n e then (unfit (size1 n e) r).map (· + 1) else some 0) = some k := h
    by_cases c : fit1 n e
    · rw [if_pos c] at h'
      obtain ⟨j, h1, h2⟩ := Option.map_eq_some_iff.mp h'
      subst h2
      obtain ⟨h3, h4⟩ := unfit_take h1
      exact ⟨⟨c, h3⟩, Nat.succ_lt_succ h4⟩
    · rw [if_neg c] at h'
      cases h'
      exact ⟨True.intro, Nat.succ_pos _⟩
/-- the edit that leads back -/
def back1 (t : List Nat) (e : Ed) : Ed := (e.1, e.1 + (e.len : Int), ⟨((t.take e.2.1.toNat).drop e.1.toNat).toArray⟩)
/-- the edits that lead back, the last one first -/
def backL : List Nat → List Ed → List Ed
  | _, [] => []
  | t, e :: r => backL (spl1 t e) r ++ [back1 t e]
theorem backL_len : ∀ (t : List Nat) (es : List Ed), (backL t es).length = es.length
  | _, [] => rfl
  | t, e :: r => by
    show (backL (spl1 t e) r ++ [back1 t e]).length = r.length + 1
    rw [List.length_append, backL_len]
    rfl
theorem backL_snoc : ∀ (t : List Nat) (es : List Ed) (e : Ed), backL t (es ++ [e]) = back1 (appl t es) e :: backL t es
  | _, [], _ => rfl
  | t, x :: r, e => by
    show backL (spl1 t x) (r ++ [e]) ++ [back1 t x] = back1 (appl (spl1 t x) r) e :: (backL (spl1 t x) r ++ [back1 t x])
    rw [backL_snoc (spl1 t x) r e]
    rfl
theorem cs_toArray (l : List Nat) : cs ⟨l.toArray⟩ = l := rfl
/-- one step there, one step back -/
theorem back1_spl {t : List Nat} {e : Ed} (h : fit1 t.length e) : fit1 (spl1 t e).length (back1 t e) ∧ spl1 (spl1 t e) (back1 t e) = t ∧ back1 (spl1 t e) (back1 t e) = e := by
  obtain ⟨a, b, s⟩ := e
  obtain ⟨h1, h2, h3⟩ := h
  simp only at h1 h2 h3
  obtain ⟨a, rfl⟩ : ∃ n : Nat, a = (n : Int) := ⟨a.toNat, by omega⟩
  obtain ⟨b, rfl⟩ : ∃ n : Nat, b = (n : Int) := ⟨b.toNat, by omega⟩
  have hab : a ≤ b := by omega
  have hb : b ≤ t.length := by omega
  have la : (t.take a).length = a := by rw [List.length_take]; omega
  have lm : ((t.take b).drop a).length = b - a := by rw [List.length_drop, List.length_take]; omega
  have e1 : spl1 t ((a : Int), (b : Int), s) = t.take a ++ cs s ++ t.drop b := rfl
  have ea : ((a : Int) + ((cs s).length : Int)).toNat = a + (cs s).length := by omega
  have tk : (t.take a ++ cs s ++ t.drop b).take a = t.take a := by
    rw [List.append_assoc, List.take_append_of_le_length (by omega), List.take_of_length_le (by omega)]
  have dr : (t.take a ++ cs s ++ t.drop b).drop (a + (cs s).length) = t.drop b := by
    have : a + (cs s).length = (t.take a ++ cs s).length := by rw [List.length_append, la]
    rw [this, List.drop_left]
  have tt : t.take a ++ (t.take b).drop a ++ t.drop b = t := by
    have h1 : t.take a ++ (t.take b).drop a = t.take b := by
      have h2 : (t.take b).take a = t.take a := by rw [List.take_take, Nat.min_eq_left hab]
      rw [← h2, List.take_append_drop]
    rw [h1, List.take_append_drop]
  refine ⟨⟨by show (0 : Int) ≤ (a : Int); omega, by show (a : Int) ≤ (a : Int) + ((cs s).length : Int); omega, ?_⟩, ?_, ?_⟩
  · show (a : Int) + ((cs s).length : Int) ≤ ((spl1 t ((a : Int), (b : Int), s)).length : Int)
    rw [e1, List.length_append, List.length_append, la]
    omega
  · show (spl1 t ((a : Int), (b : Int), s)).take ((a : Int)).toNat ++ (t.take ((b : Int)).toNat).drop ((a : Int)).toNat ++ (spl1 t ((a : Int), (b : Int), s)).drop ((a : Int) + ((cs s).length : Int)).toNat = t
    rw [e1, ea, Int.toNat_natCast, Int.toNat_natCast, tk, dr, tt]
  · have c2 : (((t.take a ++ cs s ++ t.drop b).take (a + (cs s).length)).drop a) = cs s := by
      have h3 : a + (cs s).length = (t.take a ++ cs s).length := by rw [List.length_append, la]
      rw [h3, List.take_left]
      have h4 : (t.take a ++ cs s).drop a = (t.take a ++ cs s).drop (t.take a).length := by rw [la]
      rw [h4, List.drop_left]
    show (((a : Int)), (a : Int) + ((((t.take ((b : Int)).toNat).drop ((a : Int)).toNat).length : Nat) : Int), (⟨(((spl1 t ((a : Int), (b : Int), s)).take ((a : Int) + ((cs s).length : Int)).toNat).drop ((a : Int)).toNat).toArray⟩ : Str)) = ((a : Int), (b : Int), s)
    rw [e1, ea, Int.toNat_natCast, Int.toNat_natCast, c2, lm]
    have h5 : (a : Int) + ((b - a : Nat) : Int) = (b : Int) := by omega
    rw [h5]
theorem fitsL_app : ∀ {n : Nat} {es fs : List Ed}, fitsL n (es ++ fs) ↔ fitsL n es ∧ fitsL (sizeL n es) fs
  | n, [], fs => by
    show fitsL n fs ↔ True ∧ fitsL n fs
    simp
  | n, e :: r, fs => by
    show fit1 n e ∧ fitsL (size1 n e) (r ++ fs) ↔ (fit1 n e ∧ fitsL (size1 n e) r) ∧ fitsL (sizeL (size1 n e) r) fs
    rw [fitsL_app, and_assoc]
theorem appl_app (t : List Nat) (es fs : List Ed) : appl t (es ++ fs) = appl (appl t es) fs := by
  unfold appl
  rw [List.foldl_append]
theorem rev_ind {α : Type} {P : List α → Prop} (h0 : P []) (h1 : ∀ l a, P l → P (l ++ [a])) (l : List α) : P l := by
  have h : ∀ m : List α, P m.reverse := by
    intro m
    induction m with
    | nil => exact h0
    | cons a m ih =>
      rw [List.reverse_cons]
      exact h1 _ a ih
  have e := h l.reverse
  rw [List.reverse_reverse] at e
  exact e
/-- THE WAY BACK, k steps of it -/
theorem back_way : ∀ (k : Nat) {t : List Nat} {es : List Ed}, fitsL t.length es → k ≤ es.length →
    fitsL (appl t es).length ((backL t es).take k) ∧ appl (appl t es) ((backL t es).take k) = appl t (es.take (es.length - k)) := by
  intro k t es
  induction es using rev_ind generalizing k with
  | h0 =>
    intro _ hk
    have : k = 0 := by simpa using hk
    subst this
    exact ⟨True.intro, rfl⟩
  | h1 es e ih =>
    intro h hk
    obtain ⟨h1, h2⟩ := (fitsL_snoc _ _ _).mp h
    rw [← appl_len h1] at h2
    obtain ⟨b1, b2, _⟩ := back1_spl h2
    rw [backL_snoc, appl_snoc]
    cases k with
    | zero =>
      refine ⟨True.intro, ?_⟩
      rw [Nat.sub_zero, List.take_length, appl_snoc]
      rfl
    | succ k =>
      have hk' : k ≤ es.length := by
        rw [List.length_append] at hk
        simp only [List.length_singleton] at hk
        omega
      obtain ⟨i1, i2⟩ := ih k h1 hk'
      rw [List.take_succ_cons]
      refine ⟨⟨b1, ?_⟩, ?_⟩
      · rw [← spl1_len b1, b2]
        exact i1
      · show appl (spl1 (spl1 (appl t es) e) (back1 (appl t es) e)) ((backL t es).take k) = _
        rw [b2, i2]
        have e2 : (es ++ [e]).length - (k + 1) = es.length - k := by
          rw [List.length_append]
          simp only [List.length_singleton]
          omega
        rw [e2, List.take_append_of_le_length (by omega)]
/-- the way back of the way back -/
theorem back_back : ∀ {es : List Ed} {t : List Nat}, fitsL t.length es → backL (appl t es) (backL t es) = es := by
  intro es
  induction es using rev_ind with
  | h0 =>
    intro t _
    rfl
  | h1 es e ih =>
    intro t h
    obtain ⟨h1, h2⟩ := (fitsL_snoc _ _ _).mp h
    rw [← appl_len h1] at h2
    obtain ⟨b1, b2, b3⟩ := back1_spl h2
    rw [backL_snoc, appl_snoc]
    show backL (spl1 (spl1 (appl t es) e) (back1 (appl t es) e)) (backL t es) ++ [back1 (spl1 (appl t es) e) (back1 (appl t es) e)] = es ++ [e]
    rw [b2, b3, ih h1]

/-! ### edits of rows of anything, edits exchanged -/
def splG {α : Type} (t : List α) (a b : Nat) (s : List α) : List α := t.take a ++ s ++ t.drop b
def spl1G {α : Type} (g : Str → List α) (t : List α) (e : Ed) : List α := splG t e.1.toNat e.2.1.toNat (g e.2.2)
def applG {α : Type} (g : Str → List α) (t : List α) (es : List Ed) : List α := es.foldl (spl1G g) t
theorem applG_cs (t : List Nat) (es : List Ed) : applG cs t es = appl t es := rfl
theorem take_split {α : Type} (t : List α) (a : Nat) : t = t.take a ++ t.drop a := (List.take_append_drop a t).symm
theorem splG_mid {α : Type} {p q r s : List α} {a b : Nat} (ha : p.length = a) (hb : p.length + q.length = b) : splG (p ++ (q ++ r)) a b s = p ++ (s ++ r) := by
  subst ha
  subst hb
  unfold splG
  rw [List.take_append_of_le_length (Nat.le_refl _), List.take_length, List.append_assoc, List.drop_append, List.drop_append]
  have e1 : p.length + q.length - p.length = q.length := by omega
  rw [e1, List.drop_of_length_le (show p.length ≤ p.length + q.length by omega), List.drop_length, Nat.sub_self, List.drop_zero, List.nil_append, List.nil_append]
/-- a row in five parts -/
theorem five {α : Type} (t : List α) {a b c d : Nat} (h1 : a ≤ b) (h2 : b ≤ c) (h3 : c ≤ d) (h4 : d ≤ t.length) :
    ∃ x y z w v : List α, t = x ++ (y ++ (z ++ (w ++ v))) ∧ x.length = a ∧ y.length = b - a ∧ z.length = c - b ∧ w.length = d - c := by
  refine ⟨t.take a, (t.drop a).take (b - a), (t.drop b).take (c - b), (t.drop c).take (d - c), t.drop d, ?_, ?_, ?_, ?_, ?_⟩
  · have k1 : (t.drop c).take (d - c) ++ t.drop d = t.drop c := by
      have := List.take_append_drop (d - c) (t.drop c)
      rw [List.drop_drop, show c + (d - c) = d by omega] at this
      exact this
    have k2 : (t.drop b).take (c - b) ++ t.drop c = t.drop b := by
      have := List.take_append_drop (c - b) (t.drop b)
      rw [List.drop_drop, show b + (c - b) = c by omega] at this
      exact this
    have k3 : (t.drop a).take (b - a) ++ t.drop b = t.drop a := by
      have := List.take_append_drop (b - a) (t.drop a)
      rw [List.drop_drop, show a + (b - a) = b by omega] at this
      exact this
    rw [k1, k2, k3, List.take_append_drop]
  · rw [List.length_take]; omega
  · rw [List.length_take, List.length_drop]; omega
  · rw [List.length_take, List.length_drop]; omega
  · rw [List.length_take, List.length_drop]; omega
theorem swap_left {α : Type} {t s1 s2 : List α} {a b c d : Nat} (h1 : c ≤ d) (h2 : d ≤ a) (h3 : a ≤ b) (h4 : b ≤ t.length) :
    splG (splG t c d s2) (a - (d - c) + s2.length) (b - (d - c) + s2.length) s1 = splG (splG t a b s1) c d s2 := by
  obtain ⟨x, y, z, w, v, rfl, lx, ly, lz, lw⟩ := five t h1 h2 h3 h4
  rw [splG_mid (p := x) (q := y) lx (by omega)]
  have e1 : x ++ (s2 ++ (z ++ (w ++ v))) = (x ++ (s2 ++ z)) ++ (w ++ v) := by simp only [List.append_assoc]
  rw [e1, splG_mid (p := x ++ (s2 ++ z)) (q := w) (by simp only [List.length_append]; omega) (by simp only [List.length_append]; omega)]
  have e2 : x ++ (y ++ (z ++ (w ++ v))) = (x ++ (y ++ z)) ++ (w ++ v) := by simp only [List.append_assoc]
  rw [e2, splG_mid (p := x ++ (y ++ z)) (q := w) (by simp only [List.length_append]; omega) (by simp only [List.length_append]; omega)]
  have e3 : x ++ (y ++ z) ++ (s1 ++ v) = x ++ (y ++ (z ++ (s1 ++ v))) := by simp only [List.append_assoc]
  rw [e3, splG_mid (p := x) (q := y) lx (by omega)]
  simp only [List.append_assoc]
theorem swap_right {α : Type} {t s1 s2 : List α} {a b c d : Nat} (h1 : a ≤ b) (h2 : a + s1.length ≤ c) (h3 : c ≤ d) (h4 : d ≤ t.length - (b - a) + s1.length) (h5 : b ≤ t.length) :
    splG (splG t (c + (b - a) - s1.length) (d + (b - a) - s1.length) s2) a b s1 = splG (splG t a b s1) c d s2 := by
  obtain ⟨x, w, z, y, v, rfl, lx, lw, lz, ly⟩ := five t (c := c + (b - a) - s1.length) (d := d + (b - a) - s1.length) h1 (by omega) (by omega) (by omega)
  have e2 : x ++ (w ++ (z ++ (y ++ v))) = (x ++ (w ++ z)) ++ (y ++ v) := by simp only [List.append_assoc]
  rw [splG_mid (p := x) (q := w) lx (by omega)]
  rw [e2, splG_mid (p := x ++ (w ++ z)) (q := y) (by simp only [List.length_append]; omega) (by simp only [List.length_append]; omega)]
  have e3 : x ++ (w ++ z) ++ (s2 ++ v) = x ++ (w ++ (z ++ (s2 ++ v))) := by simp only [List.append_assoc]
  rw [e3, splG_mid (p := x) (q := w) lx (by omega)]
  have e1 : x ++ (s1 ++ (z ++ (y ++ v))) = (x ++ (s1 ++ z)) ++ (y ++ v) := by simp only [List.append_assoc]
  rw [e1, splG_mid (p := x ++ (s1 ++ z)) (q := y) (by simp only [List.length_append]; omega) (by simp only [List.length_append]; omega)]
  simp only [List.append_assoc]
/-- the pair in the other order -/
def dueE (e f : Ed) : Option (Ed × Ed) :=
  if f.2.1 ≤ e.1 then some (f, (e.1 + ((f.len : Int) - (f.2.1 - f.1)), e.2.1 + ((f.len : Int) - (f.2.1 - f.1)), e.2.2))
  else if e.1 + (e.len : Int) ≤ f.1 then some ((f.1 + (e.2.1 - e.1 - (e.len : Int)), f.2.1 + (e.2.1 - e.1 - (e.len : Int)), f.2.2), e)
  else none
theorem due_same {α : Type} {t r1 r2 : List α} {e f p q : Ed} (h : dueE e f = some (p, q)) (f1 : fit1 t.length e) (f2 : fit1 (size1 t.length e) f) (n1 : r1.length = e.len) (n2 : r2.length = f.len) :
    splG (splG t p.1.toNat p.2.1.toNat r2) q.1.toNat q.2.1.toNat r1 = splG (splG t e.1.toNat e.2.1.toNat r1) f.1.toNat f.2.1.toNat r2 := by
  obtain ⟨a1, a2, a3⟩ := f1
  obtain ⟨b1, b2, b3⟩ := f2
  obtain ⟨a, b, s⟩ := e
  obtain ⟨c, d, u⟩ := f
  obtain ⟨a, rfl⟩ : ∃ n : Nat, a = (n : Int) := ⟨a.toNat, by have : 0 ≤ a := a1; omega⟩
  obtain ⟨c, rfl⟩ : ∃ n : Nat, c = (n : Int) := ⟨c.toNat, by have : 0 ≤ c := b1; omega⟩
  obtain ⟨b, rfl⟩ : ∃ n : Nat, b = (n : Int) := ⟨b.toNat, by have : (a : Int) ≤ b := a2; omega⟩
  obtain ⟨d, rfl⟩ : ∃ n : Nat, d = (n : Int) := ⟨d.toNat, by have : (c : Int) ≤ d := b2; omega⟩
  have a2 : (a : Int) ≤ (b : Int) := a2
  have a3 : (b : Int) ≤ (t.length : Int) := a3
  have b2 : (c : Int) ≤ (d : Int) := b2
  have b3 : (d : Int) ≤ ((t.length - (((b : Int)).toNat - ((a : Int)).toNat) + (cs s).length : Nat) : Int) := b3
  have n1 : r1.length = (cs s).length := n1
  have n2 : r2.length = (cs u).length := n2
  unfold dueE at h
  simp only [Ed.len] at h
  by_cases k1 : (d : Int) ≤ (a : Int)
  · rw [if_pos k1] at h
    have h' := Prod.mk.inj (Option.some.inj h)
    rw [← h'.1, ← h'.2]
    show splG (splG t ((c : Int)).toNat ((d : Int)).toNat r2) ((a : Int) + (((cs u).length : Int) - ((d : Int) - (c : Int)))).toNat ((b : Int) + (((cs u).length : Int) - ((d : Int) - (c : Int)))).toNat r1 = splG (splG t ((a : Int)).toNat ((b : Int)).toNat r1) ((c : Int)).toNat ((d : Int)).toNat r2
    have e1 : ((a : Int) + (((cs u).length : Int) - ((d : Int) - (c : Int)))).toNat = a - (d - c) + r2.length := by omega
    have e2 : ((b : Int) + (((cs u).length : Int) - ((d : Int) - (c : Int)))).toNat = b - (d - c) + r2.length := by omega
    rw [e1, e2]
    simp only [Int.toNat_natCast]
    exact swap_left (by omega) (by omega) (by omega) (by omega)
  · rw [if_neg k1] at h
    by_cases k2 : (a : Int) + ((cs s).length : Int) ≤ (c : Int)
    · rw [if_pos k2] at h
      have h' := Prod.mk.inj (Option.some.inj h)
      rw [← h'.1, ← h'.2]
      show splG (splG t ((c : Int) + ((b : Int) - (a : Int) - ((cs s).length : Int))).toNat ((d : Int) + ((b : Int) - (a : Int) - ((cs s).length : Int))).toNat r2) ((a : Int)).toNat ((b : Int)).toNat r1 = splG (splG t ((a : Int)).toNat ((b : Int)).toNat r1) ((c : Int)).toNat ((d : Int)).toNat r2
      have e1 : ((c : Int) + ((b : Int) - (a : Int) - ((cs s).length : Int))).toNat = c + (b - a) - r1.length := by omega
      have e2 : ((d : Int) + ((b : Int) - (a : Int) - ((cs s).length : Int))).toNat = d + (b - a) - r1.length := by omega
      rw [e1, e2]
      simp only [Int.toNat_natCast] at b3 ⊢
      exact swap_right (by omega) (by omega) (by omega) (by omega) (by omega)
    · rw [if_neg k2] at h
      cases h
theorem swap_same {α : Type} {g : Str → List α} (hg : ∀ s, (g s).length = (cs s).length) {t : List α} {e f p q : Ed} (h : dueE e f = some (p, q)) (f1 : fit1 t.length e) (f2 : fit1 (size1 t.length e) f) :
    applG g t [p, q] = applG g t [e, f] := by
  have k := due_same (r1 := g e.2.2) (r2 := g f.2.2) h f1 f2 (hg _) (hg _)
  have tx : p.2.2 = f.2.2 ∧ q.2.2 = e.2.2 := by
    unfold dueE at h
    split at h
    · have h' := Prod.mk.inj (Option.some.inj h)
      rw [← h'.1, ← h'.2]
      exact ⟨rfl, rfl⟩
    · split at h
      · have h' := Prod.mk.inj (Option.some.inj h)
        rw [← h'.1, ← h'.2]
        exact ⟨rfl, rfl⟩
      · cases h
  show splG (splG t p.1.toNat p.2.1.toNat (g p.2.2)) q.1.toNat q.2.1.toNat (g q.2.2) = splG (splG t e.1.toNat e.2.1.toNat (g e.2.2)) f.1.toNat f.2.1.toNat (g f.2.2)
  rw [tx.1, tx.2]
  exact k
theorem swap_fits {n : Nat} {e f p q : Ed} (h : dueE e f = some (p, q)) (f1 : fit1 n e) (f2 : fit1 (size1 n e) f) : fitsL n [p, q] := by
  obtain ⟨a1, a2, a3⟩ := f1
  obtain ⟨b1, b2, b3⟩ := f2
  obtain ⟨a, b, s⟩ := e
  obtain ⟨c, d, u⟩ := f
  simp only [size1, Ed.len] at a1 a2 a3 b1 b2 b3
  unfold dueE at h
  simp only [Ed.len] at h
  split at h
  · have h' := Prod.mk.inj (Option.some.inj h)
    rw [← h'.1, ← h'.2]
    refine ⟨⟨b1, b2, ?_⟩, ⟨?_, ?_, ?_⟩, True.intro⟩
    · show d ≤ (n : Int)
      omega
    · show 0 ≤ a + _
      omega
    · show a + _ ≤ b + _
      omega
    · simp only [size1, Ed.len]
      omega
  · split at h
    · have h' := Prod.mk.inj (Option.some.inj h)
      rw [← h'.1, ← h'.2]
      refine ⟨⟨?_, ?_, ?_⟩, ⟨a1, a2, ?_⟩, True.intro⟩
      · show 0 ≤ c + _
        omega
      · show c + _ ≤ d + _
        omega
      · show d + _ ≤ (n : Int)
        omega
      · simp only [size1, Ed.len]
        omega
    · cases h

/-! ### edits -/
/-- the tuple of an edit -/
def EdAt (H : Hp) (v : V) (e : Ed) : Prop := ∃ t, v = .ref t ∧ H t = some (.tup [.int e.1, .int e.2.1, .str e.2.2])
/-- tuples stand as they stood -/
def Tups (H H' : Hp) : Prop := ∀ b xs, H b = some (.tup xs) → H' b = some (.tup xs)
theorem Tups.refl (H : Hp) : Tups H H := fun _ _ h => h
theorem Tups.trans {H H1 H2 : Hp} (a : Tups H H1) (b : Tups H1 H2) : Tups H H2 := fun c xs h => b c xs (a c xs h)
theorem But.tups {r : Addr} {H H' : Hp} (b : But r H H') (h : ReelAt H r) : Tups H H' := fun c xs e => b c _ (fun z => by
  obtain ⟨z1, c1, e1, _⟩ := h
  rw [z, e1] at e
  cases e) e
theorem Tups.new {H : Hp} {p : Addr} {o : HO} (h : H p = none) : Tups H (upd H p o) := fun c xs e => by rw [upd_ne (ne_of_none e h)]; exact e
theorem Tups.mut {H : Hp} {p : Addr} {xs : List V} {o : HO} (h : H p = some (.lst xs)) : Tups H (upd H p o) := fun c ys e => by
  rw [upd_ne (ne_of e h (fun z => by cases z))]
  exact e
theorem EdAt.mono {H H' : Hp} {v : V} {e : Ed} (t : Tups H H') (h : EdAt H v e) : EdAt H' v e := by
  obtain ⟨a, e1, e2⟩ := h
  exact ⟨a, e1, t a _ e2⟩
abbrev EdsIn (H : Hp) : List V → List Ed → Prop := Paired (EdAt H)
theorem EdsIn.mono {H H' : Hp} {vs : List V} {es : List Ed} (t : Tups H H') (h : EdsIn H vs es) : EdsIn H' vs es := Paired.mapP h fun _ _ => EdAt.mono t
theorem paired_len {α β : Type} {F : α → β → Prop} : ∀ {xs : List α} {ys : List β}, Paired F xs ys → xs.length = ys.length
  | _, _, .nil => rfl
  | _, _, .cons _ t => congrArg (· + 1) (paired_len t)
theorem paired_app {α β : Type} {F : α → β → Prop} : ∀ {xs xs' : List α} {ys ys' : List β}, Paired F xs ys → Paired F xs' ys' → Paired F (xs ++ xs') (ys ++ ys')
  | _, _, _, _, .nil, h => h
  | _, _, _, _, .cons r t, h => .cons r (paired_app t h)
theorem paired_get {α β : Type} {F : α → β → Prop} : ∀ {xs : List α} {ys : List β} {i : Nat} {y : β}, Paired F xs ys → ys[i]? = some y → ∃ x, xs[i]? = some x ∧ F x y
  | _, _, _, _, .nil, h => by simp at h
  | _, _, 0, y, .cons r t, h => by
    have e := Option.some.inj h
    subst e
    exact ⟨_, rfl, r⟩
  | _, _, i + 1, y, .cons r t, h => by
    obtain ⟨x, h1, h2⟩ := paired_get (i := i) (y := y) t (by simpa using h)
    exact ⟨x, by simpa using h1, h2⟩
theorem paired_take {α β : Type} {F : α → β → Prop} : ∀ {xs : List α} {ys : List β} (n : Nat), Paired F xs ys → Paired F (xs.take n) (ys.take n)
  | _, _, 0, _ => .nil
  | _, _, _ + 1, .nil => .nil
  | _, _, n + 1, .cons r t => .cons r (paired_take n t)
theorem paired_drop {α β : Type} {F : α → β → Prop} : ∀ {xs : List α} {ys : List β} (n : Nat), Paired F xs ys → Paired F (xs.drop n) (ys.drop n)
  | _, _, 0, h => h
  | _, _, _ + 1, .nil => .nil
  | _, _, n + 1, .cons r t => paired_drop n t
/-- a drawn edit -/
def EdBd (e : Ed) : Prop := 0 ≤ e.1 ∧ e.1 ≤ e.2.1 ∧ (cs e.2.2).length ≤ 2000 ∧ TOk e.2.2
/-- what stands behind i turns of the row's making -/
structure RowSt (r l : Addr) (H0 : Hp) (i : Nat) (z now : Str) (H : Hp) : Prop where
  ex : ∃ vs es, H l = some (.lst vs) ∧ EdsIn H vs es ∧ es.length = i ∧ (∀ e ∈ es, EdBd e) ∧ fitsL (cs z).length es ∧ appl (cs z) es = cs now
  ne : l ≠ r
  but : But r H0 H
  reel : ReelAt H r
  len : (cs now).length ≤ 2000
  tok : TOk now
theorem RowSt.mono {r l : Addr} {H0 H H' : Hp} {i : Nat} {z now : Str} (h : RowSt r l H0 i z now H) (b : But r H H') (hR : ReelAt H' r) : RowSt r l H0 i z now H' := by
  obtain ⟨⟨vs, es, e1, e2, e3⟩, n, b0, r0, ln, tk⟩ := h
  exact ⟨⟨vs, es, b l _ n e1, e2.mono (b.tups r0), e3⟩, n, b0.trans b, hR, ln, tk⟩
theorem RowSt.new {r l p : Addr} {H0 H : Hp} {i : Nat} {z now : Str} {o : HO} (h : RowSt r l H0 i z now H) (np : H p = none) : RowSt r l H0 i z now (upd H p o) := h.mono (But.new np) (h.reel.new np)
theorem cut_len (z : Str) (lo hi : Option Int) : (cs (cutS z lo hi)).length ≤ (cs z).length := by
  have h := cutS_length z lo hi
  rw [len_cs, len_cs] at h
  exact h
theorem cut_tok {z : Str} (h : TOk z) (lo hi : Option Int) : TOk (cutS z lo hi) := fun c hc => h c (List.mem_of_mem_drop (List.mem_of_mem_take hc))
theorem spl_tok {t : List Nat} {a b : Nat} {s : List Nat} (h : ∀ c ∈ t, c < 1114112) (h2 : ∀ c ∈ s, c < 1114112) : ∀ c ∈ spliceL t a b s, c < 1114112 := fun c hc => by
  rcases List.mem_append.mp hc with hc | hc
  · rcases List.mem_append.mp hc with hc | hc
    · exact h c (List.mem_of_mem_take hc)
    · exact h2 c hc
  · exact h c (List.mem_of_mem_drop hc)
theorem tok_empty : TOk Str.empty := fun c hc => absurd hc List.not_mem_nil
theorem cut_pre (z : Str) (a : Nat) : cs (cutS z none (some (a : Int))) = (cs z).take a := by
  show ((cs z).drop 0).take _ = _
  rw [HT.sIx_nat, HT.sIx_none, List.drop_zero, Nat.sub_zero, len_cs, ← List.take_eq_take_min]
theorem cut_suf (z : Str) (a : Nat) : cs (cutS z (some (a : Int)) none) = (cs z).drop a := by
  show ((cs z).drop _).take _ = _
  rw [HT.sIx_nat, HT.sIx_none, len_cs, List.take_of_length_le (by rw [List.length_drop]; exact Nat.le_refl _)]
  by_cases h : a ≤ (cs z).length
  · rw [Nat.min_eq_left h]
  · rw [Nat.min_eq_right (by omega), List.drop_eq_nil_of_le (Nat.le_refl _), List.drop_eq_nil_of_le (by omega)]
theorem cut_mid (z : Str) (a b : Nat) : cs (cutS z (some (a : Int)) (some (b : Int))) = ((cs z).take b).drop a := by
  show ((cs z).drop _).take _ = _
  rw [HT.sIx_nat, HT.sIx_nat, len_cs]
  by_cases h : a ≤ (cs z).length
  · rw [Nat.min_eq_left h, List.drop_take]
    by_cases h2 : b ≤ (cs z).length
    · rw [Nat.min_eq_left h2]
    · rw [Nat.min_eq_right (by omega), List.take_of_length_le (by rw [List.length_drop]; exact Nat.le_refl _), List.take_of_length_le (by rw [List.length_drop]; omega)]
  · rw [Nat.min_eq_right (show (cs z).length ≤ a by omega), List.drop_eq_nil_of_le (Nat.le_refl _), List.take_nil, List.drop_eq_nil_of_le (by rw [List.length_take]; omega)]
theorem cs_splice (z s : Str) (a b : Nat) : cs (cutS z none (some (a : Int)) ++ s ++ cutS z (some (b : Int)) none) = spliceL (cs z) a b (cs s) := by
  rw [cs_app, cs_app, cut_pre, cut_suf]
  rfl
theorem mem_ints {l : List Int} {v : V} (h : v ∈ l.map V.int) : ∃ i, i ∈ l ∧ v = .int i := by
  obtain ⟨i, h1, h2⟩ := List.mem_map.mp h
  exact ⟨i, h1, h2.symm⟩
theorem take_more {α : Type} {l : List α} {i : Nat} {x : α} (h : l[i]? = some x) : l.take (i + 1) = l.take i ++ [x] := by
  rw [List.take_add_one, h, Option.toList_some]
theorem nat_of {z : Int} (h : 0 ≤ z) : ∃ n : Nat, z = (n : Int) := ⟨z.toNat, by omega⟩
/-- within a turn: start, end and new are chosen -/
def RowMid (r l : Addr) (H0 : Hp) (i : Nat) (z now : Str) (n near form : Int) (σ : L2.St) (H : Hp) : Prop := ∃ (st en : Int) (new : Str),
  σ = [some (.ref r), some (.str z), some (.int n), some (.ref l), some (.str now), some (.int near), some (.int (0 + (i : Int))), some (.int form), some (.int st), some (.int en), some (.str new)] ∧
  0 ≤ st ∧ st ≤ en ∧ en ≤ (now.length : Int) ∧ (cs new).length ≤ 2000 ∧ TOk new ∧ RowSt r l H0 i z now H
/-- a list of n edits -/
def spRow : Sp := fun vs H Q _ => ∃ (r : Addr) (z : Str) (n : Int), vs = [.ref r, .str z, .int n] ∧ ReelAt H r ∧ (cs z).length ≤ 2000 ∧ TOk z ∧ 0 ≤ n ∧ n ≤ 1000 ∧
  ∀ l H' us es, H l = none → H' l = some (.lst us) → EdsIn H' us es → (es.length : Int) = n → (∀ e ∈ es, EdBd e) → fitsL (cs z).length es → But r H H' → ReelAt H' r → Q (.ref l) H'
def spRow2 : Sp := fun vs H Q _ => ∃ (r : Addr) (z : Str) (n : Int), vs = [.ref r, .str z, .int n] ∧ ReelAt H r ∧ (cs z).length ≤ 2000 ∧ TOk z ∧ 0 ≤ n ∧ n ≤ 1000 ∧
  ∀ l H' us es, H l = none → H' l = some (.lst us) → EdsIn H' us es → (es.length : Int) = n → (∀ e ∈ es, EdBd e) → fitsL (cs z).length es → sizeL (cs z).length es ≤ 2000 → But r H H' → ReelAt H' r → Q (.ref l) H'
theorem ok_edit_row2 (T : Txt K mg) : FnOk P w K mg base CX0 5 T.a_law_edit_row T.fd_law_edit_row ["reel", "text", "count"] spRow2 := by
  have G_law_draw : FnOk P w K mg base CX0 1 T.a_law_draw T.fd_law_draw ["reel", "size"] spDraw := ok_draw T
  have G_law_pick : FnOk P w K mg base CX0 2 T.a_law_pick T.fd_law_pick ["reel", "row"] (spPick K) := ok_pick T
  have G_law_new : FnOk P w K mg base CX0 4 T.a_law_new T.fd_law_new ["reel"] (spText 300) := ok_new T
  refine T.F_law_edit_row.ok sc_law_edit_row (fun vs H Q E h => ?_) (fun cdv A outer s H vs Q E hr h => ?_)
  · obtain ⟨r, z, n, rfl, _⟩ := h
    rfl
  · have hr_law_draw : Room 1 _ := hr.mono (by decide)
    have hr_law_pick : Room 2 _ := hr.mono (by decide)
    have hr_law_new : Room 4 _ := hr
    obtain ⟨r, z, n, rfl, hr0, hz, hzo, hn0, hn1, q⟩ := h
    refine ⟨_, (pss_cons (ps_set (i := 3) sc_law_edit_row.nd rfl (.inl rfl) (pe_lst pa_nil))
      (pss_cons (ps_set (i := 4) sc_law_edit_row.nd rfl (.inl rfl) (pv 1))
      (pss_cons (ps_set (i := 5) sc_law_edit_row.nd rfl (.inl rfl) pe_int)
      (pss_cons (ps_for PassesOwn.never rfl (pi_range1 (by rfl) T.m_range (pa_cons (pv 2) pa_nil)) (pg_name (i := 6) sc_law_edit_row.nd rfl (.inl rfl)) (pss_cons (ps_set (i := 7) sc_law_edit_row.nd rfl (.inl rfl) (pe_call G_law_draw hr_law_draw (by rfl) T.g_law_draw T.F_law_draw.kp T.b_law_draw .nil pass0 (pa_cons (pv 0) (pa_cons pe_int pa_nil))))
      (pss_cons (ps_set (i := 8) sc_law_edit_row.nd rfl (.inl rfl) (pe_call G_law_draw hr_law_draw (by rfl) T.g_law_draw T.F_law_draw.kp T.b_law_draw .nil pass0 (pa_cons (pv 0) (pa_cons (pe_op op_add (pe_callB call_len_str (by rfl) T.m_len PySem.boot_len (pa_cons (pv 4) pa_nil)) pe_int) pa_nil))))
      (C8.pss_cut (ps_if (pt_cmpR op_lt (pv 7) pe_int (nomark _)) (pss_one (ps_set (i := 8) sc_law_edit_row.nd rfl (.inl rfl) (pe_callB (call_min2 rfl) (by rfl) T.m_min (by decide +kernel) (pa_cons (pe_callB call_len_str (by rfl) T.m_len PySem.boot_len (pa_cons (pv 4) pa_nil)) (pa_cons (pe_callB (call_max2 rfl) (by rfl) T.m_max (by decide +kernel) (pa_cons pe_int (pa_cons (pe_op op_sub (pe_op op_add (pv 5) (pe_call G_law_draw hr_law_draw (by rfl) T.g_law_draw T.F_law_draw.kp T.b_law_draw .nil pass0 (pa_cons (pv 0) (pa_cons pe_int pa_nil)))) pe_int) pa_nil))) pa_nil))))) (pss_one (ps_if (pt_cmpR op_eq (pv 7) pe_int (nomark _)) (pss_one (ps_set (i := 8) sc_law_edit_row.nd rfl (.inl rfl) (pe_callB (call_max2 rfl) (by rfl) T.m_max (by decide +kernel) (pa_cons pe_int (pa_cons (pe_op op_sub (pe_callB call_len_str (by rfl) T.m_len PySem.boot_len (pa_cons (pv 4) pa_nil)) (pe_call G_law_draw hr_law_draw (by rfl) T.g_law_draw T.F_law_draw.kp T.b_law_draw .nil pass0 (pa_cons (pv 0) (pa_cons pe_int pa_nil)))) pa_nil))))) pss_nil)))
      (pss_cons (ps_set (i := 9) sc_law_edit_row.nd rfl (.inl rfl) (pe_callB (call_min2 rfl) (by rfl) T.m_min (by decide +kernel) (pa_cons (pe_callB call_len_str (by rfl) T.m_len PySem.boot_len (pa_cons (pv 4) pa_nil)) (pa_cons (pe_op op_add (pv 8) (pe_call G_law_pick hr_law_pick (by rfl) T.g_law_pick T.F_law_pick.kp T.b_law_pick .nil pass0 (pa_cons (pv 0) (pa_cons (pe_lst (pa_cons pe_int (pa_cons pe_int (pa_cons pe_int (pa_cons pe_int (pa_cons pe_int (pa_cons pe_int (pa_cons pe_int (pa_cons pe_int (pa_cons (pe_op op_fdiv (pe_callB call_len_str (by rfl) T.m_len PySem.boot_len (pa_cons (pv 4) pa_nil)) pe_int) pa_nil)))))))))) pa_nil)))) pa_nil))))
      (pss_cons (ps_set (i := 10) sc_law_edit_row.nd rfl (.inl rfl) (pe_call G_law_new hr_law_new (by rfl) T.g_law_new T.F_law_new.kp T.b_law_new .nil pass0 (pa_cons (pv 0) pa_nil)))
      (C8.pss_cut (ps_if (PW.pt (pw_and (pt_cmpR op_eq (pv 7) pe_int (nomark _)) (pw_and1 (pt_truth (pv 3) (by intro _; rfl))))) (pss_cons (ps_set (i := 8) sc_law_edit_row.nd rfl (.inl rfl) (pe_ix ix_tup (pe_ix ix_list (pv 3) (pe_un un_neg pe_int) (fun _ _ => rfl)) pe_int (fun _ _ => rfl)))
      (pss_cons (ps_set (i := 9) sc_law_edit_row.nd rfl (.inl rfl) (pe_op op_add (pv 8) (pe_callB call_len (by rfl) T.m_len PySem.boot_len (pa_cons (pe_ix ix_tup (pe_ix ix_list (pv 3) (pe_un un_neg pe_int) (fun _ _ => rfl)) pe_int (fun _ _ => rfl)) pa_nil))))
      (pss_one (ps_set (i := 10) sc_law_edit_row.nd rfl (.inl rfl) pe_str)))) (pss_one (ps_if (pt_cmpR op_eq (pv 7) pe_int (nomark _)) (pss_one (ps_set (i := 10) sc_law_edit_row.nd rfl (.inl rfl) (pe_slice sl_str (pv 4) (po_some (pv 8)) (po_some (pv 9))))) (pss_one (ps_if (pt_cmpR op_eq (pv 7) pe_int (nomark _)) (pss_cons (ps_set (i := 8) sc_law_edit_row.nd rfl (.inl rfl) pe_int)
      (pss_one (ps_set (i := 9) sc_law_edit_row.nd rfl (.inl rfl) (pe_call G_law_pick hr_law_pick (by rfl) T.g_law_pick T.F_law_pick.kp T.b_law_pick .nil pass0 (pa_cons (pv 0) (pa_cons (pe_lst (pa_cons pe_int (pa_cons (pe_callB (call_min2 rfl) (by rfl) T.m_min (by decide +kernel) (pa_cons pe_int (pa_cons (pe_callB call_len_str (by rfl) T.m_len PySem.boot_len (pa_cons (pv 4) pa_nil)) pa_nil))) (pa_cons (pe_callB call_len_str (by rfl) T.m_len PySem.boot_len (pa_cons (pv 4) pa_nil)) pa_nil)))) pa_nil)))))) pss_nil)))))
      (C8.pss_cut (ps_if (pt_cmpR op_gt (pe_op op_add (pe_callB call_len_str (by rfl) T.m_len PySem.boot_len (pa_cons (pv 4) pa_nil)) (pe_callB call_len_str (by rfl) T.m_len PySem.boot_len (pa_cons (pv 10) pa_nil))) pe_int (nomark _)) (pss_one (ps_set (i := 10) sc_law_edit_row.nd rfl (.inl rfl) pe_str)) pss_nil)
      (pss_cons (ps_expr (pe_bm PySem.F.plainAttrs_list PySem.F.slot_list_append PySem.F.type_list_append mt_append (pv 3) (pa_cons (pe_tup (pa_cons (pv 8) (pa_cons (pv 9) (pa_cons (pv 10) pa_nil)))) pa_nil)))
      (pss_cons (ps_set (i := 5) sc_law_edit_row.nd rfl (.inl rfl) (pe_op op_add (pv 8) (pe_call G_law_draw hr_law_draw (by rfl) T.g_law_draw T.F_law_draw.kp T.b_law_draw .nil pass0 (pa_cons (pv 0) (pa_cons (pe_op op_add (pe_callB call_len_str (by rfl) T.m_len PySem.boot_len (pa_cons (pv 10) pa_nil)) pe_int) pa_nil)))))
      (pss_one (ps_set (i := 4) sc_law_edit_row.nd rfl (.inl rfl) (pe_op op_add_str (pe_op op_add_str (pe_slice sl_str (pv 4) po_none (po_some (pv 8))) (pv 10)) (pe_slice sl_str (pv 4) (po_some (pv 9)) po_none))))))))))))))
      (pss_one (ps_ret (pv 3))))))), ?_⟩
    refine ⟨Nat.zero_le _, fun l nl => ?_⟩
    refine ⟨_, rfl, ?_⟩
    refine ⟨_, rfl, n, rfl, by omega, by omega, ?_⟩
    refine for_range (lo := 0) (n := n.toNat) (fun i σ H' => ∃ (now : Str) (near : Int) (y6 y7 y8 y9 y10 : Option V), σ = [some (.ref r), some (.str z), some (.int n), some (.ref l), some (.str now), some (.int near), y6, y7, y8, y9, y10] ∧ RowSt r l H i z now H')
      ⟨z, 0, none, none, none, none, none, rfl, ⟨[], [], upd_same, .nil, rfl, (fun e he => absurd he List.not_mem_nil), True.intro, rfl⟩, (hr0.ne nl).symm, But.new nl, hr0.new nl, hz, hzo⟩ ?_ ?_
    · rintro i σ H1 hi ⟨now, near, y6, y7, y8, y9, y10, rfl, S1⟩
      have hlen := S1.len
      have eln := len_cs now
      -- form, start
      refine ⟨_, rfl, r, _, rfl, S1.reel, by decide, fun form H2 f0 f1 hb2 hR2 => ?_⟩
      have S2 := S1.mono hb2 hR2
      refine ⟨_, rfl, _, rfl, _, rfl, sz1 (by omega), _, 1, rfl, rfl, r, _, rfl, hR2, by omega, fun st H3 st0 st1 hb3 hR3 => ?_⟩
      have S3 := S2.mono hb3 hR3
      -- if form < 4 ..
      refine ⟨fun σ H' => ∃ st : Int, σ = [some (.ref r), some (.str z), some (.int n), some (.ref l), some (.str now), some (.int near), some (.int (0 + (i : Int))), some (.int form), some (.int st), y9, y10] ∧ 0 ≤ st ∧ st ≤ (now.length : Int) ∧ RowSt r l H i z now H', ?_, ?_⟩
      · refine ⟨_, rfl, form, 4, rfl, rfl, _, rfl, ite2 (fun e => ?_) (fun e => ?_)⟩
        · refine ⟨_, rfl, _, rfl, sz1 (by omega), _, rfl, _, rfl, r, _, rfl, hR3, by decide, fun d H4 d0 d1 hb4 hR4 => ?_⟩
          refine ⟨near, d, rfl, rfl, _, 2, rfl, rfl, 0, _, rfl, _, _, rfl, ⟨_, rfl, ?_, ?_, S3.mono hb4 hR4⟩⟩
          · split <;> split <;> omega
          · split <;> split <;> omega
        · refine ⟨_, rfl, rfl, _, rfl, ite2 (fun e => ?_) (fun e => ?_)⟩
          · refine ⟨_, rfl, _, rfl, sz1 (by omega), _, rfl, r, _, rfl, hR3, by decide, fun d H4 d0 d1 hb4 hR4 => ?_⟩
            refine ⟨_, d, rfl, rfl, 0, _, rfl, ⟨_, rfl, ?_, ?_, S3.mono hb4 hR4⟩⟩
            · split <;> omega
            · split <;> omega
          · exact ⟨st, rfl, st0, by omega, S3⟩
      · rintro σ H4 ⟨st, rfl, st0, st1, S4⟩
        -- end
        refine ⟨_, rfl, _, rfl, sz1 (by omega), _, rfl, _, rfl, _, rfl, _, rfl, sz1 (by omega), _, 3, rfl, rfl, ⟨by decide, by decide⟩, by show 9 ≤ sizeLine; decide, fun p np => ?_⟩
        refine ⟨r, _, rfl, S4.reel.new np, .inr ⟨p, _, rfl, (S4.reel.ne np).symm, SqL.of upd_same, by show 0 < 9; decide, fun v H5 hv hb5 hR5 => ?_⟩⟩
        have S5 := (S4.new np (o := _)).mono hb5 hR5
        obtain ⟨k, hk, rfl⟩ := mem_ints (l := [0, 0, 0, 1, 1, 2, 5, 30, ((now.length : Int)) / 3]) hv
        have k0 : 0 ≤ k := by
          have : ∀ x ∈ [0, 0, 0, 1, 1, 2, 5, 30, ((now.length : Int)) / 3], (0 : Int) ≤ x := by
            intro x hx
            simp only [List.mem_cons, List.not_mem_nil, or_false] at hx
            omega
          exact this k hk
        refine ⟨st, k, rfl, rfl, _, _, rfl, ?_⟩
        -- new
        refine ⟨_, rfl, r, rfl, hR5, fun new H6 hnew hno hb6 hR6 => ?_⟩
        have S6 := S5.mono hb6 hR6
        -- if form == 5 and edits ..
        refine ⟨RowMid r l H i z now n near form, ?_, ?_⟩
        · obtain ⟨⟨us, es, u1, u2, u3, u4, u5, u6⟩, _⟩ := id S6
          have elif6 : RowMid r l H i z now n near form [some (.ref r), some (.str z), some (.int n), some (.ref l), some (.str now), some (.int near), some (.int (0 + (i : Int))), some (.int form), some (.int st), some (.int (if st + k < (now.length : Int) then st + k else (now.length : Int))), some (.str new)] H6 :=
            ⟨_, _, _, rfl, st0, by split <;> omega, by split <;> omega, by omega, hno, S6⟩
          refine ⟨_, rfl, rfl, _, rfl, ite2 (fun e => ?_) (fun e => ?_)⟩
          · refine ⟨_, rfl, !us.isEmpty, .inl ⟨us, SqL.of u1, rfl⟩, ite2 (fun e2 => ?_) (fun e2 => ?_)⟩
            · -- start = edits[-1][0] ..
              have hne : us ≠ [] := fun z => by
                rw [z] at e2
                cases e2
              obtain ⟨us0, ul, rfl⟩ : ∃ a b, us = a ++ [b] := ⟨us.dropLast, us.getLast hne, (List.dropLast_concat_getLast hne).symm⟩
              have hle := paired_len u2
              rw [List.length_append] at hle
              obtain ⟨el, hel⟩ : ∃ e, es[us0.length]? = some e := ⟨_, List.getElem?_eq_getElem (by simp only [List.length_singleton] at hle; omega)⟩
              obtain ⟨u', h1, t, rfl, ht⟩ := paired_get u2 hel
              have h2 : (us0 ++ [ul])[us0.length]? = some ul := by simp
              rw [h2] at h1
              have h3 := Option.some.inj h1
              subst h3
              have hb := u4 el (List.mem_of_getElem? hel)
              refine ⟨_, rfl, 1, rfl, l, _, _, _, rfl, rfl, SqL.of u1, atI_last _ _, t, _, 0, .int el.1, rfl, rfl, SqT.of ht, atI_nat (j := 0) rfl, ?_⟩
              refine ⟨_, rfl, _, rfl, 1, rfl, l, _, _, _, rfl, rfl, SqL.of u1, atI_last _ _, t, _, 2, .str el.2.2, rfl, rfl, SqT.of ht, atI_nat (j := 2) rfl, ?_⟩
              refine ⟨_, _, rfl, ⟨sz1 (by rw [len_cs]; exact Nat.le_trans hb.2.2.1 (by decide)), rfl⟩, el.1, _, rfl, rfl, ?_⟩
              have hes : es = es.take us0.length ++ [el] := by
                have hl2 : es.length = us0.length + 1 := by simp only [List.length_singleton] at hle; omega
                have h1 := take_more hel
                rw [List.take_of_length_le (by omega)] at h1
                exact h1
              rw [hes] at u5 u6
              obtain ⟨v1, v2⟩ := (fitsL_snoc _ _ _).mp u5
              rw [← appl_len v1] at v2
              rw [appl_snoc] at u6
              have v3 := spl1_len v2
              rw [u6] at v3
              obtain ⟨w1, w2, w3⟩ := v2
              have v4 : size1 (appl (cs z) (es.take us0.length)).length el = (appl (cs z) (es.take us0.length)).length - (el.2.1.toNat - el.1.toNat) + (cs el.2.2).length := rfl
              have v5 := len_cs el.2.2
              exact ⟨_, _, _, rfl, hb.1, by omega, by omega, by show 0 ≤ 2000; decide, tok_of (by decide +kernel), S6⟩
            · refine ⟨_, rfl, rfl, _, rfl, ite2 (fun e => ?_) (fun e => ?_)⟩
              · exfalso
                have h1 := of_decide_eq_true e
                have h2 : form = 6 := V.int.inj h1
                rename_i e0
                have h3 := of_decide_eq_true e0
                have h4 : form = 5 := V.int.inj h3
                omega
              · refine ⟨_, rfl, rfl, _, rfl, ite2 (fun e => ?_) (fun e => elif6)⟩
                exfalso
                rename_i e0 _
                have h1 : form = 7 := V.int.inj (of_decide_eq_true e)
                have h4 : form = 5 := V.int.inj (of_decide_eq_true e0)
                omega
          · refine iteF ?_
            refine ⟨_, rfl, rfl, _, rfl, ite2 (fun e => ?_) (fun e => ?_)⟩
            · refine ⟨_, rfl, _, rfl, _, rfl, _, rfl, _, rfl, now, rfl, sz1 (by omega), ?_⟩
              exact ⟨_, _, _, rfl, st0, by split <;> omega, by split <;> omega, Nat.le_trans (cut_len _ _ _) hlen, cut_tok S6.tok _ _, S6⟩
            · refine ⟨_, rfl, rfl, _, rfl, ite2 (fun e => ?_) (fun e => elif6)⟩
              refine ⟨_, rfl, _, rfl, _, rfl, sz1 (by omega), 1, _, rfl, _, rfl, _, rfl, sz1 (by omega), by show 3 ≤ sizeLine; decide, fun p np => ?_⟩
              refine ⟨r, _, rfl, S6.reel.new np, .inr ⟨p, _, rfl, (S6.reel.ne np).symm, SqL.of upd_same, by show 0 < 3; decide, fun v H7 hv hb7 hR7 => ?_⟩⟩
              obtain ⟨k, hk, rfl⟩ := mem_ints (l := [0, (if ((now.length : Int)) < 1 then ((now.length : Int)) else 1), ((now.length : Int))]) hv
              have k0 : 0 ≤ k ∧ k ≤ (now.length : Int) := by
                simp only [List.mem_cons, List.not_mem_nil, or_false] at hk
                rcases hk with rfl | rfl | rfl
                · omega
                · split <;> omega
                · omega
              exact ⟨_, _, _, rfl, by decide, k0.1, k0.2, by omega, hno, (S6.new np (o := _)).mono hb7 hR7⟩
        · rintro σ H7 ⟨st, en, new, rfl, s0, s1, s2, hnew, hno, S7⟩
          have enw := len_cs new
          -- if len(now) + len(new) > 1990
          refine ⟨fun σ H' => ∃ (new : Str), σ = [some (.ref r), some (.str z), some (.int n), some (.ref l), some (.str now), some (.int near), some (.int (0 + (i : Int))), some (.int form), some (.int st), some (.int en), some (.str new)] ∧ (cs now).length + (cs new).length ≤ 2000 ∧ (cs new).length ≤ 2000 ∧ TOk new ∧ RowSt r l H i z now H', ?_, ?_⟩
          · refine ⟨_, rfl, _, rfl, sz1 (by omega), _, rfl, _, rfl, sz1 (by omega), _, _, rfl, rfl, _, _, rfl, rfl, _, rfl, ite2 (fun e => ?_) (fun e => ?_)⟩
            · exact ⟨_, rfl, by show _ + 0 ≤ _; omega, by show 0 ≤ 2000; decide, tok_of (by decide +kernel), S7⟩
            · have h1 : ¬ (1990 : Int) < (now.length : Int) + (new.length : Int) := fun h => e (decide_eq_true h)
              exact ⟨_, rfl, by omega, hnew, hno, S7⟩
          · rintro σ H8 ⟨new, rfl, hn2, hn3, hno, S8⟩
            have enw := len_cs new
            obtain ⟨⟨us, es, u1, u2, u3, u4, u5, u6⟩, hne, hbt, hR8, _, htok⟩ := S8
            have ul := paired_len u2
            -- edits.append((start, end, new))
            refine ⟨.ref l, rfl, .inl ⟨rfl, _, SqL.of u1⟩, _, rfl, _, rfl, _, rfl, by show 3 ≤ sizeLine; decide, fun t nt => ?_⟩
            have lt : l ≠ t := ne_of_none u1 nt
            have u1' : (upd H8 t (.tup [.int st, .int en, .str new])) l = some (.lst us) := by rw [upd_ne lt]; exact u1
            refine ⟨l, us, .ref t, rfl, rfl, u1', sz2 (by omega), ?_⟩
            have tp : Tups H8 (upd (upd H8 t (.tup [.int st, .int en, .str new])) l (.lst (us ++ [.ref t]))) := (Tups.new nt).trans (Tups.mut u1')
            have hfit : fit1 (appl (cs z) es).length (st, en, new) := by
              rw [u6]
              exact ⟨s0, s1, by show en ≤ ((cs now).length : Int); omega⟩
            have S9 : (∃ vs es, (upd (upd H8 t (.tup [.int st, .int en, .str new])) l (.lst (us ++ [.ref t]))) l = some (.lst vs) ∧ EdsIn (upd (upd H8 t (.tup [.int st, .int en, .str new])) l (.lst (us ++ [.ref t]))) vs es ∧ es.length = i + 1 ∧ (∀ e ∈ es, EdBd e) ∧ fitsL (cs z).length es ∧ appl (cs z) es = spl1 (cs now) (st, en, new)) ∧ But r H (upd (upd H8 t (.tup [.int st, .int en, .str new])) l (.lst (us ++ [.ref t]))) ∧ ReelAt (upd (upd H8 t (.tup [.int st, .int en, .str new])) l (.lst (us ++ [.ref t]))) r := by
              refine ⟨⟨us ++ [.ref t], es ++ [(st, en, new)], upd_same, paired_app (u2.mono tp) (.cons ⟨t, rfl, ?_⟩ .nil), ?_, ?_, ?_, ?_⟩, ?_, ?_⟩
              · rw [upd_ne lt.symm, upd_same]
              · rw [List.length_append, u3]
                rfl
              · intro e he
                rcases List.mem_append.mp he with he | he
                · exact u4 e he
                · rw [List.mem_singleton.mp he]
                  exact ⟨s0, s1, hn3, hno⟩
              · rw [appl_len u5] at hfit
                exact (fitsL_snoc _ _ _).mpr ⟨u5, hfit⟩
              · rw [appl_snoc, u6]
              · exact fun b o nb e => by
                  have e8 := hbt b o nb e
                  rw [upd_ne (ne_of_none e nl), upd_ne (ne_of_none e8 nt)]
                  exact e8
              · obtain ⟨z1, c1, e1, e2⟩ := hR8
                exact ⟨z1, c1, by rw [upd_ne hne.symm, upd_ne (ne_of_none e1 nt)]; exact e1, e2⟩
            obtain ⟨⟨vs9, es9, q1, q2, q3, q4, q5, q6⟩, b9, r9⟩ := S9
            -- near
            refine ⟨_, rfl, _, rfl, _, rfl, _, rfl, sz1 (by omega), _, 1, rfl, rfl, r, _, rfl, r9, by omega, fun d H10 d0 d1 hb10 hR10 => ?_⟩
            refine ⟨st, d, rfl, rfl, ?_⟩
            -- now
            refine ⟨_, rfl, _, rfl, _, rfl, now, rfl, sz1 (by omega), _, rfl, _, _, rfl, rfl, ?_, _, rfl, _, rfl, _, rfl, now, rfl, sz1 (by omega), _, _, rfl, rfl, ?_, ?_⟩
            · have h1 := cutS_length now none (some st)
              exact sz1 (by omega)
            · have h1 := cutS_length now none (some st)
              have h2 := cutS_length now (some en) none
              have h3 : (cutS now none (some st) ++ new).length = (cutS now none (some st)).length + new.length := by
                rw [len_cs, len_cs, len_cs, cs_app, List.length_append]
              exact sz1 (by omega)
            · obtain ⟨a, rfl⟩ := nat_of s0
              obtain ⟨b, rfl⟩ := nat_of (show 0 ≤ en by omega)
              refine ⟨_, _, _, _, _, _, _, rfl, ⟨vs9, es9, hb10 l _ hne q1, q2.mono (hb10.tups r9), q3, q4, q5, ?_⟩, hne, b9.trans hb10, hR10, ?_, ?_⟩
              · rw [q6, cs_splice]
                rfl
              · rw [cs_splice]
                exact Nat.le_trans (spliceL_len (by omega)) hn2
              · intro c hc
                rw [cs_splice] at hc
                exact spl_tok htok hno c hc
    · rintro σ H1 ⟨now, near, y6, y7, y8, y9, y10, rfl, S1⟩
      obtain ⟨⟨vs, es, e1, e2, e3, e4, e5, e6⟩, n1, b0, r0, ln, tk⟩ := S1
      exact ⟨_, rfl, q l H1 vs es nl e1 e2 (by omega) e4 e5 (by rw [← appl_len e5, e6]; exact ln) b0 r0⟩
theorem ok_edit_row (T : Txt K mg) : FnOk P w K mg base CX0 5 T.a_law_edit_row T.fd_law_edit_row ["reel", "text", "count"] spRow :=
  (ok_edit_row2 T).imp fun _ _ _ _ ⟨r, z, n, e, h1, h2, h3, h4, h5, q⟩ => ⟨r, z, n, e, h1, h2, h3, h4, h5, fun l H' us es k1 k2 k3 k4 k5 k6 _ k7 k8 => q l H' us es k1 k2 k3 k4 k5 k6 k7 k8⟩

/-! ### planted edits -/
theorem cutV_pre (xs : List V) (a : Nat) : cutV xs none (some (a : Int)) = xs.take a := by
  unfold cutV
  rw [HT.sIx_nat, HT.sIx_none, List.drop_zero, Nat.sub_zero, ← List.take_eq_take_min]
theorem cutV_suf (xs : List V) (a : Nat) : cutV xs (some (a : Int)) none = xs.drop a := by
  unfold cutV
  rw [HT.sIx_nat, HT.sIx_none, List.take_of_length_le (by rw [List.length_drop]; exact Nat.le_refl _)]
  by_cases h : a ≤ xs.length
  · rw [Nat.min_eq_left h]
  · rw [Nat.min_eq_right (by omega), List.drop_eq_nil_of_le (Nat.le_refl _), List.drop_eq_nil_of_le (by omega)]
theorem fitsL_get : ∀ {n i : Nat} {es : List Ed} {e : Ed}, fitsL n es → es[i]? = some e → fit1 (sizeL n (es.take i)) e
  | _, _, [], _, _, h => by simp at h
  | n, 0, x :: r, e, h, g => by
    have q := Option.some.inj g
    subst q
    exact h.1
  | n, i + 1, x :: r, e, h, g => fitsL_get (n := size1 n x) (i := i) (es := r) h.2 (by simpa using g)
/-- edits with texts of at most 2000 signs -/
def Short (es : List Ed) : Prop := ∀ e ∈ es, e.len ≤ 2000 ∧ TOk e.2.2

/-! ### splicing, the way back, equal edits -/
def Lim (t : List Nat) (es : List Ed) : Prop := ∀ k, (appl t (es.take k)).length ≤ 4000000
def EdsAt (H : Hp) (l : Addr) (es : List Ed) : Prop := ∃ us, H l = some (.lst us) ∧ EdsIn H us es
theorem EdsAt.mono {H H' : Hp} {l : Addr} {es : List Ed} (h : EdsAt H l es) (s : Same H H') : EdsAt H' l es := by
  obtain ⟨us, h1, h2⟩ := h
  exact ⟨us, s _ _ h1, h2.mono fun b xs e => s b _ e⟩
theorem szM {n : Nat} (h : n ≤ 4000000) : n ≤ sizeLine := Nat.le_trans h (by decide)
theorem str_eq (x : Str) : (⟨(cs x).toArray⟩ : Str) = x := cs_inj rfl
theorem mkS_eq {x : Str} {l : List Nat} (h : cs x = l) : x = ⟨l.toArray⟩ := cs_inj h
/-- an edit that fits has places -/
theorem fit_nat {n : Nat} {e : Ed} (h : fit1 n e) : ∃ a b : Nat, e = ((a : Int), (b : Int), e.2.2) ∧ a ≤ b ∧ b ≤ n := by
  obtain ⟨x, y, s⟩ := e
  obtain ⟨h1, h2, h3⟩ := h
  simp only at h1 h2 h3
  obtain ⟨a, rfl⟩ := nat_of h1
  obtain ⟨b, rfl⟩ := nat_of (show 0 ≤ y by omega)
  exact ⟨a, b, rfl, by omega, by omega⟩
def spSplice : Sp := fun vs H Q _ => ∃ (z : Str) (l : Addr) (es : List Ed), vs = [.str z, .ref l] ∧ EdsAt H l es ∧ fitsL (cs z).length es ∧ Lim (cs z) es ∧ Q (.str ⟨(appl (cs z) es).toArray⟩) H
theorem cut_pre_len (z : Str) (a : Nat) : (cutS z none (some (a : Int))).length ≤ a := by
  rw [len_cs, cut_pre, List.length_take]
  exact Nat.min_le_left _ _
theorem spl_pre (t : List Nat) (a b : Nat) (s : List Nat) : (t.take a).length + s.length ≤ (spliceL t a b s).length := by
  unfold spliceL
  rw [List.length_append, List.length_append]
  omega

/-- the answer of the search for the first edit that does not fit -/
def unfitI (n : Nat) (es : List Ed) : Int := match unfit n es with
  | some k => (k : Int)
  | none => -1
theorem unfit_here : ∀ {n i : Nat} {es : List Ed} {e : Ed}, fitsL n (es.take i) → es[i]? = some e → ¬ fit1 (sizeL n (es.take i)) e → unfit n es = some i
  | _, _, [], _, _, h, _ => by simp at h
  | n, 0, x :: r, e, _, g, h => by
    have q := Option.some.inj g
    subst q
    show (if fit1 n x then (unfit (size1 n x) r).map (· + 1) else some 0) = some 0
    rw [if_neg (show ¬ fit1 n x from h)]
  | n, i + 1, x :: r, e, f, g, h => by
    have ih := unfit_here (n := size1 n x) (i := i) (es := r) f.2 (by simpa using g) h
    show (if fit1 n x then (unfit (size1 n x) r).map (· + 1) else some 0) = some (i + 1)
    rw [if_pos f.1, ih]
    rfl
def spFirst : Sp := fun vs H Q _ => ∃ (n : Nat) (l : Addr) (es : List Ed), vs = [.int (n : Int), .ref l] ∧ EdsAt H l es ∧ Short es ∧ es.length ≤ 100000 ∧ Q (.int (unfitI n es)) H
theorem ok_first (T : Txt K mg) : FnOk P w K mg base CX0 1 T.a_law_first_unfit T.fd_law_first_unfit ["size", "edits"] spFirst := by
  refine T.F_law_first_unfit.ok sc_law_first_unfit (fun vs H Q E h => ?_) (fun cdv A outer s H vs Q E hr h => ?_)
  · obtain ⟨z, l, es, rfl, _⟩ := h
    rfl
  · obtain ⟨n, l, es, rfl, ⟨us, hl, hes⟩, hsh, hn, q⟩ := h
    have hle := paired_len hes
    refine ⟨_, (pss_cons (ps_set (i := 2) sc_law_first_unfit.nd rfl (.inl rfl) (pv 0))
      (pss_cons (ps_for PassesOwn.never rfl (pi_range1 (by rfl) T.m_range (pa_cons (pe_callB call_len_seq (by rfl) T.m_len PySem.boot_len (pa_cons (pv 1) pa_nil)) pa_nil)) (pg_name (i := 3) sc_law_first_unfit.nd rfl (.inl rfl)) (pss_cons (ps_set (i := 4) sc_law_first_unfit.nd rfl (.inl rfl) (pe_ix ix_tup (pe_ix ix_list (pv 1) (pv 3) (fun _ _ => rfl)) pe_int (fun _ _ => rfl)))
      (pss_cons (ps_set (i := 5) sc_law_first_unfit.nd rfl (.inl rfl) (pe_ix ix_tup (pe_ix ix_list (pv 1) (pv 3) (fun _ _ => rfl)) pe_int (fun _ _ => rfl)))
      (pss_cons (ps_if (PW.pt (pw_or (pt_cmpR op_lt (pv 4) pe_int (nomark _)) (pw_or (pt_cmpR op_lt (pv 5) (pv 4) (nomark _)) (pw_or1 (pt_cmpR op_gt (pv 5) (pv 2) (nomark _)))))) (pss_one (ps_ret (pv 3))) pss_nil)
      (pss_one (ps_set (i := 2) sc_law_first_unfit.nd rfl (.inl rfl) (pe_op op_add (pe_op op_sub (pv 2) (pe_op op_sub (pv 5) (pv 4))) (pe_callB call_len (by rfl) T.m_len PySem.boot_len (pa_cons (pe_ix ix_tup (pe_ix ix_list (pv 1) (pv 3) (fun _ _ => rfl)) pe_int (fun _ _ => rfl)) pa_nil)))))))))
      (pss_one (ps_ret (pe_un un_neg pe_int))))), ?_⟩
    refine ⟨_, rfl, ?_⟩
    refine ⟨_, rfl, l, _, rfl, .inl (SqL.of hl), _, rfl, by omega, by omega, ?_⟩
    refine for_range (lo := 0) (n := ((us.length : Int)).toNat) (fun i σ H' => H' = H ∧ ∃ (y3 y4 y5 : Option V), σ = [some (.int (n : Int)), some (.ref l), some (.int ((sizeL n (es.take i) : Nat) : Int)), y3, y4, y5] ∧ fitsL n (es.take i))
      ⟨rfl, none, none, none, rfl, True.intro⟩ ?_ ?_
    · rintro i σ H1 hi ⟨rfl, y3, y4, y5, rfl, hf⟩
      have hi' : i < es.length := by omega
      obtain ⟨e, he⟩ : ∃ e, es[i]? = some e := ⟨_, List.getElem?_eq_getElem hi'⟩
      obtain ⟨x', hx', t, rfl, ht⟩ := paired_get hes he
      have len2 := hsh e (List.mem_of_getElem? he)
      have at1 : atI us (0 + (i : Int)) = some (.ref t) := at_of (j := i) (by omega) hx'
      refine ⟨_, rfl, _, rfl, l, _, _, _, rfl, rfl, SqL.of hl, at1, t, _, 0, .int e.1, rfl, rfl, SqT.of ht, atI_nat (j := 0) rfl, ?_⟩
      refine ⟨_, rfl, _, rfl, l, _, _, _, rfl, rfl, SqL.of hl, at1, t, _, 1, .int e.2.1, rfl, rfl, SqT.of ht, atI_nat (j := 1) rfl, ?_⟩
      have bad : ¬ fit1 (sizeL n (es.take i)) e → Q (.int (0 + (i : Int))) H1 := fun h => by
        have h1 := unfit_here hf he h
        have h2 : unfitI n es = 0 + (i : Int) := by
          unfold unfitI
          rw [h1]
          show (i : Int) = 0 + (i : Int)
          omega
        rw [← h2]
        exact q
      refine ⟨_, rfl, e.1, 0, rfl, rfl, _, rfl, ite2 (fun c => ?_) (fun c => ?_)⟩
      · refine iteT ⟨_, rfl, bad fun f => ?_⟩
        have := of_decide_eq_true c
        have := f.1
        omega
      · refine ⟨_, rfl, _, rfl, e.2.1, e.1, rfl, rfl, _, rfl, ite2 (fun c2 => ?_) (fun c2 => ?_)⟩
        · refine iteT ⟨_, rfl, bad fun f => ?_⟩
          have := of_decide_eq_true c2
          have := f.2.1
          omega
        · refine ⟨_, rfl, _, rfl, e.2.1, _, rfl, rfl, _, rfl, ite2 (fun c3 => ?_) (fun c3 => ?_)⟩
          · refine ⟨_, rfl, bad fun f => ?_⟩
            have := of_decide_eq_true c3
            have := f.2.2
            omega
          · have f1 : fit1 (sizeL n (es.take i)) e := by
              have g1 : ¬ e.1 < 0 := fun h => c (decide_eq_true h)
              have g2 : ¬ e.2.1 < e.1 := fun h => c2 (decide_eq_true h)
              have g3 : ¬ ((sizeL n (es.take i) : Nat) : Int) < e.2.1 := fun h => c3 (decide_eq_true h)
              exact ⟨by omega, by omega, by omega⟩
            refine ⟨_, rfl, _, rfl, _, rfl, e.2.1, e.1, rfl, rfl, _, _, rfl, rfl, ?_⟩
            refine ⟨_, rfl, _, rfl, l, _, _, _, rfl, rfl, SqL.of hl, at1, t, _, 2, .str e.2.2, rfl, rfl, SqT.of ht, atI_nat (j := 2) rfl, _, _, rfl, ⟨sz1 (by rw [len_cs]; exact Nat.le_trans len2.1 (by decide)), rfl⟩, _, _, rfl, rfl, ?_⟩
            have e3 : ((sizeL n (es.take i) : Nat) : Int) - (e.2.1 - e.1) + (e.2.2.length : Int) = ((sizeL n (es.take (i + 1)) : Nat) : Int) := by
              obtain ⟨a1, a2, a3⟩ := f1
              rw [take_more he, sizeL_snoc]
              have v4 : size1 (sizeL n (es.take i)) e = sizeL n (es.take i) - (e.2.1.toNat - e.1.toNat) + (cs e.2.2).length := rfl
              have v5 := len_cs e.2.2
              omega
            refine ⟨rfl, some (.int (0 + (i : Int))), some (.int e.1), some (.int e.2.1), ?_, ?_⟩
            · rw [← e3]
              rfl
            · rw [take_more he]
              exact (fitsL_snoc _ _ _).mpr ⟨hf, f1⟩
    · rintro σ H1 ⟨rfl, y3, y4, y5, rfl, hf⟩
      rw [Int.toNat_natCast, hle, List.take_length] at hf
      have h1 : unfitI n es = -1 := by
        unfold unfitI
        rw [unfit_none.mpr hf]
      rw [h1] at q
      exact ⟨1, rfl, q⟩
/-- an edit as data -/


def edD (e : Ed) : PyData := .tuple [.int e.1, .int e.2.1, .str e.2.2]
theorem edD_lay {e : Ed} (h : TOk e.2.2) : (edD e).canLay0 = true := by
  have h1 : PyData.strOk e.2.2 = true := by
    unfold PyData.strOk
    rw [← Array.all_toList]
    exact List.all_eq_true.mpr fun c hc => decide_eq_true (h c hc)
  unfold edD
  simp [PyData.canLay0, PyData.canLayAll0, h1]
theorem edD_depth (e : Ed) : (edD e).depth ≤ 3 := by
  unfold edD
  simp [PyData.depth, PyData.depthAll]
theorem edD_shaped {e : Ed} (h : TOk e.2.2) : SeqAt.shaped (edD e) = true := by
  unfold SeqAt.shaped
  rw [edD_lay h]
  have := edD_depth e
  simp only [Bool.true_and, decide_eq_true_eq]
  omega
theorem EdAt.dp {H : Hp} {v : V} {e : Ed} (h : EdAt H v e) : Dp K H v (edD e) := by
  obtain ⟨t, rfl, ht⟩ := h
  exact .tup (SqT.of ht) (.cons (.int _) (.cons (.int _) (.cons (.str _) .nil)))

/-! ### what the program promises of edits -/
def Lim2 (t : List Nat) (es : List Ed) : Prop := ∀ k, fitsL t.length (es.take k) → (appl t (es.take k)).length ≤ 4000000
theorem Lim2.lim {t : List Nat} {es : List Ed} (h : Lim2 t es) (f : fitsL t.length es) : Lim t es := fun k => h k (fitsL_take k f)
theorem Lim2.take {t : List Nat} {es : List Ed} (h : Lim2 t es) (j : Nat) : Lim2 t (es.take j) := fun k f => by
  rw [List.take_take] at f ⊢
  exact h _ f
def Sized (es : List Ed) : Prop := ∀ e ∈ es, e.len ≤ 4000000 ∧ TOk e.2.2
theorem Short.sized {es : List Ed} (h : Short es) : Sized es := fun e he => ⟨Nat.le_trans (h e he).1 (by decide), (h e he).2⟩
/-- an EditError with its index -/
def ErrAt (C : Addr) (H : Hp) (E : XK) (k : Nat) : Prop := ∀ d H', Same H H' → H d = none → H' d = some (.xd [(("index" : Str), .int (k : Int))]) → E (.ref C) (some d) H'
def spApply (C : Addr) : Sp := fun vs H Q E => ∃ (z : Str) (l : Addr) (es : List Ed), vs = [.str z, .ref l] ∧ EdsAt H l es ∧ Sized es ∧ es.length ≤ 2000 ∧ (cs z).length ≤ 4000000 ∧ TOk z ∧ Lim2 (cs z) es ∧
  (fitsL (cs z).length es → ∀ H', Same H H' → Q (.str ⟨(appl (cs z) es).toArray⟩) H') ∧ (∀ k, unfit (cs z).length es = some k → ErrAt C H E k)
def spInverse (C : Addr) : Sp := fun vs H Q E => ∃ (z : Str) (l : Addr) (es : List Ed), vs = [.str z, .ref l] ∧ EdsAt H l es ∧ Sized es ∧ es.length ≤ 2000 ∧ (cs z).length ≤ 4000000 ∧ TOk z ∧ Lim2 (cs z) es ∧
  (fitsL (cs z).length es → ∀ l' H', Same H H' → H l' = none → EdsAt H' l' (backL (cs z) es) → Q (.ref l') H') ∧ (∀ k, unfit (cs z).length es = some k → ErrAt C H E k)
theorem short_lim : ∀ {es : List Ed} {t : List Nat}, Short es → fitsL t.length es → (appl t es).length ≤ t.length + es.length * 2000
  | [], t, _, _ => Nat.le_add_right _ _
  | e :: r, t, h, f => by
    obtain ⟨f1, f2⟩ := f
    have e1 := spl1_len f1
    rw [← e1] at f2
    have ih := short_lim (es := r) (t := spl1 t e) (fun x hx => h x (List.mem_cons_of_mem _ hx)) f2
    have h1 := (h e List.mem_cons_self).1
    have s1 : size1 t.length e ≤ t.length + e.len := by
      unfold size1
      omega
    show (appl (spl1 t e) r).length ≤ t.length + (r.length + 1) * 2000
    rw [e1] at ih
    omega
theorem short_lim2 {es : List Ed} {t : List Nat} (h : Short es) (ht : t.length ≤ 2000) (hn : es.length ≤ 1500) : Lim2 t es := fun k f => by
  have h1 := short_lim (es := es.take k) (t := t) (fun x hx => h x (List.mem_of_mem_take hx)) f
  have h2 : (es.take k).length ≤ es.length := by rw [List.length_take]; exact Nat.min_le_right _ _
  omega
theorem EdsAt.cut {H : Hp} {l p : Addr} {es : List Ed} (h : EdsAt H l es) (np : H p = none) (k : Nat) : ∃ us, H l = some (.lst us) ∧ EdsAt (upd H p (.lst (cutV us none (some (k : Int))))) p (es.take k) := by
  obtain ⟨us, h1, h2⟩ := h
  refine ⟨us, h1, us.take k, ?_, paired_take k (h2.mono (Tups.new np))⟩
  rw [cutV_pre, upd_same]

theorem edDs_lay : ∀ {es : List Ed}, (∀ e ∈ es, TOk e.2.2) → PyData.canLayAll0 (es.map edD) = true
  | [], _ => rfl
  | e :: r, h => by
    rw [List.map_cons]
    simp only [PyData.canLayAll0]
    rw [edD_lay (h e List.mem_cons_self), edDs_lay fun x hx => h x (List.mem_cons_of_mem _ hx)]
    rfl
theorem edDs_depth : ∀ es : List Ed, PyData.depthAll (es.map edD) ≤ 3
  | [] => by simp [PyData.depthAll]
  | e :: r => by
    have h1 := edD_depth e
    have h2 := edDs_depth r
    rw [List.map_cons]
    simp only [PyData.depthAll]
    omega
theorem edL_lay {es : List Ed} (h : ∀ e ∈ es, TOk e.2.2) : (PyData.list (es.map edD)).canLay0 = true := by
  simp only [PyData.canLay0]
  exact edDs_lay h
theorem edL_shaped {es : List Ed} (h : ∀ e ∈ es, TOk e.2.2) : SeqAt.shaped (.list (es.map edD)) = true := by
  unfold SeqAt.shaped
  rw [edL_lay h]
  have := edDs_depth es
  have d : (PyData.list (es.map edD)).depth = PyData.depthAll (es.map edD) + 1 := by simp only [PyData.depth]
  rw [d, Bool.true_and, decide_eq_true_eq]
  omega
theorem eds_dp {H : Hp} : ∀ {vs : List V} {es : List Ed}, EdsIn H vs es → DpAll K H vs (es.map edD)
  | _, _, .nil => .nil
  | _, _, .cons r t => .cons r.dp (eds_dp t)
theorem EdsAt.dp {H : Hp} {l : Addr} {es : List Ed} (h : EdsAt H l es) : Dp K H (.ref l) (.list (es.map edD)) := by
  obtain ⟨us, h1, h2⟩ := h
  exact .lst (SqL.of h1) (eds_dp h2)
theorem EdsAt.out {H : Hp} {l p : Addr} {es : List Ed} {o : HO} (h : EdsAt H l es) (n : l ≠ p) (t : Tups H (upd H p o)) : EdsAt (upd H p o) l es := by
  obtain ⟨us, h1, h2⟩ := h
  exact ⟨us, by rw [upd_ne n]; exact h1, h2.mono t⟩

def spUnfit : Sp := fun vs H Q _ => ∃ (r : Addr) (n : Int), vs = [.ref r, .int n] ∧ ReelAt H r ∧ 0 ≤ n ∧ ∀ v H' (e : Ed), EdAt H' v e → e.len ≤ 2 → TOk e.2.2 → (∀ nn : Nat, n = (nn : Int) → ¬ fit1 nn e) → But r H H' → ReelAt H' r → Q v H'
theorem ok_unfit (T : Txt K mg) : FnOk P w K mg base CX0 4 T.a_law_unfit T.fd_law_unfit ["reel", "size"] spUnfit := by
  have G_law_draw : FnOk P w K mg base CX0 1 T.a_law_draw T.fd_law_draw ["reel", "size"] spDraw := ok_draw T
  have G_law_pick : FnOk P w K mg base CX0 2 T.a_law_pick T.fd_law_pick ["reel", "row"] (spPick K) := ok_pick T
  have G_law_word : FnOk P w K mg base CX0 3 T.a_law_word T.fd_law_word ["reel", "letters", "least", "most"] spWord := ok_word T
  refine T.F_law_unfit.ok sc_law_unfit (fun vs H Q E h => ?_) (fun cdv A outer s H vs Q E hr h => ?_)
  · obtain ⟨r, n, rfl, _⟩ := h
    rfl
  · have hr_law_draw : Room 1 _ := hr.mono (by decide)
    have hr_law_pick : Room 2 _ := hr.mono (by decide)
    have hr_law_word : Room 3 _ := hr
    obtain ⟨r, n, rfl, hr0, hn, q⟩ := h
    refine ⟨_, (pss_cons (ps_set (i := 2) sc_law_unfit.nd rfl (.inl rfl) (pe_call G_law_pick hr_law_pick (by rfl) T.g_law_pick T.F_law_pick.kp T.b_law_pick .nil pass0 (pa_cons (pv 0) (pa_cons (pe_lst (pa_cons pe_int (pa_cons pe_int (pa_cons pe_int (pa_cons pe_int (pa_cons (pe_op op_pow pe_int pe_int) (pa_cons (pe_op op_pow pe_int pe_int) pa_nil))))))) pa_nil))))
      (pss_cons (ps_set (i := 3) sc_law_unfit.nd rfl (.inl rfl) (pe_call G_law_word hr_law_word (by rfl) T.g_law_word T.F_law_word.kp T.b_law_word .nil pass0 (pa_cons (pv 0) (pa_cons pe_str (pa_cons pe_int (pa_cons pe_int pa_nil))))))
      (pss_cons (ps_set (i := 4) sc_law_unfit.nd rfl (.inl rfl) (pe_call G_law_draw hr_law_draw (by rfl) T.g_law_draw T.F_law_draw.kp T.b_law_draw .nil pass0 (pa_cons (pv 0) (pa_cons (pe_op op_add (pv 1) pe_int) pa_nil))))
      (pss_cons (ps_set (i := 5) sc_law_unfit.nd rfl (.inl rfl) (pe_call G_law_draw hr_law_draw (by rfl) T.g_law_draw T.F_law_draw.kp T.b_law_draw .nil pass0 (pa_cons (pv 0) (pa_cons pe_int pa_nil))))
      (pss_cons (ps_if (pt_cmpR op_eq (pv 5) pe_int (nomark _)) (pss_one (ps_ret (pe_tup (pa_cons (pe_op op_sub pe_int (pv 2)) (pa_cons (pv 4) (pa_cons (pv 3) pa_nil)))))) pss_nil)
      (pss_cons (ps_if (pt_cmpR op_eq (pv 5) pe_int (nomark _)) (pss_one (ps_ret (pe_tup (pa_cons (pv 4) (pa_cons (pe_op op_add (pv 1) (pv 2)) (pa_cons (pv 3) pa_nil)))))) pss_nil)
      (pss_cons (ps_if (pt_cmpR op_eq (pv 5) pe_int (nomark _)) (pss_one (ps_ret (pe_tup (pa_cons (pe_op op_add (pv 1) (pv 2)) (pa_cons (pe_op op_add (pv 1) (pv 2)) (pa_cons (pv 3) pa_nil)))))) pss_nil)
      (pss_cons (ps_if (pt_cmpR op_eq (pv 5) pe_int (nomark _)) (pss_one (ps_ret (pe_tup (pa_cons (pe_op op_sub pe_int (pv 2)) (pa_cons (pe_op op_sub pe_int (pv 2)) (pa_cons (pv 3) pa_nil)))))) pss_nil)
      (pss_cons (ps_if (pt_cmpR op_eq (pv 5) pe_int (nomark _)) (pss_one (ps_ret (pe_tup (pa_cons (pe_op op_add (pv 4) (pv 2)) (pa_cons (pv 4) (pa_cons (pv 3) pa_nil)))))) pss_nil)
      (pss_one (ps_ret (pe_tup (pa_cons (pv 4) (pa_cons (pe_op op_sub (pv 4) (pv 2)) (pa_cons (pv 3) pa_nil))))))))))))))), ?_⟩
    refine ⟨_, rfl, 10, 9, rfl, rfl, ⟨by decide, by decide, by decide⟩, 10, 30, rfl, rfl, ⟨by decide, by decide, by decide⟩, by show 6 ≤ sizeLine; decide, fun p np => ?_⟩
    refine ⟨r, _, rfl, hr0.new np, .inr ⟨p, _, rfl, (hr0.ne np).symm, SqL.of upd_same, by show 0 < 6; decide, fun v H1 hv hb1 hR1 => ?_⟩⟩
    obtain ⟨k, hk, rfl⟩ := mem_ints (l := [1, 1, 2, 9, 10 ^ (9 : Int).toNat, 10 ^ (30 : Int).toNat]) hv
    refine ⟨_, rfl, r, _, 0, 2, rfl, hR1, by decide +kernel, by decide +kernel, by decide, by decide, by decide, fun x H2 x0 x1 xz hb2 hR2 => ?_⟩
    refine ⟨_, rfl, _, rfl, n, 1, rfl, rfl, r, _, rfl, hR2, by omega, fun pl H3 p0 p1 hb3 hR3 => ?_⟩
    refine ⟨_, rfl, r, _, rfl, hR3, by decide, fun f H4 f0 f1 hb4 hR4 => ?_⟩
    have hb : But r H H4 := (But.new np).trans (hb1.trans (hb2.trans (hb3.trans hb4)))
    have hx : (cs x).length ≤ 2 := by omega
    have k1 : 1 ≤ k := by
      have h10 : (1 : Int) ≤ 10 ^ (9 : Int).toNat := by decide
      have h30 : (1 : Int) ≤ 10 ^ (30 : Int).toNat := by decide +kernel
      simp only [List.mem_cons, List.not_mem_nil, or_false] at hk
      rcases hk with rfl | rfl | rfl | rfl | rfl | rfl
      · omega
      · omega
      · omega
      · omega
      · exact h10
      · exact h30
    have fin : ∀ (a b : Int), (¬ (0 ≤ a ∧ a ≤ b ∧ b ≤ n)) → ∀ (t : Addr), H4 t = none → Q (.ref t) (upd H4 t (.tup [.int a, .int b, .str x])) := fun a b nf t nt =>
      q _ _ (a, b, x) ⟨t, rfl, upd_same⟩ hx (fun c hc => (tok_of (by decide +kernel) : TOk _) c (xz c hc)) (fun nn hnn f => nf (by rw [hnn]; exact f)) (hb.trans (But.new nt)) (hR4.new nt)
    refine ⟨_, rfl, rfl, _, rfl, ite2 (fun e => ?_) (fun e => ?_)⟩
    · exact ⟨_, rfl, 0, k, rfl, rfl, _, rfl, _, rfl, by show 3 ≤ sizeLine; decide, fun t nt => fin _ _ (by omega) t nt⟩
    refine ⟨_, rfl, rfl, _, rfl, ite2 (fun e => ?_) (fun e => ?_)⟩
    · exact ⟨_, rfl, _, rfl, _, rfl, n, k, rfl, rfl, _, rfl, by show 3 ≤ sizeLine; decide, fun t nt => fin _ _ (by omega) t nt⟩
    refine ⟨_, rfl, rfl, _, rfl, ite2 (fun e => ?_) (fun e => ?_)⟩
    · exact ⟨_, rfl, _, rfl, n, k, rfl, rfl, _, rfl, _, rfl, n, k, rfl, rfl, _, rfl, by show 3 ≤ sizeLine; decide, fun t nt => fin _ _ (by omega) t nt⟩
    refine ⟨_, rfl, rfl, _, rfl, ite2 (fun e => ?_) (fun e => ?_)⟩
    · exact ⟨_, rfl, 0, k, rfl, rfl, _, rfl, 0, k, rfl, rfl, _, rfl, by show 3 ≤ sizeLine; decide, fun t nt => fin _ _ (by omega) t nt⟩
    refine ⟨_, rfl, rfl, _, rfl, ite2 (fun e => ?_) (fun e => ?_)⟩
    · exact ⟨_, rfl, _, rfl, pl, k, rfl, rfl, _, rfl, _, rfl, by show 3 ≤ sizeLine; decide, fun t nt => fin _ _ (by omega) t nt⟩
    · exact ⟨_, rfl, _, rfl, _, rfl, pl, k, rfl, rfl, _, rfl, by show 3 ≤ sizeLine; decide, fun t nt => fin _ _ (by omega) t nt⟩
/-- in an edit list that fits an edit that does not has been put, i times -/
def PlantAt (n : Nat) (es : List Ed) (i : Nat) (rows : List Ed) : Prop := i = 0 ∨ ∃ j e, j ≤ es.length ∧ rows.take j = es.take j ∧ rows[j]? = some e ∧ ¬ fit1 (sizeL n (es.take j)) e
theorem PlantAt.unfit {n i : Nat} {es rows : List Ed} (h : PlantAt n es i rows) (hi : i ≠ 0) (hf : fitsL n es) : ∃ k, unfit n rows = some k := by
  rcases h with h | ⟨j, e, h1, h2, h3, h4⟩
  · exact absurd h hi
  · exact ⟨j, unfit_here (by rw [h2]; exact fitsL_take j hf) h3 (by rw [h2]; exact h4)⟩
theorem PlantAt.next {n i a : Nat} {es rows : List Ed} {e : Ed} (h : PlantAt n es i rows) (h0 : i = 0 → rows = es) (hl : es.length ≤ rows.length) (ha : a ≤ es.length) (he : ¬ fit1 (sizeL n (es.take a)) e) : PlantAt n es (i + 1) (rows.take a ++ [e] ++ rows.drop (a + 1)) := by
  right
  have la : (rows.take a).length = a := by rw [List.length_take]; omega
  have get : (rows.take a ++ [e] ++ rows.drop (a + 1))[a]? = some e := by
    rw [List.append_assoc, List.getElem?_append_right (by omega), la, Nat.sub_self]
    rfl
  have tk : ∀ j, j ≤ a → (rows.take a ++ [e] ++ rows.drop (a + 1)).take j = rows.take j := fun j hj => by
    rw [List.append_assoc, List.take_append_of_le_length (by omega), List.take_take, Nat.min_eq_left hj]
  rcases h with h | ⟨j, e2, h1, h2, h3, h4⟩
  · have := h0 h
    subst this
    exact ⟨a, e, ha, tk a (Nat.le_refl _), get, he⟩
  · by_cases c : a ≤ j
    · refine ⟨a, e, ha, ?_, get, he⟩
      rw [tk a (Nat.le_refl _)]
      have h5 : (rows.take j).take a = (es.take j).take a := by rw [h2]
      rw [List.take_take, List.take_take, Nat.min_eq_left c] at h5
      exact h5
    · refine ⟨j, e2, h1, ?_, ?_, h4⟩
      · rw [tk j (by omega), h2]
      · rw [List.append_assoc, List.getElem?_append_left (by omega), List.getElem?_take_of_lt (by omega)]
        exact h3
def spPlanted : Sp := fun vs H Q _ => ∃ (r l : Addr) (z : Str) (m : Int) (us : List V) (es : List Ed), vs = [.ref r, .str z, .ref l, .int m] ∧ ReelAt H r ∧ H l = some (.lst us) ∧ l ≠ r ∧ EdsIn H us es ∧ Short es ∧ fitsL (cs z).length es ∧
  (cs z).length ≤ 2000 ∧ es.length ≤ 1000 ∧ 0 ≤ m ∧ m ≤ 1000 ∧
  ∀ l' H' us' es', H' l' = some (.lst us') → l' ≠ r → EdsIn H' us' es' → es'.length ≤ es.length + m.toNat → Short es' → PlantAt (cs z).length es m.toNat es' → But r H H' → ReelAt H' r → Q (.ref l') H'
/-- a list of ints that are not below 0 -/
def nats (l : List Nat) : List V := l.map fun (n : Nat) => V.int (n : Int)
theorem nats_snoc (l : List Nat) (n : Nat) : nats l ++ [V.int (n : Int)] = nats (l ++ [n]) := by
  unfold nats
  rw [List.map_append]
  rfl
theorem nats_get {l : List Nat} {i : Nat} (h : i < l.length) : ∃ n : Nat, (nats l)[i]? = some (.int (n : Int)) := by
  refine ⟨l[i], ?_⟩
  unfold nats
  rw [List.getElem?_map, List.getElem?_eq_getElem h]
  rfl
theorem ok_planted (T : Txt K mg) : FnOk P w K mg base CX0 5 T.a_law_planted T.fd_law_planted ["reel", "text", "edits", "many"] spPlanted := by
  have G_law_draw : FnOk P w K mg base CX0 1 T.a_law_draw T.fd_law_draw ["reel", "size"] spDraw := ok_draw T
  have G_law_unfit : FnOk P w K mg base CX0 4 T.a_law_unfit T.fd_law_unfit ["reel", "size"] spUnfit := ok_unfit T
  refine T.F_law_planted.ok sc_law_planted (fun vs H Q E h => ?_) (fun cdv A outer s H vs Q E hr h => ?_)
  · obtain ⟨r, l, z, m, us, es, rfl, _⟩ := h
    rfl
  · have hr_law_draw : Room 1 _ := hr.mono (by decide)
    have hr_law_unfit : Room 4 _ := hr
    obtain ⟨r, l, z, m, us, es, rfl, hr0, hl, hlr, hes, hsh, hfit, hz, hn, hm0, hm1, q⟩ := h
    refine ⟨_, (pss_cons (ps_set (i := 4) sc_law_planted.nd rfl (.inl rfl) (pe_lst (pa_cons (pe_callB call_len_str (by rfl) T.m_len PySem.boot_len (pa_cons (pv 1) pa_nil)) pa_nil)))
      (pss_cons (ps_for PassesOwn.never rfl (pi_list (pv 2)) (pg_name (i := 5) sc_law_planted.nd rfl (.inl rfl)) (pss_one (ps_expr (pe_bm PySem.F.plainAttrs_list PySem.F.slot_list_append PySem.F.type_list_append mt_append (pv 4) (pa_cons (pe_op op_add (pe_op op_sub (pe_ix ix_list (pv 4) (pe_un un_neg pe_int) (fun _ _ => rfl)) (pe_op op_sub (pe_ix ix_tup (pv 5) pe_int (fun _ _ => rfl)) (pe_ix ix_tup (pv 5) pe_int (fun _ _ => rfl)))) (pe_callB call_len (by rfl) T.m_len PySem.boot_len (pa_cons (pe_ix ix_tup (pv 5) pe_int (fun _ _ => rfl)) pa_nil))) pa_nil)))))
      (pss_cons (ps_set (i := 6) sc_law_planted.nd rfl (.inl rfl) (pe_callTy call_list_of (by rfl) T.m_list (by decide +kernel) (pa_cons (pv 2) pa_nil)))
      (pss_cons (ps_for PassesOwn.never rfl (pi_range1 (by rfl) T.m_range (pa_cons (pv 3) pa_nil)) (pg_name (i := 7) sc_law_planted.nd rfl (.inl rfl)) (pss_cons (ps_set (i := 8) sc_law_planted.nd rfl (.inl rfl) (pe_call G_law_draw hr_law_draw (by rfl) T.g_law_draw T.F_law_draw.kp T.b_law_draw .nil pass0 (pa_cons (pv 0) (pa_cons (pe_callB (call_min2 rfl) (by rfl) T.m_min (by decide +kernel) (pa_cons pe_int (pa_cons (pe_callB call_len_seq (by rfl) T.m_len PySem.boot_len (pa_cons (pv 4) pa_nil)) pa_nil))) pa_nil))))
      (pss_one (ps_set (i := 6) sc_law_planted.nd rfl (.inl rfl) (pe_op op_cat (pe_op op_cat (pe_slice sl_list (pv 6) po_none (po_some (pv 8))) (pe_lst (pa_cons (pe_call G_law_unfit hr_law_unfit (by rfl) T.g_law_unfit T.F_law_unfit.kp T.b_law_unfit .nil pass0 (pa_cons (pv 0) (pa_cons (pe_ix ix_list (pv 4) (pv 8) (fun _ _ => rfl)) pa_nil))) pa_nil))) (pe_slice sl_list (pv 6) (po_some (pe_op op_add (pv 8) pe_int)) po_none))))))
      (pss_one (ps_ret (pv 6))))))), ?_⟩
    have elz := len_cs z
    have hle := paired_len hes
    -- sizes = [len(text)]
    refine ⟨_, rfl, _, rfl, sz1 (by omega), by show 1 ≤ sizeLine; decide, fun p np => ?_⟩
    have lp : l ≠ p := ne_of_none hl np
    -- for edit in edits
    refine ⟨_, rfl, l, rfl, ⟨_, SqL.of (by rw [upd_ne lp]; exact hl)⟩, ?_⟩
    refine for_list (K := K) (a := l) (xs := us) (fun i σ H' => ∃ y6 y7 y8 y9, σ = [some (.ref r), some (.str z), some (.ref l), some (.int m), some (.ref p), y6, y7, y8, y9] ∧ Same H H' ∧ ∃ ini : List Nat, H' p = some (.lst (nats (ini ++ [sizeL (cs z).length (es.take i)]))) ∧ ini.length = i ∧ ∀ j nm, (ini ++ [sizeL (cs z).length (es.take i)])[j]? = some nm → nm = sizeL (cs z).length (es.take j))
      ⟨none, none, none, none, rfl, same_upd np, [], (by rw [upd_same, elz] <;> rfl), rfl, fun j nm h => by
        cases j with
        | zero => exact (Option.some.inj h).symm
        | succ j => simp at h⟩ (fun i σ H' _ ⟨_, _, _, _, _, sm, _⟩ => sm.seq (SqL.of hl)) ?_ ?_
    · rintro i x σ H1 hx ⟨y6, y7, y8, y9, rfl, sm, ini, hp, hi, hin⟩
      obtain ⟨e, he⟩ : ∃ e, es[i]? = some e := ⟨_, List.getElem?_eq_getElem (by rw [← hle]; exact (List.getElem?_eq_some_iff.mp hx).1)⟩
      obtain ⟨x', hx', t, rfl, ht⟩ := paired_get hes he
      rw [hx] at hx'
      have h1 := Option.some.inj hx'
      subst h1
      have ht1 := sm t _ ht
      have hf := fitsL_get hfit he
      have hlen := (hsh e (List.mem_of_getElem? he)).1
      have le := len_cs e.2.2
      refine ⟨.ref p, rfl, .inl ⟨rfl, _, SqL.of hp⟩, _, rfl, 1, rfl, p, _, _, _, rfl, rfl, SqL.of hp, (by rw [← nats_snoc]; exact atI_last _ _), ?_⟩
      refine ⟨_, rfl, t, _, 1, .int e.2.1, rfl, rfl, SqT.of ht1, atI_nat (j := 1) rfl, _, rfl, t, _, 0, .int e.1, rfl, rfl, SqT.of ht1, atI_nat (j := 0) rfl, _, _, rfl, rfl, _, _, rfl, rfl, ?_⟩
      refine ⟨_, rfl, t, _, 2, .str e.2.2, rfl, rfl, SqT.of ht1, atI_nat (j := 2) rfl, _, _, rfl, ⟨sz1 (by rw [le]; exact Nat.le_trans hlen (by decide)), rfl⟩, _, _, rfl, rfl, ?_⟩
      refine ⟨p, _, _, rfl, rfl, hp, ?_, ?_⟩
      · unfold nats
        rw [List.length_map, List.length_append]
        have : i < es.length := (List.getElem?_eq_some_iff.mp he).1
        exact sz2 (by simp only [List.length_singleton]; omega)
      · refine ⟨_, _, _, _, rfl, same_mut sm np, ini ++ [sizeL (cs z).length (es.take i)], ?_, by rw [List.length_append, hi]; rfl, fun j nm h => ?_⟩
        rotate_left
        · by_cases c : j < i + 1
          · rw [List.getElem?_append_left (by rw [List.length_append, hi]; exact c)] at h
            exact hin j nm h
          · have hj : j = i + 1 := by
              have h8 := (List.getElem?_eq_some_iff.mp h).1
              rw [List.length_append, List.length_append, hi] at h8
              have l1 : ([sizeL (cs z).length (es.take i)] : List Nat).length = 1 := rfl
              have l2 : ([sizeL (cs z).length (es.take (i + 1))] : List Nat).length = 1 := rfl
              omega
            subst hj
            rw [List.getElem?_append_right (by rw [List.length_append, hi]; exact Nat.le_refl _), List.length_append, hi] at h
            have e9 : i + 1 - (i + ([sizeL (cs z).length (es.take i)] : List Nat).length) = 0 := Nat.sub_self _
            rw [e9] at h
            exact (Option.some.inj h).symm
        rw [upd_same, take_more he, sizeL_snoc, ← nats_snoc (ini ++ _)]
        have e3 : ((sizeL (cs z).length (es.take i) : Nat) : Int) - (e.2.1 - e.1) + (e.2.2.length : Int) = ((size1 (sizeL (cs z).length (es.take i)) e : Nat) : Int) := by
          obtain ⟨f1, f2, f3⟩ := hf
          have v4 : size1 (sizeL (cs z).length (es.take i)) e = sizeL (cs z).length (es.take i) - (e.2.1.toNat - e.1.toNat) + (cs e.2.2).length := rfl
          omega
        rw [← e3]
    · rintro σ H1 ⟨y6, y7, y8, y9, rfl, sm, ini, hp, hi, hin⟩
      have hl1 := sm l _ hl
      have hR1 : ReelAt H1 r := by
        obtain ⟨z1, c1, e1, e2⟩ := hr0
        exact ⟨z1, c1, sm _ _ e1, e2⟩
      have hpr : p ≠ r := (hr0.ne np).symm
      -- rows = list(edits)
      refine ⟨_, rfl, l, us, rfl, .inl (SqL.of hl1), fun p2 np2 => ?_⟩
      refine ⟨_, rfl, m, rfl, by omega, by omega, ?_⟩
      refine for_range (lo := 0) (n := m.toNat) (fun i σ H' => ∃ (y6 y7 y8 : Option V) (rows : Addr) (us' : List V) (es' : List Ed), σ = [some (.ref r), some (.str z), some (.ref l), some (.int m), some (.ref p), y6, some (.ref rows), y7, y8] ∧ But r H H' ∧ ReelAt H' r ∧
          H' p = some (.lst (nats (ini ++ [sizeL (cs z).length (es.take us.length)]))) ∧ H' rows = some (.lst us') ∧ rows ≠ r ∧ EdsIn H' us' es' ∧ es'.length ≤ es.length + i ∧ Short es' ∧ es.length ≤ es'.length ∧ (i = 0 → es' = es) ∧ PlantAt (cs z).length es i es')
        ⟨_, _, _, p2, us, es, rfl, (But.of sm).trans (But.new np2), hR1.new np2, by rw [upd_ne (ne_of_none hp np2)]; exact hp, upd_same, (hR1.ne np2).symm, hes.mono ((show Tups H H1 from fun b xs e => sm b _ e).trans (Tups.new np2)), by omega, hsh, Nat.le_refl _, fun _ => rfl, .inl rfl⟩ ?_ ?_
      · rintro i σ H2 hi2 ⟨y6, y7, y8, rows, us', es', rfl, hb, hR, hp2, hrows, hrr, hed, hel, hsh', hge, hz0, hpl⟩
        have lini : (nats (ini ++ [sizeL (cs z).length (es.take us.length)])).length = us.length + 1 := by
          unfold nats
          rw [List.length_map, List.length_append, hi]
          rfl
        refine ⟨_, rfl, _, rfl, p, _, rfl, .inl (SqL.of hp2), 200, _, rfl, r, _, rfl, hR, by rw [lini]; split <;> omega, fun ax H3 a0 a1 hb3 hR3 => ?_⟩
        rw [lini] at a1
        obtain ⟨a, rfl⟩ := nat_of a0
        have ha : a < us.length + 1 := by split at a1 <;> omega
        have hrows3 := hb3 rows _ hrr hrows
        have hp3 := hb3 p _ hpr hp2
        have hed3 := hed.mono (hb3.tups hR)
        -- rows[:at]
        refine ⟨_, rfl, _, rfl, _, rfl, rows, us', rfl, SqL.of hrows3, fun c1 nc1 => ?_⟩
        rw [cutV_pre]
        obtain ⟨nm, hnm⟩ := nats_get (l := ini ++ [sizeL (cs z).length (es.take us.length)]) (i := a) (by unfold nats at lini; rw [List.length_map] at lini; omega)
        -- [_law_unfit(reel, sizes[at])]
        refine ⟨_, rfl, _, rfl, _, rfl, p, _, (a : Int), .int (nm : Int), rfl, rfl, SqL.of (by rw [upd_ne (ne_of_none hp3 nc1)]; exact hp3), atI_nat hnm, r, _, rfl, hR3.new nc1, by omega, fun v H4 e hv he heo hnf hb4 hR4 => ?_⟩
        refine ⟨by show 1 ≤ sizeLine; decide, fun c2 nc2 => ?_⟩
        have c1r : c1 ≠ r := (hR3.ne nc1).symm
        have hc1 : H4 c1 = some (.lst (us'.take a)) := hb4 c1 _ c1r upd_same
        have lu := paired_len hed3
        have hc1' : (upd H4 c2 (.lst [v])) c1 = some (.lst (us'.take a)) := by rw [upd_ne (ne_of_none hc1 nc2)]; exact hc1
        refine ⟨c1, c2, us'.take a, [v], rfl, rfl, hc1', upd_same, sz1 (by rw [List.length_take]; show _ + 1 ≤ _; omega), fun c3 nc3 => ?_⟩
        -- rows[at + 1:]
        have b5 : But r (upd H3 c1 (.lst (us'.take a))) (upd (upd H4 c2 (.lst [v])) c3 (.lst (us'.take a ++ [v]))) := hb4.trans ((But.new nc2).trans (But.new nc3))
        have hrows5 : (upd (upd H4 c2 (.lst [v])) c3 (.lst (us'.take a ++ [v]))) rows = some (.lst us') := b5 rows _ hrr (by rw [upd_ne (ne_of_none hrows3 nc1)]; exact hrows3)
        refine ⟨_, rfl, _, rfl, (a : Int), 1, rfl, rfl, _, rfl, rows, us', rfl, SqL.of hrows5, fun c4 nc4 => ?_⟩
        have e1 : (a : Int) + 1 = ((a + 1 : Nat) : Int) := by omega
        rw [e1, cutV_suf]
        have n34 : c3 ≠ c4 := ne_of_none upd_same nc4
        refine ⟨c3, c4, us'.take a ++ [v], us'.drop (a + 1), rfl, rfl, by rw [upd_ne n34, upd_same], upd_same, sz1 (by rw [List.length_append, List.length_take, List.length_drop]; show _ + 1 + _ ≤ _; omega), fun c5 nc5 => ?_⟩
        have b6 := b5.trans ((But.new (o := .lst (us'.drop (a + 1))) nc4).trans (But.new (o := .lst (us'.take a ++ [v] ++ us'.drop (a + 1))) nc5))
        have b7 := (But.new (r := r) (o := .lst (us'.take a)) nc1).trans b6
        have t3 : Tups H3 (upd H3 c1 (.lst (us'.take a))) := Tups.new nc1
        have t4 := b6.tups (hR3.new nc1)
        have t5 : Tups H4 (upd (upd (upd (upd H4 c2 (.lst [v])) c3 (.lst (us'.take a ++ [v]))) c4 (.lst (us'.drop (a + 1)))) c5 (.lst (us'.take a ++ [v] ++ us'.drop (a + 1)))) := (Tups.new nc2).trans ((Tups.new nc3).trans ((Tups.new nc4).trans (Tups.new nc5)))
        have r5 := ((hR4.new (o := .lst [v]) nc2).new (o := .lst (us'.take a ++ [v])) nc3).new (o := .lst (us'.drop (a + 1))) nc4
        refine ⟨_, _, _, c5, _, es'.take a ++ [e] ++ es'.drop (a + 1), rfl, (hb.trans hb3).trans b7, r5.new nc5, b7 p _ hpr hp3, upd_same, (r5.ne nc5).symm, paired_app (paired_app (paired_take a (hed3.mono (t3.trans t4))) (.cons (hv.mono t5) .nil)) (paired_drop (a + 1) (hed3.mono (t3.trans t4))), ?_, ?_, ?_, fun h => (nomatch h), hpl.next hz0 hge (by omega) ?_⟩
        · rw [List.length_append, List.length_append, List.length_take, List.length_drop]
          show _ + 1 + _ ≤ _
          have h9 : us.length = es.length := hle
          omega
        · intro x hx
          rcases List.mem_append.mp hx with hx | hx
          · rcases List.mem_append.mp hx with hx | hx
            · exact hsh' x (List.mem_of_mem_take hx)
            · rw [List.mem_singleton.mp hx]
              exact ⟨by omega, heo⟩
          · exact hsh' x (List.mem_of_mem_drop hx)
        · rw [List.length_append, List.length_append, List.length_take, List.length_drop]
          show es.length ≤ _ + 1 + _
          omega
        · have h9 := hnf nm rfl
          obtain ⟨nm', hnm', e9⟩ : ∃ nm', (ini ++ [sizeL (cs z).length (es.take us.length)])[a]? = some nm' ∧ V.int (nm' : Int) = V.int (nm : Int) := by
            unfold nats at hnm
            rw [List.getElem?_map] at hnm
            cases e8 : (ini ++ [sizeL (cs z).length (es.take us.length)])[a]? with
            | none =>
              rw [e8] at hnm
              cases hnm
            | some nm' =>
              rw [e8] at hnm
              exact ⟨nm', rfl, Option.some.inj hnm⟩
          have e10 : nm' = nm := by
            have := V.int.inj e9
            omega
          rw [← hin a nm' hnm', e10]
          exact h9
      · rintro σ H2 ⟨y6, y7, y8, rows, us', es', rfl, hb, hR, hp2, hrows, hrr, hed, hel, hsh', hge, hz0, hpl⟩
        exact ⟨_, rfl, q rows H2 us' es' hrows hrr hed hel hsh' hpl hb hR⟩


/-! ### walks over texts -/
theorem for_strS {x : Str} {g : L2.TG} {tb : L2.TS} {D : L2.Ends} {σ : L2.St} {H : Hp} (Pv : Nat → L2.St → Hp → Prop) (h0 : Pv 0 σ H)
    (hs : ∀ i c σ H, x.cps[i]? = some c → Pv i σ H → g (.str ⟨#[c]⟩) σ H fun σ2 H2 => tb { D with nx := Pv (i + 1), ct := Pv (i + 1), bk := D.nx } σ2 H2) (hd : ∀ σ H, Pv x.cps.size σ H → D.nx σ H) :
    ∃ Wk : Nat → Nat → L2.St → Hp → Prop, (∃ mm, Wk 0 mm σ H) ∧ ∀ i mm σ H, Wk i mm σ H →
      ((Its x).stop i H ∧ D.nx σ H) ∨ ((Its x).go i H ∧ ∃ N : L2.St → Hp → Prop, (∀ σ' H', N σ' H' → ∃ mm', mm' < mm ∧ Wk (i + 1) mm' σ' H') ∧ ∀ y H', (Its x).yld i H y H' → g y σ H' fun σ2 H2 => tb { D with nx := N, ct := N, bk := D.nx } σ2 H2) := by
  refine ⟨fun i mm σ H => mm = x.cps.size - i ∧ i ≤ x.cps.size ∧ Pv i σ H, ⟨x.cps.size, by simp, Nat.zero_le _, h0⟩, ?_⟩
  rintro i mm σ H ⟨rfl, hi, pz⟩
  by_cases hlt : i < x.cps.size
  · refine .inr ⟨hlt, Pv (i + 1), fun σ' H' pz' => ⟨x.cps.size - (i + 1), by omega, rfl, hlt, pz'⟩, fun y H' hy => ?_⟩
    obtain ⟨rfl, c, hc, rfl⟩ := hy
    exact hs i c σ H' hc pz
  · have ee : i = x.cps.size := by omega
    subst ee
    exact .inl ⟨Nat.le_refl _, hd σ H pz⟩
theorem lc_strS {x : Str} {g : L2.TG} {tt : L2.TT} {te : L2.TE} {vs : List Nat} {σ : L2.St} {H1 : Hp} {D : Addr} {Qd : Hp → Prop} (Pv : Nat → Hp → Prop) (h0 : Pv 0 (upd H1 D (.lst [])))
    (hs : ∀ i c H, x.cps[i]? = some c → Pv i H → g (.str ⟨#[c]⟩) (wipe σ vs) H fun σ2 H2 => wipe σ2 vs = wipe σ vs ∧ tt σ2 H2 fun b H3 =>
      if b = true then te σ2 H3 fun y H4 => ∃ acc, H4 D = some (.lst acc) ∧ acc.length < sizeLine ∧ Pv (i + 1) (upd H4 D (.lst (acc ++ [y]))) else Pv (i + 1) H3) (hd : ∀ H, Pv x.cps.size H → Qd H) :
    ∃ Wk : Nat → Nat → Hp → Prop, (∃ mm, Wk 0 mm (upd H1 D (.lst []))) ∧ ∀ i mm H, Wk i mm H →
      ((Its x).stop i H ∧ Qd H) ∨ ((Its x).go i H ∧ ∃ Nx : Hp → Prop, (∀ H', Nx H' → ∃ mm', mm' < mm ∧ Wk (i + 1) mm' H') ∧ ∀ y H', (Its x).yld i H y H' → g y (wipe σ vs) H' fun σ2 H2 => wipe σ2 vs = wipe σ vs ∧ tt σ2 H2 fun b H3 =>
        if b = true then te σ2 H3 fun y H4 => ∃ acc, H4 D = some (.lst acc) ∧ acc.length < sizeLine ∧ Nx (upd H4 D (.lst (acc ++ [y]))) else Nx H3) := by
  refine ⟨fun i mm H => mm = x.cps.size - i ∧ i ≤ x.cps.size ∧ Pv i H, ⟨x.cps.size, by simp, Nat.zero_le _, h0⟩, ?_⟩
  rintro i mm H ⟨rfl, hi, pz⟩
  by_cases hlt : i < x.cps.size
  · refine .inr ⟨hlt, Pv (i + 1), fun H' pz' => ⟨x.cps.size - (i + 1), by omega, rfl, hlt, pz'⟩, fun y H' hy => ?_⟩
    obtain ⟨rfl, c, hc, rfl⟩ := hy
    exact hs i c H' hc pz
  · have ee : i = x.cps.size := by omega
    subst ee
    exact .inl ⟨Nat.le_refl _, hd H pz⟩
/-- a walk over enumerate(xs) -/
theorem for_enumS {K : PySem.W.Frag} {a : Addr} {xs : List V} {g : L2.TG} {tb : L2.TS} {D : L2.Ends} {σ : L2.St} {H : Hp} (Pv : Nat → L2.St → Hp → Prop) (h0 : Pv 0 σ H) (hl : ∀ i σ H, i ≤ xs.length → Pv i σ H → SqL K H a xs)
    (hs : ∀ i x t σ H, xs[i]? = some x → Pv i σ H → H t = none → g (.ref t) σ (upd H t (.tup [.int (i : Nat), x])) fun σ2 H2 => tb { D with nx := Pv (i + 1), ct := Pv (i + 1), bk := D.nx } σ2 H2) (hd : ∀ σ H, Pv xs.length σ H → D.nx σ H) :
    ∃ Wk : Nat → Nat → L2.St → Hp → Prop, (∃ mm, Wk 0 mm σ H) ∧ ∀ i mm σ H, Wk i mm σ H →
      ((Ite K a).stop i H ∧ D.nx σ H) ∨ ((Ite K a).go i H ∧ ∃ N : L2.St → Hp → Prop, (∀ σ' H', N σ' H' → ∃ mm', mm' < mm ∧ Wk (i + 1) mm' σ' H') ∧ ∀ y H', (Ite K a).yld i H y H' → g y σ H' fun σ2 H2 => tb { D with nx := N, ct := N, bk := D.nx } σ2 H2) := by
  refine ⟨fun i mm σ H => mm = xs.length - i ∧ i ≤ xs.length ∧ Pv i σ H, ⟨xs.length, by simp, Nat.zero_le _, h0⟩, ?_⟩
  rintro i mm σ H ⟨rfl, hi, pz⟩
  have q := hl i σ H hi pz
  by_cases hlt : i < xs.length
  · have hx : xs[i]? = some (xs[i]) := List.getElem?_eq_getElem hlt
    refine .inr ⟨⟨xs, xs[i], q, hx⟩, Pv (i + 1), fun σ' H' pz' => ⟨xs.length - (i + 1), by omega, rfl, hlt, pz'⟩, fun y H' hy => ?_⟩
    obtain ⟨t, x, rfl, ht, rfl, hall⟩ := hy
    exact hs i x t σ H (hall xs q) pz ht
  · have ee : i = xs.length := by omega
    subst ee
    exact .inl ⟨⟨xs, q, Nat.le_refl _⟩, hd σ H pz⟩

/-! ### the numbers of the characters -/
def tagW (s : Str) : List Int := (cs s).map fun _ => -1
theorem tagW_len (s : Str) : (tagW s).length = (cs s).length := List.length_map ..
def upTo (n : Nat) : List Int := (List.range n).map fun (k : Nat) => (k : Int)
theorem upTo_len (n : Nat) : (upTo n).length = n := by
  unfold upTo
  rw [List.length_map, List.length_range]
theorem upTo_succ (n : Nat) : upTo (n + 1) = upTo n ++ [(n : Int)] := by
  unfold upTo
  rw [List.range_succ, List.map_append]
  rfl
theorem applG_snoc {α : Type} (g : Str → List α) (t : List α) (es : List Ed) (e : Ed) : applG g t (es ++ [e]) = spl1G g (applG g t es) e := by
  unfold applG
  rw [List.foldl_append]
  rfl
theorem splG_le {α : Type} {t s : List α} {a b : Nat} (h : a ≤ b) : (splG t a b s).length ≤ t.length + s.length := by
  unfold splG
  rw [List.length_append, List.length_append, List.length_take, List.length_drop]
  omega
theorem fitsL_le : ∀ {n : Nat} {es : List Ed}, fitsL n es → ∀ e ∈ es, 0 ≤ e.1 ∧ e.1 ≤ e.2.1
  | _, [], _, _, h => absurd h List.not_mem_nil
  | _, _ :: _, f, e, h => by
    rcases List.mem_cons.mp h with h | h
    · rw [h]
      exact ⟨f.1.1, f.1.2.1⟩
    · exact fitsL_le f.2 e h
theorem applG_le : ∀ {es : List Ed} {t : List Int}, (∀ e ∈ es, 0 ≤ e.1 ∧ e.1 ≤ e.2.1) → Short es → (applG tagW t es).length ≤ t.length + es.length * 2000
  | [], t, _, _ => Nat.le_add_right _ _
  | e :: r, t, f, h => by
    have f1 := f e List.mem_cons_self
    have ih := applG_le (es := r) (t := spl1G tagW t e) (fun x hx => f x (List.mem_cons_of_mem _ hx)) (fun x hx => h x (List.mem_cons_of_mem _ hx))
    have h1 := (h e List.mem_cons_self).1
    have s1 : (spl1G tagW t e).length ≤ t.length + (tagW e.2.2).length := splG_le (by omega)
    rw [tagW_len] at s1
    show (applG tagW (spl1G tagW t e) r).length ≤ t.length + (r.length + 1) * 2000
    have : e.len = (cs e.2.2).length := rfl
    omega
theorem tagW_snoc (k : Nat) : (List.replicate k (-1 : Int)) ++ [-1] = List.replicate (k + 1) (-1) := by rw [List.replicate_succ']
theorem tagW_rep (s : Str) : tagW s = List.replicate (cs s).length (-1) := by
  unfold tagW
  rw [List.map_const']
def spTags : Sp := fun vs H Q _ => ∃ (n : Nat) (l : Addr) (es : List Ed), vs = [.int (n : Int), .ref l] ∧ EdsAt H l es ∧ (∀ e ∈ es, 0 ≤ e.1 ∧ e.1 ≤ e.2.1) ∧ Short es ∧ es.length ≤ 400 ∧ n ≤ 50000 ∧ ∀ l' H', Same H H' → H' l' = some (.lst ((applG tagW (upTo (n + 1)) es).map V.int)) → Q (.ref l') H'
theorem ok_tags (T : Txt K mg) : FnOk P w K mg base CX0 1 T.a_law_tags T.fd_law_tags ["size", "edits"] spTags := by
  refine T.F_law_tags.ok sc_law_tags (fun vs H Q E h => ?_) (fun cdv A outer s H vs Q E hr h => ?_)
  · obtain ⟨n, l, es, rfl, _⟩ := h
    rfl
  · obtain ⟨n, l, es, rfl, hE, hf, hS, hn, hz, q⟩ := h
    refine ⟨_, (pss_cons (ps_setLc (i := 2) (own := [("k", 3)]) (g := gName 3) (by rfl) sc_law_tags.nd rfl rfl (sw_true rfl rfl rfl (by decide +kernel)) (pi_range1 (by rfl) T.m_range (pa_cons (pe_op op_add (pv 0) pe_int) pa_nil)) (blkOk_by (own := [("k", 3)]) (N := ["size", "edits", "tags", "k", "edit", "char"]) (sc := defScope s_law_tags) (by decide +kernel)) (fun _ _ _ _ _ => pg_name (i := 3) sc_law_tags.nd rfl (Or.inl rfl)) (fun _ _ _ _ _ => pts_nil) (fun _ _ _ _ _ => (pv 3)))
      (pss_cons (ps_for PassesOwn.never rfl (pi_list (pv 1)) (pg_name (i := 4) sc_law_tags.nd rfl (.inl rfl)) (pss_one (ps_set (i := 2) sc_law_tags.nd rfl (.inl rfl) (pe_op op_cat (pe_op op_cat (pe_slice sl_list (pv 2) po_none (po_some (pe_ix ix_tup (pv 4) pe_int (fun _ _ => rfl)))) (pe_lc (own := [("char", 5)]) (g := gName 5) (by rfl) sc_law_tags.nd (pi_str (pe_ix ix_tup (pv 4) pe_int (fun _ _ => rfl))) (blkOk_by (own := [("char", 5)]) (N := ["size", "edits", "tags", "k", "edit", "char"]) (sc := defScope s_law_tags) (by decide +kernel)) (fun _ _ _ _ _ => pg_name (i := 5) sc_law_tags.nd rfl (Or.inl rfl)) (fun _ _ _ _ _ => pts_nil) (fun _ _ _ _ _ => (pe_un un_neg pe_int)))) (pe_slice sl_list (pv 2) (po_some (pe_ix ix_tup (pv 4) pe_int (fun _ _ => rfl))) po_none)))))
      (pss_one (ps_ret (pv 2))))), ?_⟩
    refine ⟨_, rfl, _, 1, rfl, rfl, _, rfl, by omega, by omega, fun D nD => ?_⟩
    refine lc_range (lo := 0) (n := ((n : Int) + 1).toNat) (fun i H' => Same H H' ∧ H' D = some (.lst ((upTo i).map V.int))) ⟨same_upd nD, upd_same⟩ ?_ ?_
    · rintro i H' hi ⟨sm, hD⟩
      refine ⟨rfl, _, rfl, _, hD, sz2 (by rw [List.length_map, upTo_len]; omega), same_mut sm nD, ?_⟩
      rw [upd_same, upTo_succ, List.map_append, Int.zero_add]
      rfl
    · rintro H1 ⟨sm1, hD⟩
      have e1 : ((n : Int) + 1).toNat = n + 1 := by omega
      rw [e1] at hD
      obtain ⟨us, hus, hue⟩ := id hE
      have lu := paired_len hue
      refine ⟨_, rfl, l, rfl, ⟨_, SqL.of (sm1 _ _ hus)⟩, ?_⟩
      refine for_list (K := K) (a := l) (xs := us) (fun i σ H' => Same H H' ∧ ∃ (d : Addr) (y3 y4 y5 : Option V), σ = [some (.int (n : Int)), some (.ref l), some (.ref d), y3, y4, y5] ∧ H' d = some (.lst ((applG tagW (upTo (n + 1)) (es.take i)).map V.int)))
        ⟨sm1, D, none, none, none, rfl, hD⟩ (fun i σ H' _ ⟨e, _⟩ => SqL.of (e _ _ hus)) ?_ ?_
      · rintro i x σ H2 hx ⟨sm, d, y3, y4, y5, rfl, hd⟩
        obtain ⟨e, he⟩ : ∃ e, es[i]? = some e := ⟨_, List.getElem?_eq_getElem (by rw [← lu]; exact (List.getElem?_eq_some_iff.mp hx).1)⟩
        obtain ⟨x', hx', t, rfl, ht0⟩ := paired_get hue he
        rw [hx] at hx'
        have h1 := Option.some.inj hx'
        subst h1
        have hem := List.mem_of_getElem? he
        obtain ⟨f0, f1⟩ := hf e hem
        obtain ⟨a, ha⟩ := nat_of f0
        obtain ⟨b, hb⟩ := nat_of (Int.le_trans f0 f1)
        obtain ⟨ea, eb, es1⟩ := e
        dsimp only at ha hb
        subst ha hb
        have hl1 : es1.length ≤ 2000 := by rw [len_cs]; exact (hS _ hem).1
        have hlen := applG_le (es := es.take i) (t := upTo (n + 1)) (fun e he => hf e (List.mem_of_mem_take he)) (fun e he => hS e (List.mem_of_mem_take he))
        rw [upTo_len, List.length_take] at hlen
        have ht := sm _ _ ht0
        have ht : H2 t = some (.tup [.int (a : Int), .int (b : Int), .str es1]) := ht
        have esn : applG tagW (upTo (n + 1)) (es.take (i + 1)) = splG (applG tagW (upTo (n + 1)) (es.take i)) a b (tagW es1) := by
          rw [take_more he, applG_snoc]
          rfl
        obtain ⟨ts, ets⟩ : ∃ ts, ts = applG tagW (upTo (n + 1)) (es.take i) := ⟨_, rfl⟩
        rw [← ets] at hd hlen esn
        have hlen2 : ts.length ≤ 1000000 := by omega
        refine ⟨_, rfl, _, rfl, t, _, 0, .int (a : Int), rfl, rfl, SqT.of ht, atI_nat (j := 0) rfl, _, rfl, d, _, rfl, SqL.of hd, fun c nc => ?_⟩
        rw [cutV_pre]
        have s3 := same_upd (o := .lst ((ts.map V.int).take a)) nc
        refine ⟨_, rfl, t, _, 2, .str es1, rfl, rfl, SqT.of (s3 _ _ ht), atI_nat (j := 2) rfl, es1, rfl, fun D2 nD2 => ?_⟩
        refine lc_strS (fun j H' => Same (upd H2 c (.lst ((ts.map V.int).take a))) H' ∧ H' D2 = some (.lst ((List.replicate j (-1 : Int)).map V.int))) ⟨same_upd nD2, upd_same⟩ ?_ ?_
        · rintro j ch H3 hj ⟨s4, hD2⟩
          have hj' : j < es1.length := (Array.getElem?_eq_some_iff.mp hj).1
          refine ⟨rfl, 1, rfl, _, hD2, sz2 (by rw [List.length_map, List.length_replicate]; omega), same_mut s4 nD2, ?_⟩
          rw [upd_same, List.replicate_succ', List.map_append]
          rfl
        · rintro H4 ⟨s4, hD2⟩
          have e3 : (List.replicate es1.cps.size (-1 : Int)) = tagW es1 := by rw [tagW_rep, ← len_cs]; rfl
          rw [e3] at hD2
          have l3 := tagW_len es1
          rw [← len_cs] at l3
          have s5 := s3.trans s4
          have hc4 := s4 _ _ upd_same
          refine ⟨c, D2, _, _, rfl, rfl, hc4, hD2, ?_, fun p np => ?_⟩
          · rw [List.length_take, List.length_map, List.length_map, l3]
            exact szM (by omega)
          have s6 := s5.trans (same_upd (o := .lst ((ts.map V.int).take a ++ (tagW es1).map V.int)) np)
          refine ⟨_, rfl, _, rfl, t, _, 1, .int (b : Int), rfl, rfl, SqT.of (s6 _ _ ht), atI_nat (j := 1) rfl, _, rfl, d, _, rfl, SqL.of (s6 _ _ hd), fun c2 nc2 => ?_⟩
          rw [cutV_suf]
          have s7 := s6.trans (same_upd (o := .lst ((ts.map V.int).drop b)) nc2)
          refine ⟨p, c2, _, _, rfl, rfl, (by rw [upd_ne (ne_of_none upd_same nc2)]; exact upd_same), upd_same, ?_, fun p2 np2 => ?_⟩
          · rw [List.length_append, List.length_take, List.length_drop, List.length_map, List.length_map, l3]
            exact szM (by omega)
          refine ⟨sm.trans (s7.trans (same_upd np2)), p2, _, _, _, rfl, ?_⟩
          rw [upd_same, esn]
          unfold splG
          rw [List.map_append, List.map_append, List.map_take, List.map_drop]
      · rintro σ H2 ⟨sm, d, y3, y4, y5, rfl, hd⟩
        rw [lu, List.take_length] at hd
        exact ⟨_, rfl, q _ _ sm hd⟩

/-! ### runs, in plain Lean -/
abbrev Rn := Nat × Nat × Nat
def pairs1 (r : Rn) : List (Nat × Nat) := (List.range r.2.2).map fun i => (r.1 + i, r.2.1 + i)
def pairsOf (rs : List Rn) : List (Nat × Nat) := rs.flatMap pairs1
/-- one more run, at the head of the runs so far (the last one first) -/
def joinR : List Rn → Rn → List Rn
  | [], r => [r]
  | (o, n, c) :: t, (a, b, d) => if o + c = a ∧ n + c = b then (o, n, c + d) :: t else (a, b, d) :: (o, n, c) :: t
def joinedL (ps : List Rn) : List Rn := (ps.foldl joinR []).reverse
def one1 (p : Nat × Nat) : Rn := (p.1, p.2, 1)
def canon (qs : List (Nat × Nat)) : List Rn := joinedL (qs.map one1)
theorem mem_pairs1 {r : Rn} {p : Nat × Nat} : p ∈ pairs1 r ↔ r.1 ≤ p.1 ∧ p.1 < r.1 + r.2.2 ∧ p.2 + r.1 = p.1 + r.2.1 := by
  unfold pairs1
  rw [List.mem_map]
  constructor
  · rintro ⟨i, hi, rfl⟩
    rw [List.mem_range] at hi
    refine ⟨?_, ?_, ?_⟩ <;> simp only <;> omega
  · rintro ⟨h1, h2, h3⟩
    refine ⟨p.1 - r.1, List.mem_range.mpr (by omega), ?_⟩
    refine Prod.ext ?_ ?_ <;> simp only <;> omega
theorem mem_pairsOf {rs : List Rn} {p : Nat × Nat} : p ∈ pairsOf rs ↔ ∃ r ∈ rs, p ∈ pairs1 r := by
  unfold pairsOf
  rw [List.mem_flatMap]
theorem joinR_one (acc : List Rn) (o n c : Nat) (h : 0 < c) : joinR (joinR acc (o, n, c)) (o + c, n + c, 1) = joinR acc (o, n, c + 1) := by
  cases acc with
  | nil =>
    show (if o + c = o + c ∧ n + c = n + c then [(o, n, c + 1)] else _) = _
    rw [if_pos ⟨rfl, rfl⟩]
    rfl
  | cons x t =>
    obtain ⟨a, b, d⟩ := x
    show joinR (if a + d = o ∧ b + d = n then (a, b, d + c) :: t else (o, n, c) :: (a, b, d) :: t) (o + c, n + c, 1) = if a + d = o ∧ b + d = n then (a, b, d + (c + 1)) :: t else (o, n, c + 1) :: (a, b, d) :: t
    by_cases e : a + d = o ∧ b + d = n
    · rw [if_pos e, if_pos e]
      show (if a + (d + c) = o + c ∧ b + (d + c) = n + c then (a, b, d + c + 1) :: t else _) = _
      rw [if_pos (by omega), Nat.add_assoc]
    · rw [if_neg e, if_neg e]
      show (if o + c = o + c ∧ n + c = n + c then (o, n, c + 1) :: (a, b, d) :: t else _) = _
      rw [if_pos ⟨rfl, rfl⟩]
theorem pairs1_succ (o n c : Nat) : pairs1 (o, n, c + 1) = pairs1 (o, n, c) ++ [(o + c, n + c)] := by
  unfold pairs1
  show (List.range (c + 1)).map _ = (List.range c).map _ ++ _
  rw [List.range_succ, List.map_append]
  rfl
theorem joinR_pairs : ∀ (c : Nat) (acc : List Rn) (o n : Nat), ((pairs1 (o, n, c + 1)).map one1).foldl joinR acc = joinR acc (o, n, c + 1)
  | 0, acc, o, n => rfl
  | c + 1, acc, o, n => by
    rw [pairs1_succ, List.map_append, List.foldl_append, joinR_pairs c acc o n]
    show joinR (joinR acc (o, n, c + 1)) (o + (c + 1), n + (c + 1), 1) = _
    exact joinR_one acc o n (c + 1) (Nat.succ_pos c)
theorem fold_pairs : ∀ (ps : List Rn) (acc : List Rn), (∀ r ∈ ps, 0 < r.2.2) → ((pairsOf ps).map one1).foldl joinR acc = ps.foldl joinR acc
  | [], _, _ => rfl
  | (o, n, c) :: t, acc, h => by
    have h1 : 0 < c := h (o, n, c) List.mem_cons_self
    obtain ⟨d, rfl⟩ : ∃ d, c = d + 1 := ⟨c - 1, by omega⟩
    show (((pairs1 (o, n, d + 1)) ++ pairsOf t).map one1).foldl joinR acc = t.foldl joinR (joinR acc (o, n, d + 1))
    rw [List.map_append, List.foldl_append, joinR_pairs, fold_pairs t _ fun r hr => h r (List.mem_cons_of_mem _ hr)]
/-- joining pieces is joining their single pairs -/
theorem joined_canon {ps : List Rn} (h : ∀ r ∈ ps, 0 < r.2.2) : joinedL ps = canon (pairsOf ps) := by
  unfold canon joinedL
  rw [fold_pairs ps [] h]
theorem pairsOf_app (a b : List Rn) : pairsOf (a ++ b) = pairsOf a ++ pairsOf b := List.flatMap_append
theorem pairsOf_joinR (acc : List Rn) (o n : Nat) : pairsOf (joinR acc (o, n, 1)).reverse = pairsOf acc.reverse ++ [(o, n)] := by
  cases acc with
  | nil => rfl
  | cons x t =>
    obtain ⟨a, b, d⟩ := x
    show pairsOf (if a + d = o ∧ b + d = n then (a, b, d + 1) :: t else (o, n, 1) :: (a, b, d) :: t).reverse = _
    by_cases e : a + d = o ∧ b + d = n
    · rw [if_pos e, List.reverse_cons, List.reverse_cons, pairsOf_app, pairsOf_app]
      show pairsOf t.reverse ++ (pairs1 (a, b, d + 1) ++ []) = pairsOf t.reverse ++ (pairs1 (a, b, d) ++ []) ++ [(o, n)]
      rw [pairs1_succ, e.1, e.2, List.append_nil, List.append_nil, List.append_assoc]
    · rw [if_neg e, List.reverse_cons, pairsOf_app]
      rfl
theorem pairsOf_fold : ∀ (qs : List (Nat × Nat)) (acc : List Rn), pairsOf ((qs.map one1).foldl joinR acc).reverse = pairsOf acc.reverse ++ qs
  | [], acc => (List.append_nil _).symm
  | (o, n) :: t, acc => by
    show pairsOf ((t.map one1).foldl joinR (joinR acc (o, n, 1))).reverse = _
    rw [pairsOf_fold t, pairsOf_joinR, List.append_assoc]
    rfl
theorem pairsOf_canon (qs : List (Nat × Nat)) : pairsOf (canon qs) = qs := by
  unfold canon joinedL
  rw [pairsOf_fold]
  rfl
theorem joinR_pos {acc : List Rn} {r : Rn} (h : ∀ x ∈ acc, 0 < x.2.2) (hr : 0 < r.2.2) : ∀ x ∈ joinR acc r, 0 < x.2.2 := by
  cases acc with
  | nil =>
    intro x hx
    rw [List.mem_singleton.mp hx]
    exact hr
  | cons y t =>
    obtain ⟨a, b, d⟩ := y
    obtain ⟨o, n, c⟩ := r
    intro x hx
    have hx' : x ∈ (if a + d = o ∧ b + d = n then (a, b, d + c) :: t else (o, n, c) :: (a, b, d) :: t) := hx
    have hc : 0 < c := hr
    by_cases e : a + d = o ∧ b + d = n
    · rw [if_pos e] at hx'
      rcases List.mem_cons.mp hx' with rfl | h1
      · show 0 < d + c
        omega
      · exact h _ (List.mem_cons_of_mem _ h1)
    · rw [if_neg e] at hx'
      rcases List.mem_cons.mp hx' with rfl | h1
      · exact hr
      · exact h _ h1
theorem fold_pos : ∀ (ps : List Rn) (acc : List Rn), (∀ x ∈ acc, 0 < x.2.2) → (∀ x ∈ ps, 0 < x.2.2) → ∀ x ∈ ps.foldl joinR acc, 0 < x.2.2
  | [], _, h, _ => h
  | r :: t, _, h, g => fold_pos t _ (joinR_pos h (g r List.mem_cons_self)) fun x hx => g x (List.mem_cons_of_mem _ hx)
theorem canon_pos (qs : List (Nat × Nat)) : ∀ r ∈ canon qs, 0 < r.2.2 := fun r hr => by
  unfold canon joinedL at hr
  refine fold_pos (qs.map one1) [] (fun _ h => absurd h List.not_mem_nil) (fun x hx => ?_) r (List.mem_reverse.mp hr)
  obtain ⟨p, _, rfl⟩ := List.mem_map.mp hx
  exact Nat.one_pos
/-! ### ascending rows of pairs -/
def Up (l : List (Nat × Nat)) : Prop := l.Pairwise fun p q => p.1 < q.1 ∧ p.2 < q.2
theorem Up.both {l : List (Nat × Nat)} (h : Up l) : ∀ p ∈ l, ∀ q ∈ l, p = q ∨ (p.1 < q.1 ∧ p.2 < q.2) ∨ (q.1 < p.1 ∧ q.2 < p.2) := by
  induction l with
  | nil => exact fun p hp => absurd hp List.not_mem_nil
  | cons x t ih =>
    obtain ⟨h1, h2⟩ := List.pairwise_cons.mp h
    intro p hp q hq
    rcases List.mem_cons.mp hp with e1 | hp1
    · rcases List.mem_cons.mp hq with e2 | hq1
      · exact .inl (e1.trans e2.symm)
      · exact .inr (.inl (e1 ▸ h1 q hq1))
    · rcases List.mem_cons.mp hq with e2 | hq1
      · exact .inr (.inr (e2 ▸ h1 p hp1))
      · exact ih h2 p hp1 q hq1
/-- ascending rows with the same members are the same -/
theorem up_eq : ∀ {a b : List (Nat × Nat)}, a.Pairwise (fun p q => p.2 < q.2) → b.Pairwise (fun p q => p.2 < q.2) → (∀ p, p ∈ a ↔ p ∈ b) → a = b
  | [], [], _, _, _ => rfl
  | [], y :: s, _, _, h => absurd ((h y).mpr List.mem_cons_self) List.not_mem_nil
  | x :: t, [], _, _, h => absurd ((h x).mp List.mem_cons_self) List.not_mem_nil
  | x :: t, y :: s, ha, hb, h => by
    obtain ⟨a1, a2⟩ := List.pairwise_cons.mp ha
    obtain ⟨b1, b2⟩ := List.pairwise_cons.mp hb
    have e : x = y := by
      rcases List.mem_cons.mp ((h x).mp List.mem_cons_self) with e | hx
      · exact e
      rcases List.mem_cons.mp ((h y).mpr List.mem_cons_self) with e | hy
      · exact e.symm
      have l1 := b1 x hx
      have l2 := a1 y hy
      omega
    subst e
    have e2 : t = s := up_eq a2 b2 fun p => by
      constructor
      · intro hp
        rcases List.mem_cons.mp ((h p).mp (List.mem_cons_of_mem _ hp)) with e | h1
        · have := a1 p hp
          rw [e] at this
          omega
        · exact h1
      · intro hp
        rcases List.mem_cons.mp ((h p).mpr (List.mem_cons_of_mem _ hp)) with e | h1
        · have := b1 p hp
          rw [e] at this
          omega
        · exact h1
    rw [e2]
/-! ### the pairs of a row of tags -/
def tp : Nat → List Int → List (Nat × Nat)
  | _, [] => []
  | k, x :: r => if 0 ≤ x then (x.toNat, k) :: tp (k + 1) r else tp (k + 1) r
theorem mem_tp : ∀ {k : Nat} {t : List Int} {p : Nat × Nat}, p ∈ tp k t ↔ k ≤ p.2 ∧ t[p.2 - k]? = some (p.1 : Int)
  | k, [], p => by
    show p ∈ [] ↔ _
    simp
  | k, x :: r, p => by
    have ih := mem_tp (k := k + 1) (t := r) (p := p)
    have step : (k + 1 ≤ p.2 ∧ r[p.2 - (k + 1)]? = some (p.1 : Int)) ↔ (k ≤ p.2 ∧ k ≠ p.2 ∧ (x :: r)[p.2 - k]? = some (p.1 : Int)) := by
      constructor
      · rintro ⟨h1, h2⟩
        refine ⟨by omega, by omega, ?_⟩
        have : p.2 - k = (p.2 - (k + 1)) + 1 := by omega
        rw [this, List.getElem?_cons_succ]
        exact h2
      · rintro ⟨h1, h2, h3⟩
        refine ⟨by omega, ?_⟩
        have : p.2 - k = (p.2 - (k + 1)) + 1 := by omega
        rw [this, List.getElem?_cons_succ] at h3
        exact h3
    rw [step] at ih
    unfold tp
    by_cases h : 0 ≤ x
    · rw [if_pos h, List.mem_cons, ih]
      constructor
      · rintro (rfl | ⟨h1, _, h3⟩)
        · refine ⟨Nat.le_refl _, ?_⟩
          show (x :: r)[k - k]? = some ((x.toNat : Nat) : Int)
          rw [Nat.sub_self, List.getElem?_cons_zero, Int.toNat_of_nonneg h]
        · exact ⟨h1, h3⟩
      · rintro ⟨h1, h2⟩
        by_cases e : k = p.2
        · left
          rw [← e, Nat.sub_self, List.getElem?_cons_zero] at h2
          have h3 := Option.some.inj h2
          refine Prod.ext ?_ ?_ <;> simp only <;> omega
        · exact .inr ⟨h1, e, h2⟩
    · rw [if_neg h, ih]
      constructor
      · rintro ⟨h1, _, h3⟩
        exact ⟨h1, h3⟩
      · rintro ⟨h1, h2⟩
        refine ⟨h1, fun e => h ?_, h2⟩
        rw [← e, Nat.sub_self, List.getElem?_cons_zero] at h2
        have h3 := Option.some.inj h2
        omega
theorem mem_tp0 {t : List Int} {p : Nat × Nat} : p ∈ tp 0 t ↔ t[p.2]? = some (p.1 : Int) := by
  rw [mem_tp]
  simp
theorem tp_snd : ∀ (k : Nat) (t : List Int), (tp k t).Pairwise fun p q => p.2 < q.2
  | _, [] => List.Pairwise.nil
  | k, x :: r => by
    unfold tp
    by_cases h : 0 ≤ x
    · rw [if_pos h]
      refine List.pairwise_cons.mpr ⟨fun q hq => ?_, tp_snd (k + 1) r⟩
      have := (mem_tp.mp hq).1
      show k < q.2
      omega
    · rw [if_neg h]
      exact tp_snd (k + 1) r
theorem tp_snoc : ∀ (k : Nat) (t : List Int) (x : Int), tp k (t ++ [x]) = tp k t ++ (if 0 ≤ x then [(x.toNat, k + t.length)] else [])
  | k, [], x => by
    show (if 0 ≤ x then [(x.toNat, k)] else []) = [] ++ _
    rw [List.nil_append]
    rfl
  | k, y :: r, x => by
    show (if 0 ≤ y then (y.toNat, k) :: tp (k + 1) (r ++ [x]) else tp (k + 1) (r ++ [x])) = (if 0 ≤ y then (y.toNat, k) :: tp (k + 1) r else tp (k + 1) r) ++ _
    have e : k + 1 + r.length = k + (y :: r).length := by
      rw [List.length_cons]
      omega
    rw [tp_snoc (k + 1) r x, e]
    by_cases h : 0 ≤ y
    · rw [if_pos h, if_pos h]
      rfl
    · rw [if_neg h, if_neg h]
/-! ### a row of tags that ascends, up to the end of the old text -/
structure Tagged (old : Nat) (t : List Int) : Prop where
  up : Up (tp 0 t)
  last : ∃ s, t = s ++ [(old : Int)]
theorem Tagged.len {old : Nat} {t : List Int} (h : Tagged old t) : 0 < t.length := by
  obtain ⟨s, rfl⟩ := h.last
  rw [List.length_append]
  exact Nat.succ_pos _
theorem Tagged.mem_last {old : Nat} {t : List Int} (h : Tagged old t) : (old, t.length - 1) ∈ tp 0 t := by
  obtain ⟨s, rfl⟩ := h.last
  rw [mem_tp0]
  simp
theorem Tagged.le {old : Nat} {t : List Int} (h : Tagged old t) {p : Nat × Nat} (hp : p ∈ tp 0 t) : p.1 ≤ old ∧ p.2 < t.length := by
  have h1 := h.mem_last
  have h2 := mem_tp0.mp hp
  have h3 := (List.getElem?_eq_some_iff.mp h2).1
  refine ⟨?_, h3⟩
  rcases h.up.both p hp _ h1 with e | ⟨e, _⟩ | ⟨_, e⟩
  · rw [e]
    exact Nat.le_refl _
  · exact Nat.le_of_lt e
  · simp only at e
    omega
/-- one row of tags behind another -/
def compT (t u : List Int) : List Int := u.map fun m => if 0 ≤ m then (t[m.toNat]?).getD (-1) else -1
theorem compT_len (t u : List Int) : (compT t u).length = u.length := List.length_map ..
theorem mem_compT {t u : List Int} {p : Nat × Nat} : p ∈ tp 0 (compT t u) ↔ ∃ m, (p.1, m) ∈ tp 0 t ∧ (m, p.2) ∈ tp 0 u := by
  rw [mem_tp0]
  unfold compT
  rw [List.getElem?_map]
  constructor
  · intro h
    cases e : u[p.2]? with
    | none =>
      rw [e] at h
      cases h
    | some m =>
      rw [e] at h
      have h1 : (if 0 ≤ m then (t[m.toNat]?).getD (-1) else -1) = (p.1 : Int) := Option.some.inj h
      by_cases c : 0 ≤ m
      · rw [if_pos c] at h1
        cases e2 : t[m.toNat]? with
        | none =>
          rw [e2] at h1
          have h2 : (-1 : Int) = (p.1 : Int) := h1
          omega
        | some y =>
          rw [e2] at h1
          have h2 : y = (p.1 : Int) := h1
          refine ⟨m.toNat, mem_tp0.mpr ?_, mem_tp0.mpr ?_⟩
          · show t[m.toNat]? = _
            rw [e2, h2]
          · show u[p.2]? = _
            rw [e, Int.toNat_of_nonneg c]
      · rw [if_neg c] at h1
        omega
  · rintro ⟨m, h1, h2⟩
    have h3 := mem_tp0.mp h1
    have h4 := mem_tp0.mp h2
    simp only at h3 h4
    rw [h4]
    show some (if (0 : Int) ≤ (m : Int) then (t[((m : Int)).toNat]?).getD (-1) else -1) = _
    rw [if_pos (Int.natCast_nonneg m), Int.toNat_natCast, h3]
    rfl
theorem Tagged.comp {old : Nat} {t u : List Int} (h : Tagged old t) (g : Tagged (t.length - 1) u) : Tagged old (compT t u) := by
  refine ⟨?_, ?_⟩
  · have h1 := tp_snd 0 (compT t u)
    refine h1.imp_of_mem fun {p q} hp hq l => ⟨?_, l⟩
    obtain ⟨m, a1, a2⟩ := mem_compT.mp hp
    obtain ⟨m', b1, b2⟩ := mem_compT.mp hq
    have e1 := h.up.both _ a1 _ b1
    have e2 := g.up.both _ a2 _ b2
    simp only [Prod.mk.injEq] at e1 e2
    omega
  · obtain ⟨s, hs⟩ := g.last
    refine ⟨compT t s, ?_⟩
    have h1 := h.mem_last
    have h2 := mem_tp0.mp h1
    simp only at h2
    unfold compT
    conv => lhs; rw [hs]
    rw [List.map_append]
    show _ ++ [if (0 : Int) ≤ ((t.length - 1 : Nat) : Int) then (t[(((t.length - 1 : Nat) : Int)).toNat]?).getD (-1) else -1] = _
    rw [if_pos (Int.natCast_nonneg _), Int.toNat_natCast, h2]
    rfl
/-! ### the runs of two carries, one behind the other -/
def over1 (r s : Rn) : Option Rn :=
  let b := max r.2.1 s.1
  let e := min (r.2.1 + r.2.2) (s.1 + s.2.2)
  if b < e then some (r.1 + b - r.2.1, s.2.1 + b - s.1, e - b) else none
def overL (r : Rn) (ss : List Rn) : List Rn := ss.filterMap (over1 r)
def throughL (rs ss : List Rn) : List Rn := rs.flatMap fun r => overL r ss
theorem over1_pos {r s x : Rn} (h : over1 r s = some x) : 0 < x.2.2 := by
  unfold over1 at h
  simp only at h
  split at h
  · have e := Option.some.inj h
    rw [← e]
    simp only
    omega
  · cases h
theorem mem_over1 {r s : Rn} {p : Nat × Nat} : (∃ x, over1 r s = some x ∧ p ∈ pairs1 x) ↔ ∃ m, (p.1, m) ∈ pairs1 r ∧ (m, p.2) ∈ pairs1 s := by
  obtain ⟨o, n, c⟩ := r
  obtain ⟨a, b, d⟩ := s
  obtain ⟨i, j⟩ := p
  unfold over1
  simp only [mem_pairs1]
  constructor
  · rintro ⟨x, h, h1, h2, h3⟩
    split at h
    · have e := Option.some.inj h
      subst e
      simp only at h1 h2 h3
      refine ⟨i + n - o, ?_, ?_⟩ <;> omega
    · cases h
  · rintro ⟨m, ⟨h1, h2, h3⟩, h4, h5, h6⟩
    have lt : max n a < min (n + c) (a + d) := by omega
    rw [if_pos lt]
    refine ⟨_, rfl, ?_, ?_, ?_⟩ <;> simp only <;> omega
theorem mem_throughL {rs ss : List Rn} {p : Nat × Nat} : p ∈ pairsOf (throughL rs ss) ↔ ∃ m, (p.1, m) ∈ pairsOf rs ∧ (m, p.2) ∈ pairsOf ss := by
  rw [mem_pairsOf]
  unfold throughL overL
  constructor
  · rintro ⟨x, hx, hp⟩
    rw [List.mem_flatMap] at hx
    obtain ⟨r, hr, hx⟩ := hx
    rw [List.mem_filterMap] at hx
    obtain ⟨s, hs, hx⟩ := hx
    obtain ⟨m, h1, h2⟩ := mem_over1.mp ⟨x, hx, hp⟩
    exact ⟨m, mem_pairsOf.mpr ⟨r, hr, h1⟩, mem_pairsOf.mpr ⟨s, hs, h2⟩⟩
  · rintro ⟨m, h1, h2⟩
    obtain ⟨r, hr, h1⟩ := mem_pairsOf.mp h1
    obtain ⟨s, hs, h2⟩ := mem_pairsOf.mp h2
    obtain ⟨x, hx, hp⟩ := mem_over1.mpr ⟨m, h1, h2⟩
    exact ⟨x, List.mem_flatMap.mpr ⟨r, hr, List.mem_filterMap.mpr ⟨s, hs, hx⟩⟩, hp⟩
theorem throughL_pos {rs ss : List Rn} : ∀ x ∈ throughL rs ss, 0 < x.2.2 := fun x hx => by
  obtain ⟨r, hr, hx⟩ := List.mem_flatMap.mp hx
  obtain ⟨s, hs, hx⟩ := List.mem_filterMap.mp hx
  exact over1_pos hx
theorem pairs1_up (r : Rn) : Up (pairs1 r) := by
  unfold pairs1 Up
  rw [List.pairwise_map]
  refine List.pairwise_lt_range.imp fun {a b} h => ?_
  constructor <;> simp only <;> omega
theorem throughL_snd {rs ss : List Rn} (hr : Up (pairsOf rs)) (hs : Up (pairsOf ss)) : (pairsOf (throughL rs ss)).Pairwise fun p q => p.2 < q.2 := by
  have hs2 := hs
  unfold Up pairsOf at hr hs2
  rw [List.pairwise_flatMap] at hr hs2
  have mono : ∀ {m m' j j' : Nat}, (m, j) ∈ pairsOf ss → (m', j') ∈ pairsOf ss → m < m' → j < j' := fun {m m' j j'} h1 h2 l => by
    have := hs.both _ h1 _ h2
    simp only [Prod.mk.injEq] at this
    omega
  unfold pairsOf throughL
  rw [List.flatMap_assoc, List.pairwise_flatMap]
  refine ⟨fun r hr' => ?_, hr.2.imp_of_mem fun {a b} ha hb h p hp q hq => ?_⟩
  · -- within one run
    unfold overL
    have key : ∀ (l : List Rn), (∀ s ∈ l, s ∈ ss) → l.Pairwise (fun a b => ∀ x ∈ pairs1 a, ∀ y ∈ pairs1 b, x.1 < y.1 ∧ x.2 < y.2) → ((l.filterMap (over1 r)).flatMap pairs1).Pairwise fun p q => p.2 < q.2 := by
      intro l
      induction l with
      | nil => exact fun _ _ => List.Pairwise.nil
      | cons s t ih =>
        intro h1 h2
        obtain ⟨h3, h4⟩ := List.pairwise_cons.mp h2
        have ih' := ih (fun x hx => h1 x (List.mem_cons_of_mem _ hx)) h4
        rw [List.filterMap_cons]
        cases e : over1 r s with
        | none => exact ih'
        | some x =>
          show ((x :: t.filterMap (over1 r)).flatMap pairs1).Pairwise _
          rw [List.flatMap_cons, List.pairwise_append]
          refine ⟨(pairs1_up x).imp fun h => h.2, ih', fun p hp q hq => ?_⟩
          obtain ⟨y, hy, hq⟩ := List.mem_flatMap.mp hq
          obtain ⟨s', hs', hy⟩ := List.mem_filterMap.mp hy
          obtain ⟨m, _, a2⟩ := mem_over1.mp ⟨x, e, hp⟩
          obtain ⟨m', _, b2⟩ := mem_over1.mp ⟨y, hy, hq⟩
          exact (h3 s' hs' _ a2 _ b2).2
    exact key ss (fun _ h => h) hs2.2
  · obtain ⟨x, hx, hp⟩ := List.mem_flatMap.mp hp
    obtain ⟨y, hy, hq⟩ := List.mem_flatMap.mp hq
    obtain ⟨s, hs1, hx⟩ := List.mem_filterMap.mp hx
    obtain ⟨s', hs1', hy⟩ := List.mem_filterMap.mp hy
    obtain ⟨m, a1, a2⟩ := mem_over1.mp ⟨x, hx, hp⟩
    obtain ⟨m', b1, b2⟩ := mem_over1.mp ⟨y, hy, hq⟩
    have l := h _ a1 _ b1
    exact mono (mem_pairsOf.mpr ⟨s, hs1, a2⟩) (mem_pairsOf.mpr ⟨s', hs1', b2⟩) l.2
/-- THE RUNS OF A SUM -/
theorem through_comp {old mid : Nat} {t u : List Int} (h : Tagged old t) (g : Tagged mid u) : pairsOf (throughL (canon (tp 0 t)) (canon (tp 0 u))) = tp 0 (compT t u) := by
  refine up_eq (throughL_snd (by rw [pairsOf_canon]; exact h.up) (by rw [pairsOf_canon]; exact g.up)) (tp_snd _ _) fun p => ?_
  rw [mem_throughL, pairsOf_canon, pairsOf_canon, mem_compT]
theorem sum_runs {old mid : Nat} {t u : List Int} (h : Tagged old t) (g : Tagged mid u) : joinedL (throughL (canon (tp 0 t)) (canon (tp 0 u))) = canon (tp 0 (compT t u)) := by
  rw [joined_canon throughL_pos, through_comp h g]

/-! ### one edit's carry -/
theorem compT_app (t u v : List Int) : compT t (u ++ v) = compT t u ++ compT t v := List.map_append
theorem tp_app : ∀ (k : Nat) (t u : List Int), tp k (t ++ u) = tp k t ++ tp (k + t.length) u
  | k, [], u => rfl
  | k, x :: r, u => by
    have e : k + 1 + r.length = k + (x :: r).length := by
      rw [List.length_cons]
      omega
    show (if 0 ≤ x then (x.toNat, k) :: tp (k + 1) (r ++ u) else tp (k + 1) (r ++ u)) = (if 0 ≤ x then (x.toNat, k) :: tp (k + 1) r else tp (k + 1) r) ++ _
    rw [tp_app (k + 1) r u, e]
    by_cases h : 0 ≤ x
    · rw [if_pos h, if_pos h]
      rfl
    · rw [if_neg h, if_neg h]
theorem tp_none : ∀ (m k : Nat), tp k (List.replicate m (-1)) = []
  | 0, _ => rfl
  | m + 1, k => by
    rw [List.replicate_succ]
    unfold tp
    rw [if_neg (by decide), tp_none m (k + 1)]
/-- the tags of a stretch that stays -/
def stay (b c : Nat) : List Int := (List.range c).map fun i => ((b + i : Nat) : Int)
theorem stay_len (b c : Nat) : (stay b c).length = c := by
  unfold stay
  rw [List.length_map, List.length_range]
theorem stay_succ (b c : Nat) : stay b (c + 1) = stay b c ++ [((b + c : Nat) : Int)] := by
  unfold stay
  rw [List.range_succ, List.map_append]
  rfl
theorem tp_stay (b : Nat) : ∀ (c k : Nat), tp k (stay b c) = pairs1 (b, k, c)
  | 0, _ => rfl
  | c + 1, k => by
    rw [stay_succ, pairs1_succ, tp_snoc, tp_stay b c k, stay_len, if_pos (Int.natCast_nonneg _), Int.toNat_natCast]
theorem compT_stay {t : List Int} {b c : Nat} (h : b + c ≤ t.length) : compT t (stay b c) = (t.drop b).take c := by
  refine List.ext_getElem? fun i => ?_
  unfold compT stay
  rw [List.map_map, List.getElem?_map, List.getElem?_take, List.getElem?_drop]
  by_cases hi : i < c
  · rw [if_pos hi, List.getElem?_range hi]
    show some (if (0 : Int) ≤ ((b + i : Nat) : Int) then (t[(((b + i : Nat) : Int)).toNat]?).getD (-1) else -1) = _
    rw [if_pos (Int.natCast_nonneg _), Int.toNat_natCast, List.getElem?_eq_getElem (by omega)]
    rfl
  · rw [if_neg hi, List.getElem?_eq_none (by rw [List.length_range]; omega)]
    rfl
theorem compT_none (t : List Int) (m : Nat) : compT t (List.replicate m (-1)) = List.replicate m (-1) := by
  unfold compT
  rw [List.map_replicate, if_neg (by decide)]
def oneT (mid a b m : Nat) : List Int := stay 0 a ++ List.replicate m (-1) ++ stay b (mid + 1 - b)
theorem oneT_len {mid a b m : Nat} : (oneT mid a b m).length = a + m + (mid + 1 - b) := by
  unfold oneT
  rw [List.length_append, List.length_append, stay_len, stay_len, List.length_replicate]
theorem compT_one {t : List Int} {mid a b m : Nat} (hl : t.length = mid + 1) (h1 : a ≤ b) (h2 : b ≤ mid) : compT t (oneT mid a b m) = t.take a ++ List.replicate m (-1) ++ t.drop b := by
  unfold oneT
  rw [compT_app, compT_app, compT_none, compT_stay (by omega), compT_stay (by omega), List.drop_zero]
  have e : (t.drop b).take (mid + 1 - b) = t.drop b := List.take_of_length_le (by rw [List.length_drop]; omega)
  rw [e]
theorem tp_one (mid a b m : Nat) : tp 0 (oneT mid a b m) = pairs1 (0, 0, a) ++ pairs1 (b, a + m, mid + 1 - b) := by
  unfold oneT
  rw [tp_app, tp_app, tp_none, List.append_nil, tp_stay, tp_stay, List.length_append, stay_len, List.length_replicate, Nat.zero_add]
theorem one_tagged {mid a b m : Nat} (h1 : a ≤ b) (h2 : b ≤ mid) : Tagged mid (oneT mid a b m) := by
  refine ⟨?_, ?_⟩
  · rw [tp_one]
    refine List.pairwise_append.mpr ⟨pairs1_up _, pairs1_up _, fun p hp q hq => ?_⟩
    have := mem_pairs1.mp hp
    have := mem_pairs1.mp hq
    simp only at *
    omega
  · refine ⟨stay 0 a ++ List.replicate m (-1) ++ stay b (mid - b), ?_⟩
    unfold oneT
    have e : mid + 1 - b = (mid - b) + 1 := by omega
    have e2 : b + (mid - b) = mid := by omega
    rw [e, stay_succ, e2, List.append_assoc, List.append_assoc, List.append_assoc]
/-- the pieces that an edit leaves -/
def pieces (mid a b m : Nat) : List Rn := [(0, 0, a), (b, a + m, mid + 1 - b)].filter fun r => decide (0 < r.2.2)
theorem pieces_pairs (mid a b m : Nat) : pairsOf (pieces mid a b m) = pairs1 (0, 0, a) ++ pairs1 (b, a + m, mid + 1 - b) := by
  have key : ∀ ps : List Rn, pairsOf (ps.filter fun r => decide (0 < r.2.2)) = pairsOf ps := by
    intro ps
    induction ps with
    | nil => rfl
    | cons r t ih =>
      obtain ⟨o, n, c⟩ := r
      rw [List.filter_cons]
      by_cases h : 0 < c
      · rw [if_pos (show decide (0 < c) = true from decide_eq_true h)]
        show pairs1 _ ++ pairsOf _ = pairs1 _ ++ pairsOf t
        rw [ih]
      · have h0 : c = 0 := by omega
        subst h0
        rw [if_neg (by simp), ih]
        rfl
  unfold pieces
  rw [key]
  show pairs1 _ ++ (pairs1 _ ++ []) = _
  rw [List.append_nil]
theorem pieces_runs (mid a b m : Nat) : joinedL (pieces mid a b m) = canon (tp 0 (oneT mid a b m)) := by
  rw [joined_canon, pieces_pairs, tp_one]
  intro r hr
  exact of_decide_eq_true (List.mem_filter.mp hr).2
theorem whole_runs (n : Nat) : [((0, 0, n + 1) : Rn)] = canon (tp 0 (stay 0 (n + 1))) := by
  rw [tp_stay]
  have h := joined_canon (ps := [((0, 0, n + 1) : Rn)]) (by
    intro r hr
    rw [List.mem_singleton.mp hr]
    exact Nat.succ_pos _)
  show joinedL [(0, 0, n + 1)] = _
  rw [h]
  show canon (pairs1 (0, 0, n + 1) ++ []) = _
  rw [List.append_nil]
theorem whole_tagged (n : Nat) : Tagged n (stay 0 (n + 1)) := by
  refine ⟨?_, stay 0 n, ?_⟩
  · rw [tp_stay]
    exact pairs1_up _
  · rw [stay_succ, Nat.zero_add]
/-- one edit more -/
theorem Tagged.edit {old mid a b : Nat} {t : List Int} (m : Nat) (h : Tagged old t) (hl : t.length = mid + 1) (h1 : a ≤ b) (h2 : b ≤ mid) :
    Tagged old (t.take a ++ List.replicate m (-1) ++ t.drop b) ∧ joinedL (throughL (canon (tp 0 t)) (joinedL (pieces mid a b m))) = canon (tp 0 (t.take a ++ List.replicate m (-1) ++ t.drop b)) ∧ (t.take a ++ List.replicate m (-1) ++ t.drop b).length = mid - b + a + m + 1 := by
  have e : t.length - 1 = mid := by omega
  have g : Tagged (t.length - 1) (oneT mid a b m) := by
    rw [e]
    exact one_tagged h1 h2
  rw [← compT_one hl h1 h2]
  refine ⟨h.comp g, ?_, ?_⟩
  · rw [pieces_runs]
    exact sum_runs h g
  · rw [compT_len, oneT_len]
    omega

/-! ### ascending runs -/
def AscR (rs : List Rn) : Prop := rs.Pairwise fun a b => a.1 + a.2.2 ≤ b.1 ∧ a.2.1 + a.2.2 ≤ b.2.1
def PosR (rs : List Rn) : Prop := ∀ r ∈ rs, 0 < r.2.2
theorem asc_of {rs : List Rn} (h : Up (pairsOf rs)) (p : PosR rs) : AscR rs := by
  unfold Up pairsOf at h
  rw [List.pairwise_flatMap] at h
  refine h.2.imp_of_mem fun {a b} ha hb k => ?_
  have p1 := p a ha
  have p2 := p b hb
  have h1 : (a.1 + (a.2.2 - 1), a.2.1 + (a.2.2 - 1)) ∈ pairs1 a := mem_pairs1.mpr ⟨by simp only; omega, by simp only; omega, by simp only; omega⟩
  have h2 : (b.1, b.2.1) ∈ pairs1 b := mem_pairs1.mpr ⟨by simp only; omega, by simp only; omega, by simp only; omega⟩
  have := k _ h1 _ h2
  simp only at this
  omega
theorem AscR.get {rs : List Rn} (h : AscR rs) {i j : Nat} {a b : Rn} (hi : rs[i]? = some a) (hj : rs[j]? = some b) (l : i < j) : a.1 + a.2.2 ≤ b.1 ∧ a.2.1 + a.2.2 ≤ b.2.1 := by
  obtain ⟨h1, e1⟩ := List.getElem?_eq_some_iff.mp hi
  obtain ⟨h2, e2⟩ := List.getElem?_eq_some_iff.mp hj
  have := List.pairwise_iff_getElem.mp h i j h1 h2 l
  rw [e1, e2] at this
  exact this
theorem overL_snoc (r : Rn) (ss : List Rn) (s : Rn) : overL r (ss ++ [s]) = overL r ss ++ (match over1 r s with | some x => [x] | none => []) := by
  unfold overL
  rw [List.filterMap_append]
  congr 1
  rw [List.filterMap_cons]
  cases over1 r s <;> rfl
theorem over1_none {r s : Rn} (h : s.1 + s.2.2 ≤ r.2.1 ∨ r.2.1 + r.2.2 ≤ s.1) : over1 r s = none := by
  unfold over1
  simp only
  rw [if_neg (by omega)]
theorem overL_none {r : Rn} {ss : List Rn} (h : ∀ s ∈ ss, s.1 + s.2.2 ≤ r.2.1 ∨ r.2.1 + r.2.2 ≤ s.1) : overL r ss = [] := by
  unfold overL
  rw [List.filterMap_eq_nil_iff]
  exact fun s hs => over1_none (h s hs)
theorem over1_some {r s : Rn} (h1 : s.1 < r.2.1 + r.2.2) (h2 : r.2.1 < s.1 + s.2.2) (p1 : 0 < r.2.2) (p2 : 0 < s.2.2) :
    over1 r s = some (r.1 + max r.2.1 s.1 - r.2.1, s.2.1 + max r.2.1 s.1 - s.1, min (r.2.1 + r.2.2) (s.1 + s.2.2) - max r.2.1 s.1) := by
  unfold over1
  simp only
  rw [if_pos (by omega)]
theorem overL_all {r : Rn} {ss : List Rn} {i : Nat} (h : ∀ j s, i ≤ j → ss[j]? = some s → r.2.1 + r.2.2 ≤ s.1) : overL r ss = overL r (ss.take i) := by
  have e : overL r ss = overL r (ss.take i) ++ overL r (ss.drop i) := by
    unfold overL
    rw [← List.filterMap_append, List.take_append_drop]
  have e2 : overL r (ss.drop i) = [] := overL_none fun s hs => .inr (by
    obtain ⟨j, hj⟩ := List.getElem?_of_mem hs
    rw [List.getElem?_drop] at hj
    exact h (i + j) s (Nat.le_add_right _ _) hj)
  rw [e, e2, List.append_nil]
theorem throughL_snoc (rs ss : List Rn) (r : Rn) : throughL (rs ++ [r]) ss = throughL rs ss ++ overL r ss := by
  unfold throughL
  rw [List.flatMap_append]
  congr 1
  show overL r ss ++ [] = _
  rw [List.append_nil]
theorem throughL_take (rs ss : List Rn) (i : Nat) : (throughL (rs.take i) ss).length ≤ (throughL rs ss).length := by
  have e : throughL rs ss = throughL (rs.take i) ss ++ throughL (rs.drop i) ss := by
    unfold throughL
    rw [← List.flatMap_append, List.take_append_drop]
  rw [e, List.length_append]
  omega
theorem overL_take (r : Rn) (ss : List Rn) (i : Nat) : (overL r (ss.take i)).length ≤ (overL r ss).length := by
  have e : overL r ss = overL r (ss.take i) ++ overL r (ss.drop i) := by
    unfold overL
    rw [← List.filterMap_append, List.take_append_drop]
  rw [e, List.length_append]
  omega
/-- pieces have a pair each -/
theorem len_pairs : ∀ {ps : List Rn}, PosR ps → ps.length ≤ (pairsOf ps).length
  | [], _ => Nat.le_refl _
  | r :: t, h => by
    have ih := len_pairs (ps := t) fun x hx => h x (List.mem_cons_of_mem _ hx)
    have h1 := h r List.mem_cons_self
    show t.length + 1 ≤ (pairs1 r ++ pairsOf t).length
    have h2 : (pairs1 r).length = r.2.2 := by
      unfold pairs1
      rw [List.length_map, List.length_range]
    rw [List.length_append, h2]
    omega
theorem tp_len : ∀ (k : Nat) (t : List Int), (tp k t).length ≤ t.length
  | _, [] => Nat.le_refl _
  | k, x :: r => by
    have ih := tp_len (k + 1) r
    unfold tp
    split
    · rw [List.length_cons, List.length_cons]
      omega
    · rw [List.length_cons]
      omega

def okNum (v : V) : Prop := ∃ n : Int, v = .int n ∧ 0 ≤ n ∧ n ≤ 100000

/-! ### the error's making -/
theorem log_small {i : Int} (h0 : 0 ≤ i) (h : i ≤ 1000000) : i.natAbs.log2 < 1920 := by
  have h1 : i.natAbs ≤ 1000000 := by omega
  have h2 : i.natAbs < 2 ^ 1920 := Nat.lt_of_le_of_lt h1 (by decide +kernel)
  by_cases hz : i.natAbs = 0
  · rw [hz]
    decide +kernel
  · exact (Nat.log2_lt hz).mpr h2
theorem ok_EditError_init (T : Txt K mg) : FnOk P w K mg base CX0 2 T.a_EditError_init T.fd_EditError_init ["self", "index"] (spInit1 "index" T.C_EditError okNum) := by
  refine T.F_EditError_init.ok sc_EditError_init (fun vs H Q E h => ?_) (fun cdv A outer s H vs Q E hr h => ?_)
  · obtain ⟨a, v, rfl, _⟩ := h
    rfl
  · obtain ⟨a, v, rfl, ⟨n, rfl, n0, n1⟩, ha, q⟩ := h
    refine ⟨_, (pss_cons (ps_expr (pe_baseInit (by rfl) T.G_MendedError T.B_MendedError (pa_cons (pv 0) (pa_cons (pe_joined (.cons pe_str (.cons (pe_fmt (pv 1)) (.cons pe_str .nil)))) pa_nil))))
      (pss_one (ps_ost (pv 0) (pv 1)))), ?_⟩
    have big : sizeLine = 2 ^ 24 := rfl
    have ln := PyProof.Rows.int_text_len_1921 (log_small n0 (by omega))
    refine ⟨_, rfl, _, rfl, ?_, _, rfl, .inr ⟨n, rfl, log_small n0 (by omega), _, rfl, ?_, _, rfl, ?_, ?_⟩⟩
    · rw [strLen_append, big]
      show 0 + 9 ≤ _
      omega
    · rw [strLen_append, strLen_append, big]
      show 0 + 9 + (Str.ofString (toString n)).length ≤ _
      omega
    · rw [strLen_append, strLen_append, strLen_append, big]
      show 0 + 9 + (Str.ofString (toString n)).length + 13 ≤ _
      omega
    refine ⟨a, _, _, rfl, by show 1 ≤ 1000; decide, T.E_EditError.oex, ha, ?_⟩
    refine ⟨_, rfl, _, rfl, a, _, rfl, T.E_EditError.oex, T.n_EditError_index, .inl ⟨ha, fun dx nd hne => ?_⟩⟩
    exact q dx nd hne

/-! ### the first edit that does not fit -/
def unfitV (n : Nat) (es : List Ed) : V := match unfit n es with
  | some k => .int (k : Int)
  | none => .non
def spFU : Sp := fun vs H Q _ => ∃ (n : Nat) (l : Addr) (es : List Ed), vs = [.int (n : Int), .ref l] ∧ EdsAt H l es ∧ Sized es ∧ es.length ≤ 2000 ∧ ∀ H', Same H H' → Q (unfitV n es) H'
theorem ok_first_misfit (T : Txt K mg) : FnOk P w K mg base CX0 2 T.a_first_misfit T.fd_first_misfit ["length", "edits"] spFU := by
  refine T.F_first_misfit.ok sc_first_misfit (fun vs H Q E h => ?_) (fun cdv A outer s H vs Q E hr h => ?_)
  · obtain ⟨n, l, es, rfl, _⟩ := h
    rfl
  · obtain ⟨n, l, es, rfl, hE, hS, hn, q⟩ := h
    obtain ⟨us, hus, hue⟩ := id hE
    have lu := paired_len hue
    refine ⟨_, (pss_cons (ps_for PassesOwn.never rfl (pi_enum (by rfl) T.m_enumerate (pa_cons (pv 1) pa_nil)) (pg_tup (by rfl) (pgs_cons (pg_name (i := 2) sc_first_misfit.nd rfl (.inl rfl)) (pgs_cons (pg_tup (by rfl) (pgs_cons (pg_name (i := 3) sc_first_misfit.nd rfl (.inl rfl)) (pgs_cons (pg_name (i := 4) sc_first_misfit.nd rfl (.inl rfl)) (pgs_cons (pg_name (i := 5) sc_first_misfit.nd rfl (.inl rfl)) pgs_nil)))) pgs_nil))) (pss_cons (ps_if (PW.pt (pw_or (pt_cmpR op_lt (pv 3) pe_int (nomark _)) (pw_or (pt_cmpR op_lt (pv 4) (pv 3) (nomark _)) (pw_or1 (pt_cmpR op_gt (pv 4) (pv 0) (nomark _)))))) (pss_one (ps_ret (pv 2))) pss_nil)
      (pss_one (ps_set (i := 0) sc_first_misfit.nd rfl (.inl rfl) (pe_op op_sub (pe_op op_add (pv 0) (pe_callB call_len_str (by rfl) T.m_len PySem.boot_len (pa_cons (pv 5) pa_nil))) (pe_op op_sub (pv 4) (pv 3)))))))
      (pss_one (ps_ret pe_non))), ?_⟩
    refine ⟨_, rfl, l, us, rfl, SqL.of hus, ?_⟩
    refine for_enumS (K := K) (a := l) (xs := us) (fun i σ H' => Same H H' ∧ fitsL n (es.take i) ∧ ∃ y3 y4 y5 y6 : Option V, σ = [some (.int ((sizeL n (es.take i) : Nat) : Int)), some (.ref l), y3, y4, y5, y6])
      ⟨Same.refl _, True.intro, none, none, none, none, rfl⟩ (fun i σ H' _ ⟨s, _⟩ => SqL.of (s _ _ hus)) ?_ ?_
    · rintro i x t σ H1 hx ⟨sm, hf, y3, y4, y5, y6, rfl⟩ nt
      obtain ⟨e, he⟩ : ∃ e, es[i]? = some e := ⟨_, List.getElem?_eq_getElem (by rw [← lu]; exact (List.getElem?_eq_some_iff.mp hx).1)⟩
      obtain ⟨x', hx', te, rfl, hte⟩ := paired_get hue he
      rw [hx] at hx'
      have h1 := Option.some.inj hx'
      subst h1
      have len2 := (hS e (List.mem_of_getElem? he)).1
      have l2 : e.2.2.length ≤ 4000000 := by rw [len_cs]; exact len2
      have s1 := sm.trans (same_upd (o := .tup [.int ((i : Nat) : Int), .ref te]) nt)
      refine ⟨t, _, rfl, SqT.of upd_same, rfl, _, _, rfl, _, _, rfl, te, _, rfl, SqT.of (s1 _ _ hte), rfl, _, _, rfl, _, _, rfl, _, _, rfl, rfl, rfl, ?_⟩
      have bad : ¬ fit1 (sizeL n (es.take i)) e → Q (.int (i : Int)) (upd H1 t (.tup [.int ((i : Nat) : Int), .ref te])) := fun h => by
        have h1 := unfit_here hf he h
        have h2 : unfitV n es = .int (i : Int) := by
          unfold unfitV
          rw [h1]
        have h3 := q _ s1
        rw [h2] at h3
        exact h3
      refine ⟨_, rfl, e.1, 0, rfl, rfl, _, rfl, ite2 (fun c => ?_) (fun c => ?_)⟩
      · refine iteT ⟨_, rfl, bad fun f => ?_⟩
        have := of_decide_eq_true c
        have := f.1
        omega
      · refine ⟨_, rfl, _, rfl, e.2.1, e.1, rfl, rfl, _, rfl, ite2 (fun c2 => ?_) (fun c2 => ?_)⟩
        · refine iteT ⟨_, rfl, bad fun f => ?_⟩
          have := of_decide_eq_true c2
          have := f.2.1
          omega
        · refine ⟨_, rfl, _, rfl, e.2.1, _, rfl, rfl, _, rfl, ite2 (fun c3 => ?_) (fun c3 => ?_)⟩
          · refine ⟨_, rfl, bad fun f => ?_⟩
            have := of_decide_eq_true c3
            have := f.2.2
            omega
          · have f1 : fit1 (sizeL n (es.take i)) e := by
              have g1 : ¬ e.1 < 0 := fun h => c (decide_eq_true h)
              have g2 : ¬ e.2.1 < e.1 := fun h => c2 (decide_eq_true h)
              have g3 : ¬ ((sizeL n (es.take i) : Nat) : Int) < e.2.1 := fun h => c3 (decide_eq_true h)
              refine And.intro ?_ (And.intro ?_ ?_) <;> omega
            refine ⟨_, rfl, _, rfl, _, rfl, szM (by omega), _, _, rfl, rfl, _, rfl, _, rfl, _, _, rfl, rfl, _, _, rfl, rfl, ?_⟩
            have e3 : ((sizeL n (es.take i) : Nat) : Int) + (e.2.2.length : Int) - (e.2.1 - e.1) = ((sizeL n (es.take (i + 1)) : Nat) : Int) := by
              obtain ⟨a1, a2, a3⟩ := f1
              rw [take_more he, sizeL_snoc]
              have v4 : size1 (sizeL n (es.take i)) e = sizeL n (es.take i) - (e.2.1.toNat - e.1.toNat) + (cs e.2.2).length := rfl
              have v5 := len_cs e.2.2
              omega
            refine ⟨s1, ?_, some (.int ((i : Nat) : Int)), some (.int e.1), some (.int e.2.1), some (.str e.2.2), ?_⟩
            · rw [take_more he]
              exact (fitsL_snoc _ _ _).mpr ⟨hf, f1⟩
            · rw [← e3]
              rfl
    · rintro σ H1 ⟨sm, hf, y3, y4, y5, y6, rfl⟩
      rw [lu, List.take_length] at hf
      have h1 : unfitV n es = .non := by
        unfold unfitV
        rw [unfit_none.mpr hf]
      rw [h1] at q
      exact q _ sm
/-! ### check -/
def spCheck (C : Addr) : Sp := fun vs H Q E => ∃ (n : Nat) (l : Addr) (es : List Ed), vs = [.int (n : Int), .ref l] ∧ EdsAt H l es ∧ Sized es ∧ es.length ≤ 2000 ∧ (fitsL n es → ∀ H', Same H H' → Q .non H') ∧ (∀ k, unfit n es = some k → ErrAt C H E k)
theorem ok_check_fits (T : Txt K mg) : FnOk P w K mg base (L2.CX P w) 4 T.a_check_fits T.fd_check_fits ["length", "edits"] (spCheck T.C_EditError) := by
  have G_first_misfit : FnOk P w K mg base CX0 2 T.a_first_misfit T.fd_first_misfit ["length", "edits"] spFU := ok_first_misfit T
  have G_EditError_init : FnOk P w K mg base CX0 2 T.a_EditError_init T.fd_EditError_init ["self", "index"] (spInit1 "index" T.C_EditError okNum) := ok_EditError_init T
  refine T.F_check_fits.okX sc_check_fits (fun vs H Q E h => ?_) (fun cdv A outer s H vs Q E hr h => ?_)
  · obtain ⟨n, l, es, rfl, _⟩ := h
    rfl
  · have hr_first_misfit : Room 2 _ := hr.mono (by decide)
    have hr_EditError_init : Room 3 _ := hr
    obtain ⟨n, l, es, rfl, hE, hS, hn, q1, q2⟩ := h
    refine ⟨_, (pss_cons (ps_set (i := 2) sc_check_fits.nd rfl (.inl rfl) (pe_call G_first_misfit hr_first_misfit (by rfl) T.g_first_misfit T.F_first_misfit.kp T.b_first_misfit .nil pass0 (pa_cons (pv 0) (pa_cons (pv 1) pa_nil))))
      (pss_one (ps_if (pt_cmpR op_notN (pv 2) pe_non (nomark _)) (pss_one (ps_raise rfl (takes_of rfl rfl rfl rfl) (pmk_oex T.E_EditError.oex T.E_EditError.iC T.E_EditError.tI G_EditError_init hr_EditError_init T.b_EditError_init .nil pass0 (by rfl) T.E_EditError.g (pa_cons (pv 2) pa_nil)))) pss_nil))), ?_⟩
    refine ⟨_, rfl, _, rfl, n, l, es, rfl, hE, hS, hn, fun H1 s1 => ?_⟩
    cases hun : unfit n es with
    | none =>
      have e1 : unfitV n es = .non := by unfold unfitV; rw [hun]
      rw [e1]
      refine ⟨_, rfl, rfl, _, rfl, iteF ?_⟩
      exact q1 (unfit_none.mp hun) _ s1
    | some k =>
      obtain ⟨_, hkl⟩ := unfit_take hun
      have e1 : unfitV n es = .int (k : Int) := by unfold unfitV; rw [hun]
      rw [e1]
      refine ⟨_, rfl, rfl, _, rfl, iteT ?_⟩
      refine mk1 (ta := tCons (tVar 2) tNil) (f := "index") (ok := okNum) ?_ ?_
      · refine ⟨_, rfl, .int (k : Int), rfl, ⟨_, rfl, by omega, by omega⟩, fun d H' sm nd hd => ?_⟩
        have nd0 : H d = none := by
          cases e : H d with
          | none => rfl
          | some o =>
            rw [s1 _ _ e] at nd
            cases nd
        exact q2 k hun d H' (s1.trans sm) nd0 hd
      · rintro Q1 Q2 h ⟨x, e1, q⟩
        exact ⟨x, e1, h _ _ q⟩

theorem ix_tupK {X : Cx} {K : PySem.W.Frag} (h : X.K = K) : IxR X (rIxT K) := by
  subst h
  exact ix_tup
theorem ix_listK {X : Cx} {K : PySem.W.Frag} (h : X.K = K) : IxR X (rIxL K) := by
  subst h
  exact ix_list
theorem call_len_seqK {X : Cx} {K : PySem.W.Frag} (h : X.K = K) : CallR X (.builtin "len") (fun xs H Q => ∃ p ys, xs = [V.ref p] ∧ (SqL K H p ys ∨ SqT K H p ys) ∧ Q (.int (ys.length : Int)) H) := by
  subst h
  exact call_len_seq
/-! ### runs and carries, where they stand -/
def RnAt (H : Hp) (v : V) (r : Rn) : Prop := ∃ t, v = .ref t ∧ H t = some (.tup [.int (r.1 : Int), .int (r.2.1 : Int), .int (r.2.2 : Int)])
theorem RnAt.mono {H H' : Hp} {v : V} {r : Rn} (t : Tups H H') (h : RnAt H v r) : RnAt H' v r := by
  obtain ⟨p, e, k⟩ := h
  exact ⟨p, e, t _ _ k⟩
abbrev RnsIn (H : Hp) : List V → List Rn → Prop := Paired (RnAt H)
theorem RnsIn.mono {H H' : Hp} {vs : List V} {rs : List Rn} (t : Tups H H') (h : RnsIn H vs rs) : RnsIn H' vs rs := Paired.mapP h fun _ _ => RnAt.mono t
/-- a tuple of runs -/
def RnsT (H : Hp) (t : Addr) (rs : List Rn) : Prop := ∃ us, H t = some (.tup us) ∧ RnsIn H us rs
theorem RnsT.mono {H H' : Hp} {t : Addr} {rs : List Rn} (s : Tups H H') (h : RnsT H t rs) : RnsT H' t rs := by
  obtain ⟨us, h1, h2⟩ := h
  exact ⟨us, s _ _ h1, h2.mono s⟩
theorem same_tups {H H' : Hp} (s : Same H H') : Tups H H' := fun b xs h => s b _ h
theorem kOR : ¬ (("old" : Str) = "runs") := by decide +kernel
theorem kON : ¬ (("old" : Str) = "new") := by decide +kernel
theorem kNR : ¬ (("new" : Str) = "runs") := by decide +kernel
/-- the attributes of a carry -/
def cfl (a b : Int) (t : Addr) : List (Str × V) := putF "runs" (.ref t) (putF "new" (.int b) (putF "old" (.int a) []))
theorem cfl_runs (a b : Int) (t : Addr) : (cfl a b t).lookup ("runs" : Str) = some (.ref t) := by
  unfold cfl
  rw [lookup_putF, if_pos rfl]
theorem cfl_new (a b : Int) (t : Addr) : (cfl a b t).lookup ("new" : Str) = some (.int b) := by
  unfold cfl
  rw [lookup_putF, if_neg kNR, lookup_putF, if_pos rfl]
theorem cfl_old (a b : Int) (t : Addr) : (cfl a b t).lookup ("old" : Str) = some (.int a) := by
  unfold cfl
  rw [lookup_putF, if_neg kOR, lookup_putF, if_neg kON, lookup_putF, if_pos rfl]
theorem cfl_no (a b : Int) (t : Addr) {m : Str} (h1 : ¬ m = "runs") (h2 : ¬ m = "new") (h3 : ¬ m = "old") : (cfl a b t).lookup m = none := by
  unfold cfl
  rw [lookup_putF, if_neg h1, lookup_putF, if_neg h2, lookup_putF, if_neg h3]
  rfl
theorem putF_len (f : Str) (v : V) : ∀ fs : List (Str × V), (putF f v fs).length ≤ fs.length + 1
  | [] => Nat.le_refl _
  | (g, u) :: r => by
    have ih := putF_len f v r
    show (if g = f then _ else _ : List (Str × V)).length ≤ _
    split
    · rw [List.length_cons, List.length_cons]
      omega
    · rw [List.length_cons, List.length_cons]
      omega
/-- a carry with its two lengths and the place of its runs -/
def CarryAt (C : Addr) (H : Hp) (p : Addr) (a b : Int) (t : Addr) : Prop := ∃ dx, H p = some (.ins C dx (cfl a b t))
def CarryR (C : Addr) (H : Hp) (p : Addr) (a b : Nat) (rs : List Rn) : Prop := ∃ t, CarryAt C H p (a : Int) (b : Int) t ∧ RnsT H t rs
theorem CarryAt.same {C : Addr} {H H' : Hp} {p t : Addr} {a b : Int} (s : Same H H') (h : CarryAt C H p a b t) : CarryAt C H' p a b t := by
  obtain ⟨dx, h⟩ := h
  exact ⟨dx, s _ _ h⟩
theorem CarryR.same {C : Addr} {H H' : Hp} {p : Addr} {a b : Nat} {rs : List Rn} (s : Same H H') (h : CarryR C H p a b rs) : CarryR C H' p a b rs := by
  obtain ⟨t, h1, h2⟩ := h
  exact ⟨t, h1.same s, h2.mono (same_tups s)⟩
/-! ### Carry(..) -/
def spCInit (C : Addr) : Sp := fun vs H Q _ => ∃ (p dx t : Addr) (a b : Int), vs = [.ref p, .int a, .int b, .ref t] ∧ H p = some (.ins C dx []) ∧ Q .non (upd H p (.ins C dx (cfl a b t)))
theorem ok_Carry_init (T : Txt K mg) : FnOk P w K mg base CX0 1 T.a_Carry_init T.fd_Carry_init ["self", "old", "new", "runs"] (spCInit T.C_Carry) := by
  refine T.F_Carry_init.ok sc_Carry_init (fun vs H Q E h => ?_) (fun cdv A outer s H vs Q E hr h => ?_)
  · obtain ⟨p, dx, t, a, b, rfl, _⟩ := h
    rfl
  · obtain ⟨p, dx, t, a, b, rfl, hp, q⟩ := h
    refine ⟨_, (pss_cons (ps_fld (pv 0) (pv 1) rfl)
      (pss_cons (ps_fld (pv 0) (pv 2) rfl)
      (pss_one (ps_fld (pv 0) (pv 3) rfl)))), ?_⟩
    refine ⟨_, rfl, _, rfl, p, T.C_Carry, dx, _, rfl, hp, T.CL_Carry, T.NA_Carry_old, by show 0 < 1000; decide, ?_⟩
    refine ⟨_, rfl, _, rfl, p, T.C_Carry, dx, _, rfl, upd_same, T.CL_Carry, T.NA_Carry_new, by show 1 < 1000; decide, ?_⟩
    refine ⟨_, rfl, _, rfl, p, T.C_Carry, dx, _, rfl, upd_same, T.CL_Carry, T.NA_Carry_runs, ?_, ?_⟩
    · have h1 := putF_len "new" (.int b) (putF "old" (.int a) [])
      have h2 := putF_len "old" (.int a) []
      have h3 : ([] : List (Str × V)).length = 0 := rfl
      omega
    rw [upd_upd, upd_upd]
    exact q
/-- what a new carry leaves -/
theorem made_same {H : Hp} {x dx C : Addr} {fs : List (Str × V)} (nx : H x = none) (nd : H dx = none) : Same H (upd (upd H dx (.own x)) x (.ins C dx fs)) := fun b o e => by
  rw [upd_ne (ne_of_none e nx), upd_ne (ne_of_none e nd)]
  exact e
theorem make_carry {C : Addr} {H : Hp} {Q : VK} {E : XK} {a b : Int} {t : Addr} (k : ∀ x dx, H x = none → Q (.ref x) (upd (upd H dx (.own x)) x (.ins C dx (cfl a b t))) ∨ H dx ≠ none) (x dx : Addr) (nx : H x = none) (nd : H dx = none) (_ : dx ≠ x) :
    spCInit C [.ref x, .int a, .int b, .ref t] (upd (upd H dx (.own x)) x (.ins C dx [])) (fun v H2 => v = .non ∧ Q (.ref x) H2) E := by
  refine ⟨x, dx, t, a, b, rfl, upd_same, rfl, ?_⟩
  rw [upd_upd]
  rcases k x dx nx with h | h
  · exact h
  · exact absurd nd h

/-! ### iter(carry) -/
def TAc (C : Addr) (p : Addr) (H : Hp) (t : Addr) (_ : List V) : Prop := ∃ dx a b, H p = some (.ins C dx (cfl a b t))
theorem it_Carry___iter__ (T : Txt K mg) : OwnOp.ItBody P w K mg base ["self"] "Carry.__iter__" s_Carry___iter__ T.a_Carry___iter__ 0 (TAc T.C_Carry) := by
  intro cdv A outer s H p t xs Q E hr ht hq k
  obtain ⟨dx, a, b, hp⟩ := ht
  refine ⟨_, (pss_one (ps_ret (pe_callB OwnOp.call_iterTN (by rfl) T.m_iter (by decide +kernel) (pa_cons (pe_fld (pv 0) rfl) pa_nil)))), ?_⟩
  exact ⟨_, rfl, p, T.C_Carry, dx, _, _, rfl, hp, T.CL_Carry, T.NA_Carry_runs, cfl_runs _ _ _, t, xs, rfl, hq, k⟩

/-! ### _joined -/
def RnsL (H : Hp) (l : Addr) (rs : List Rn) : Prop := ∃ us, H l = some (.lst us) ∧ RnsIn H us rs
theorem RnsL.same {H H' : Hp} {l : Addr} {rs : List Rn} (s : Same H H') (h : RnsL H l rs) : RnsL H' l rs := by
  obtain ⟨us, h1, h2⟩ := h
  exact ⟨us, s _ _ h1, h2.mono (same_tups s)⟩
theorem joinR_len (acc : List Rn) (r : Rn) : (joinR acc r).length ≤ acc.length + 1 := by
  cases acc with
  | nil => exact Nat.le_refl _
  | cons x t =>
    obtain ⟨a, b, d⟩ := x
    obtain ⟨o, n, c⟩ := r
    show (if a + d = o ∧ b + d = n then (a, b, d + c) :: t else (o, n, c) :: (a, b, d) :: t).length ≤ t.length + 1 + 1
    split
    · exact Nat.le_succ _
    · exact Nat.le_refl _
theorem joinF_len : ∀ (ps acc : List Rn), (ps.foldl joinR acc).length ≤ acc.length + ps.length
  | [], acc => Nat.le_refl _
  | r :: t, acc => by
    have h1 := joinF_len t (joinR acc r)
    have h2 := joinR_len acc r
    show (t.foldl joinR (joinR acc r)).length ≤ acc.length + (t.length + 1)
    omega
theorem fold_snoc (ps : List Rn) (r : Rn) (acc : List Rn) : (ps ++ [r]).foldl joinR acc = joinR (ps.foldl joinR acc) r := by
  rw [List.foldl_append]
  rfl
theorem rns_split {H : Hp} {ws : List V} {x : Rn} {t : List Rn} (h : RnsIn H ws (x :: t).reverse) : ∃ ws' p, ws = ws' ++ [.ref p] ∧ RnsIn H ws' t.reverse ∧ H p = some (.tup [.int (x.1 : Int), .int (x.2.1 : Int), .int (x.2.2 : Int)]) := by
  rw [List.reverse_cons] at h
  have hl := paired_len h
  rw [List.length_append] at hl
  have hl' : ws.length = t.reverse.length + 1 := hl
  have h1 := paired_take t.reverse.length h
  have h2 := paired_drop t.reverse.length h
  rw [List.take_left] at h1
  rw [List.drop_left] at h2
  generalize e : ws.drop t.reverse.length = d at h2
  cases h2 with
  | cons r nl =>
    cases nl
    obtain ⟨p, rfl, hp⟩ := r
    exact ⟨_, p, by rw [← e, List.take_append_drop], h1, hp⟩
theorem set_last {α : Type} (xs : List α) (v w : α) : (xs ++ [v]).set xs.length w = xs ++ [w] := by
  rw [List.set_append_right _ _ (Nat.le_refl _), Nat.sub_self]
  rfl
theorem ix_last {α : Type} (xs : List α) (v : α) : ixN (xs ++ [v]).length (-1) = some xs.length := by
  have hl : (xs ++ [v]).length = xs.length + 1 := by simp
  unfold ixN
  rw [hl, if_neg (by decide), if_pos (by omega)]
  have : -1 + ((xs.length + 1 : Nat) : Int) = (xs.length : Int) := by omega
  rw [this]
  rfl
def spJoined : Sp := fun vs H Q _ => ∃ (l : Addr) (ps : List Rn), vs = [.ref l] ∧ RnsL H l ps ∧ ps.length ≤ 4000000 ∧ ∀ t H', Same H H' → H t = none → RnsT H' t (joinedL ps) → Q (.ref t) H'
theorem ok_joined (T : Txt K mg) : FnOk P w K mg base CX0 1 T.a_joined_runs T.fd_joined_runs ["pieces"] spJoined := by
  refine T.F_joined_runs.ok sc_joined_runs (fun vs H Q E h => ?_) (fun cdv A outer s H vs Q E hr h => ?_)
  · obtain ⟨l, ps, rfl, _⟩ := h
    rfl
  · obtain ⟨l, ps, rfl, ⟨us, hl, hu⟩, hn, q⟩ := h
    have lu := paired_len hu
    refine ⟨_, (pss_cons (ps_set (i := 1) sc_joined_runs.nd rfl (.inl rfl) (pe_lst pa_nil))
      (pss_cons (ps_for PassesOwn.never rfl (pi_list (pv 0)) (pg_tup (by rfl) (pgs_cons (pg_name (i := 2) sc_joined_runs.nd rfl (.inl rfl)) (pgs_cons (pg_name (i := 3) sc_joined_runs.nd rfl (.inl rfl)) (pgs_cons (pg_name (i := 4) sc_joined_runs.nd rfl (.inl rfl)) pgs_nil)))) (pss_one (ps_if (PW.pt (pw_and (pt_truth (pv 1) (by intro _; rfl)) (pw_and (pt_cmpR op_eq (pe_op op_add (pe_ix ix_tup (pe_ix ix_list (pv 1) (pe_un un_neg pe_int) (fun _ _ => rfl)) pe_int (fun _ _ => rfl)) (pe_ix ix_tup (pe_ix ix_list (pv 1) (pe_un un_neg pe_int) (fun _ _ => rfl)) pe_int (fun _ _ => rfl))) (pv 2) (nomark _)) (pw_and1 (pt_cmpR op_eq (pe_op op_add (pe_ix ix_tup (pe_ix ix_list (pv 1) (pe_un un_neg pe_int) (fun _ _ => rfl)) pe_int (fun _ _ => rfl)) (pe_ix ix_tup (pe_ix ix_list (pv 1) (pe_un un_neg pe_int) (fun _ _ => rfl)) pe_int (fun _ _ => rfl))) (pv 3) (nomark _)))))) (pss_one (ps_asg (pe_tup (pa_cons (pe_ix ix_tup (pe_ix ix_list (pv 1) (pe_un un_neg pe_int) (fun _ _ => rfl)) pe_int (fun _ _ => rfl)) (pa_cons (pe_ix ix_tup (pe_ix ix_list (pv 1) (pe_un un_neg pe_int) (fun _ _ => rfl)) pe_int (fun _ _ => rfl)) (pa_cons (pe_op op_add (pe_ix ix_tup (pe_ix ix_list (pv 1) (pe_un un_neg pe_int) (fun _ _ => rfl)) pe_int (fun _ _ => rfl)) (pv 4)) pa_nil)))) (pg_sub (pv 1) (pe_un un_neg pe_int) set_list))) (pss_one (ps_expr (pe_bm PySem.F.plainAttrs_list PySem.F.slot_list_append PySem.F.type_list_append mt_append (pv 1) (pa_cons (pe_tup (pa_cons (pv 2) (pa_cons (pv 3) (pa_cons (pv 4) pa_nil)))) pa_nil)))))))
      (pss_one (ps_ret (pe_callTy call_tuple_of (by rfl) T.m_tuple (by decide +kernel) (pa_cons (pv 1) pa_nil)))))), ?_⟩
    refine ⟨Nat.zero_le _, fun p np => ?_⟩
    have s0 : Same H (upd H p (.lst [])) := same_upd np
    refine ⟨_, rfl, l, rfl, ⟨_, SqL.of (s0 _ _ hl)⟩, ?_⟩
    refine for_list (K := K) (a := l) (xs := us) (fun i σ H' => Same H H' ∧ ∃ (ws : List V) (y2 y3 y4 : Option V), σ = [some (.ref l), some (.ref p), y2, y3, y4] ∧ H' p = some (.lst ws) ∧ RnsIn H' ws ((ps.take i).foldl joinR []).reverse)
      ⟨s0, [], none, none, none, rfl, upd_same, .nil⟩ (fun i σ H' _ ⟨s, _⟩ => SqL.of (s _ _ hl)) ?_ ?_
    · rintro i x σ H1 hx ⟨sm, ws, y2, y3, y4, rfl, hp, hw⟩
      obtain ⟨⟨o, n, c⟩, he⟩ : ∃ e, ps[i]? = some e := ⟨_, List.getElem?_eq_getElem (by rw [← lu]; exact (List.getElem?_eq_some_iff.mp hx).1)⟩
      obtain ⟨x', hx', t, rfl, ht0⟩ := paired_get hu he
      rw [hx] at hx'
      have h1 := Option.some.inj hx'
      subst h1
      have ht := sm _ _ ht0
      have lw := paired_len hw
      rw [List.length_reverse] at lw
      have lj := joinF_len (ps.take i) []
      rw [List.length_take] at lj
      have lz : ([] : List Rn).length = 0 := rfl
      refine ⟨t, _, rfl, SqT.of ht, rfl, _, _, rfl, _, _, rfl, _, _, rfl, rfl, ?_⟩
      -- the run is put behind the others
      have app : joinR ((ps.take i).foldl joinR []) (o, n, c) = (o, n, c) :: (ps.take i).foldl joinR [] → ∀ a, H1 a = none →
          Same H (upd (upd H1 a (.tup [.int (o : Int), .int (n : Int), .int (c : Int)])) p (.lst (ws ++ [.ref a]))) ∧ (upd (upd H1 a (.tup [.int (o : Int), .int (n : Int), .int (c : Int)])) p (.lst (ws ++ [.ref a]))) p = some (.lst (ws ++ [.ref a])) ∧
          RnsIn (upd (upd H1 a (.tup [.int (o : Int), .int (n : Int), .int (c : Int)])) p (.lst (ws ++ [.ref a]))) (ws ++ [.ref a]) ((ps.take (i + 1)).foldl joinR []).reverse := fun hj a na => by
        have hp2 : (upd H1 a (.tup [.int (o : Int), .int (n : Int), .int (c : Int)])) p = some (.lst ws) := by rw [upd_ne (ne_of_none hp na)]; exact hp
        refine ⟨same_mut (sm.trans (same_upd na)) np, upd_same, ?_⟩
        rw [take_more he, fold_snoc, hj, List.reverse_cons]
        have tt := (Tups.new (H := H1) (o := .tup [.int (o : Int), .int (n : Int), .int (c : Int)]) na).trans (Tups.mut (o := .lst (ws ++ [.ref a])) hp2)
        exact paired_app (hw.mono tt) (.cons ⟨a, rfl, (Tups.mut hp2) _ _ upd_same⟩ .nil)
      cases hacc : (ps.take i).foldl joinR [] with
      | nil =>
        rw [hacc] at hw
        cases hw
        refine ⟨_, rfl, false, .inl ⟨[], SqL.of hp, rfl⟩, iteF ?_⟩
        refine iteF ⟨_, rfl, .inl ⟨rfl, _, SqL.of hp⟩, _, rfl, _, rfl, _, rfl, by show 3 ≤ sizeLine; decide, fun a na => ?_⟩
        have hj : joinR ((ps.take i).foldl joinR []) (o, n, c) = (o, n, c) :: (ps.take i).foldl joinR [] := by rw [hacc]; rfl
        obtain ⟨b1, b2, b3⟩ := app hj a na
        exact ⟨p, _, _, rfl, rfl, by rw [upd_ne (ne_of_none hp na)]; exact hp, by show 0 < sizeLine; decide, b1, _, _, _, _, rfl, b2, b3⟩
      | cons y acc =>
        obtain ⟨o1, n1, c1⟩ := y
        rw [hacc] at hw
        obtain ⟨ws', tl, rfl, hw', htl⟩ := rns_split hw
        have e1 : joinR ((ps.take i).foldl joinR []) (o, n, c) = if o1 + c1 = o ∧ n1 + c1 = n then (o1, n1, c1 + c) :: acc else (o, n, c) :: (o1, n1, c1) :: acc := by rw [hacc]; rfl
        have e2 : ¬ (o1 + c1 = o ∧ n1 + c1 = n) → joinR ((ps.take i).foldl joinR []) (o, n, c) = (o, n, c) :: (ps.take i).foldl joinR [] := fun h => by rw [e1, if_neg h, hacc]
        have htl : H1 tl = some (.tup [.int (o1 : Int), .int (n1 : Int), .int (c1 : Int)]) := htl
        have ix0 : ∀ (j : Nat) v, ([V.int (o1 : Int), V.int (n1 : Int), V.int (c1 : Int)] : List V)[j]? = some v → atI [V.int (o1 : Int), V.int (n1 : Int), V.int (c1 : Int)] (j : Int) = some v := fun j v h => atI_nat h
        have lw2 : ws'.length + 1 ≤ 4000000 := by
          rw [List.length_append] at lw
          have := lw
          rw [hacc] at lw lj
          have l1 : ([V.ref tl] : List V).length = 1 := rfl
          omega
        refine ⟨_, rfl, true, .inl ⟨_, SqL.of hp, by simp⟩, iteT ?_⟩
        refine ⟨_, rfl, 1, rfl, p, _, _, _, rfl, rfl, SqL.of hp, atI_last _ _, tl, _, 0, .int (o1 : Int), rfl, rfl, SqT.of htl, ix0 0 _ rfl, ?_⟩
        refine ⟨_, rfl, 1, rfl, p, _, _, _, rfl, rfl, SqL.of hp, atI_last _ _, tl, _, 2, .int (c1 : Int), rfl, rfl, SqT.of htl, ix0 2 _ rfl, _, _, rfl, rfl, ?_⟩
        have push : ¬ (o1 + c1 = o ∧ n1 + c1 = n) → ∀ a, H1 a = none → ∃ (l' : Addr) (xs : List V) (v : V), V.ref p = .ref l' ∧ [V.ref a] = [v] ∧ (upd H1 a (.tup [.int (o : Int), .int (n : Int), .int (c : Int)])) l' = some (.lst xs) ∧ xs.length < sizeLine ∧
            (Same H (upd (upd H1 a (.tup [.int (o : Int), .int (n : Int), .int (c : Int)])) l' (.lst (xs ++ [v]))) ∧ ∃ (ws : List V) (y2 y3 y4 : Option V), [some (.ref l), some (.ref p), some (.int (o : Int)), some (.int (n : Int)), some (.int (c : Int))] = [some (.ref l), some (.ref p), y2, y3, y4] ∧
              (upd (upd H1 a (.tup [.int (o : Int), .int (n : Int), .int (c : Int)])) l' (.lst (xs ++ [v]))) p = some (.lst ws) ∧ RnsIn (upd (upd H1 a (.tup [.int (o : Int), .int (n : Int), .int (c : Int)])) l' (.lst (xs ++ [v]))) ws ((ps.take (i + 1)).foldl joinR []).reverse) := fun h a na => by
          obtain ⟨b1, b2, b3⟩ := app (e2 h) a na
          exact ⟨p, _, _, rfl, rfl, by rw [upd_ne (ne_of_none hp na)]; exact hp, by rw [List.length_append]; exact Nat.lt_of_le_of_lt lw2 (by decide), b1, _, _, _, _, rfl, b2, b3⟩
        refine ⟨_, rfl, rfl, _, rfl, ite2 (fun c0 => ?_) (fun c0 => ?_)⟩
        · have d0 : o1 + c1 = o := by
            have : (o1 : Int) + (c1 : Int) = (o : Int) := V.int.inj (of_decide_eq_true c0)
            omega
          refine ⟨_, rfl, 1, rfl, p, _, _, _, rfl, rfl, SqL.of hp, atI_last _ _, tl, _, 1, .int (n1 : Int), rfl, rfl, SqT.of htl, ix0 1 _ rfl, ?_⟩
          refine ⟨_, rfl, 1, rfl, p, _, _, _, rfl, rfl, SqL.of hp, atI_last _ _, tl, _, 2, .int (c1 : Int), rfl, rfl, SqT.of htl, ix0 2 _ rfl, _, _, rfl, rfl, ?_⟩
          refine ⟨_, rfl, rfl, _, rfl, ite2 (fun c2 => ?_) (fun c2 => ?_)⟩
          · have d1 : n1 + c1 = n := by
              have : (n1 : Int) + (c1 : Int) = (n : Int) := V.int.inj (of_decide_eq_true c2)
              omega
            refine ⟨_, rfl, 1, rfl, p, _, _, _, rfl, rfl, SqL.of hp, atI_last _ _, tl, _, 0, .int (o1 : Int), rfl, rfl, SqT.of htl, ix0 0 _ rfl, ?_⟩
            refine ⟨_, rfl, 1, rfl, p, _, _, _, rfl, rfl, SqL.of hp, atI_last _ _, tl, _, 1, .int (n1 : Int), rfl, rfl, SqT.of htl, ix0 1 _ rfl, ?_⟩
            refine ⟨_, rfl, 1, rfl, p, _, _, _, rfl, rfl, SqL.of hp, atI_last _ _, tl, _, 2, .int (c1 : Int), rfl, rfl, SqT.of htl, ix0 2 _ rfl, _, rfl, _, _, rfl, rfl, by show 3 ≤ sizeLine; decide, fun a na => ?_⟩
            have hp2 : ∀ x, (upd H1 a x) p = some (.lst (ws' ++ [.ref tl])) := fun x => by rw [upd_ne (ne_of_none hp na)]; exact hp
            refine ⟨_, rfl, 1, rfl, p, _, _, _, rfl, rfl, hp2 _, ix_last _ _, ?_⟩
            rw [set_last]
            refine ⟨same_mut (sm.trans (same_upd na)) np, _, _, _, _, rfl, upd_same, ?_⟩
            rw [take_more he, fold_snoc, e1, if_pos ⟨d0, d1⟩, List.reverse_cons]
            have tt := (Tups.new (H := H1) (o := .tup [.int (o1 : Int), .int (n1 : Int), .int ((c1 : Int) + (c : Int))]) na).trans (Tups.mut (o := .lst (ws' ++ [.ref a])) (hp2 _))
            refine paired_app (hw'.mono tt) (.cons ⟨a, rfl, ?_⟩ .nil)
            have e3 : ((c1 + c : Nat) : Int) = (c1 : Int) + (c : Int) := by omega
            show _ = some (HO.tup [.int (o1 : Int), .int (n1 : Int), .int ((c1 + c : Nat) : Int)])
            rw [e3]
            exact (Tups.mut (hp2 _)) _ _ upd_same
          · have nd : ¬ (o1 + c1 = o ∧ n1 + c1 = n) := fun d => c2 (decide_eq_true (by have := d.2; show V.int ((n1 : Int) + (c1 : Int)) = V.int (n : Int); congr 1; omega))
            exact ⟨_, rfl, .inl ⟨rfl, _, SqL.of hp⟩, _, rfl, _, rfl, _, rfl, by show 3 ≤ sizeLine; decide, fun a na => push nd a na⟩
        · have nd : ¬ (o1 + c1 = o ∧ n1 + c1 = n) := fun d => c0 (decide_eq_true (by have := d.1; show V.int ((o1 : Int) + (c1 : Int)) = V.int (o : Int); congr 1; omega))
          refine iteF ?_
          exact ⟨_, rfl, .inl ⟨rfl, _, SqL.of hp⟩, _, rfl, _, rfl, _, rfl, by show 3 ≤ sizeLine; decide, fun a na => push nd a na⟩
    · rintro σ H1 ⟨sm, ws, y2, y3, y4, rfl, hp, hw⟩
      rw [lu, List.take_length] at hw
      refine ⟨_, rfl, p, _, rfl, .inl ⟨SqL.of hp, fun t nt => ?_⟩⟩
      have nt0 : H t = none := by
        cases e : H t with
        | none => rfl
        | some o =>
          rw [sm _ _ e] at nt
          cases nt
      exact q t _ (sm.trans (same_upd nt)) nt0 ⟨ws, upd_same, hw.mono (Tups.new nt)⟩

/-! ### while, by a test whose answer is told -/
theorem while_ans {c : L2.TT} {tb : L2.TS} {D : L2.Ends} {σ : L2.St} {H : Hp} (Pv : L2.St → Hp → Prop) (μ : L2.St → Nat) (h0 : Pv σ H)
    (hs : ∀ σ H, Pv σ H → ∃ b : Bool, (∀ Q : Bool → Hp → Prop, Q b H → c σ H Q) ∧ (b = true → tb { D with nx := fun σ' H' => Pv σ' H' ∧ μ σ' < μ σ, ct := fun σ' H' => Pv σ' H' ∧ μ σ' < μ σ, bk := D.nx } σ H) ∧ (b = false → D.nx σ H)) : tWhile c tb D σ H := by
  refine ⟨fun m σ H => m = μ σ ∧ Pv σ H, ⟨_, rfl, h0⟩, ?_⟩
  rintro m σ H ⟨rfl, p⟩
  obtain ⟨b, h1, h2, h3⟩ := hs σ H p
  refine h1 _ ?_
  cases b with
  | true => exact ⟨_, fun σ' H' ⟨p', l⟩ => ⟨_, l, rfl, p'⟩, h2 rfl⟩
  | false => exact h3 rfl
/-- how far a slot is from n -/
def gap (n j : Nat) (σ : L2.St) : Nat := match σ[j]? with
  | some (some (.int z)) => n - z.toNat
  | _ => 0
theorem tup3 {a b c : Int} (j : Nat) {v : V} (h : ([V.int a, V.int b, V.int c] : List V)[j]? = some v) : atI [V.int a, V.int b, V.int c] (j : Int) = some v := atI_nat h
/-! ### _through -/
def spThrough : Sp := fun vs H Q _ => ∃ (a b : Addr) (rs ss : List Rn), vs = [.ref a, .ref b] ∧ RnsT H a rs ∧ RnsT H b ss ∧ AscR rs ∧ PosR rs ∧ AscR ss ∧ PosR ss ∧ (∀ r ∈ rs, ∃ s ∈ ss, r.2.1 < s.1 + s.2.2) ∧ ss.length ≤ 4000000 ∧ (throughL rs ss).length ≤ 4000000 ∧
  ∀ l H', Same H H' → H l = none → RnsL H' l (throughL rs ss) → Q (.ref l) H'
theorem ok_through (T : Txt K mg) : FnOk P w K mg base CX0 1 T.a_through T.fd_through ["first", "second"] spThrough := by
  refine T.F_through.ok sc_through (fun vs H Q E h => ?_) (fun cdv A outer s H vs Q E hr h => ?_)
  · obtain ⟨a, b, rs, ss, rfl, _⟩ := h
    rfl
  · obtain ⟨a, b, rs, ss, rfl, ⟨us, ha, hu⟩, ⟨vs, hb, hv⟩, ar, pr, as, ps, hex, hls, hlt, q⟩ := h
    have lu := paired_len hu
    have lv := paired_len hv
    refine ⟨_, (pss_cons (ps_set (i := 2) sc_through.nd rfl (.inl rfl) (pe_lst pa_nil))
      (pss_cons (ps_set (i := 3) sc_through.nd rfl (.inl rfl) pe_int)
      (pss_cons (ps_for PassesOwn.never rfl (pi_tup (pv 0)) (pg_tup (by rfl) (pgs_cons (pg_name (i := 4) sc_through.nd rfl (.inl rfl)) (pgs_cons (pg_name (i := 5) sc_through.nd rfl (.inl rfl)) (pgs_cons (pg_name (i := 6) sc_through.nd rfl (.inl rfl)) pgs_nil)))) (pss_cons (ps_while PassesOwn.never (pt_cmpR op_le (pe_op op_add (pe_ix ix_tup (pe_ix ix_tup (pv 1) (pv 3) (fun _ _ => rfl)) pe_int (fun _ _ => rfl)) (pe_ix ix_tup (pe_ix ix_tup (pv 1) (pv 3) (fun _ _ => rfl)) pe_int (fun _ _ => rfl))) (pv 5) (nomark _)) (pss_one (ps_aug (i := 3) sc_through.nd rfl (.inl rfl) pe_int ip_add)))
      (pss_cons (ps_set (i := 7) sc_through.nd rfl (.inl rfl) (pv 3))
      (pss_one (ps_while PassesOwn.never (PW.pt (pw_and (pt_cmpR op_lt (pv 7) (pe_callB call_len_seq (by rfl) T.m_len PySem.boot_len (pa_cons (pv 1) pa_nil)) (nomark _)) (pw_and1 (pt_cmpR op_lt (pe_ix ix_tup (pe_ix ix_tup (pv 1) (pv 7) (fun _ _ => rfl)) pe_int (fun _ _ => rfl)) (pe_op op_add (pv 5) (pv 6)) (nomark _))))) (pss_cons (ps_set (i := 8) sc_through.nd rfl (.inl rfl) (pe_callB (call_max2 rfl) (by rfl) T.m_max (by decide +kernel) (pa_cons (pv 5) (pa_cons (pe_ix ix_tup (pe_ix ix_tup (pv 1) (pv 7) (fun _ _ => rfl)) pe_int (fun _ _ => rfl)) pa_nil))))
      (pss_cons (ps_set (i := 9) sc_through.nd rfl (.inl rfl) (pe_callB (call_min2 rfl) (by rfl) T.m_min (by decide +kernel) (pa_cons (pe_op op_add (pv 5) (pv 6)) (pa_cons (pe_op op_add (pe_ix ix_tup (pe_ix ix_tup (pv 1) (pv 7) (fun _ _ => rfl)) pe_int (fun _ _ => rfl)) (pe_ix ix_tup (pe_ix ix_tup (pv 1) (pv 7) (fun _ _ => rfl)) pe_int (fun _ _ => rfl))) pa_nil))))
      (pss_cons (ps_expr (pe_bm PySem.F.plainAttrs_list PySem.F.slot_list_append PySem.F.type_list_append mt_append (pv 2) (pa_cons (pe_tup (pa_cons (pe_op op_sub (pe_op op_add (pv 4) (pv 8)) (pv 5)) (pa_cons (pe_op op_sub (pe_op op_add (pe_ix ix_tup (pe_ix ix_tup (pv 1) (pv 7) (fun _ _ => rfl)) pe_int (fun _ _ => rfl)) (pv 8)) (pe_ix ix_tup (pe_ix ix_tup (pv 1) (pv 7) (fun _ _ => rfl)) pe_int (fun _ _ => rfl))) (pa_cons (pe_op op_sub (pv 9) (pv 8)) pa_nil)))) pa_nil)))
      (pss_one (ps_aug (i := 7) sc_through.nd rfl (.inl rfl) pe_int ip_add))))))))))
      (pss_one (ps_ret (pv 2)))))), ?_⟩
    refine ⟨Nat.zero_le _, fun p np => ?_⟩
    have s0 : Same H (upd H p (.lst [])) := same_upd np
    refine ⟨_, rfl, a, rfl, ⟨_, SqT.of (s0 _ _ ha)⟩, ?_⟩
    refine for_tup (K := K) (a := a) (xs := us) (fun i σ H' => Same H H' ∧ ∃ (k : Nat) (ws : List V) (y4 y5 y6 y7 y8 y9 : Option V), σ = [some (.ref a), some (.ref b), some (.ref p), some (.int (k : Int)), y4, y5, y6, y7, y8, y9] ∧ H' p = some (.lst ws) ∧ RnsIn H' ws (throughL (rs.take i) ss) ∧
        (∀ m r, i ≤ m → rs[m]? = some r → ∀ j x, j < k → ss[j]? = some x → x.1 + x.2.2 ≤ r.2.1))
      ⟨s0, 0, [], none, none, none, none, none, none, rfl, upd_same, .nil, fun _ _ _ _ _ _ h => absurd h (Nat.not_lt_zero _)⟩ (fun i σ H' _ ⟨s, _⟩ => SqT.of (s _ _ ha)) ?_ ?_
    · rintro i x σ H1 hx ⟨sm, k, ws, y4, y5, y6, y7, y8, y9, rfl, hp, hw, hk⟩
      obtain ⟨⟨o, n, c⟩, he⟩ : ∃ e, rs[i]? = some e := ⟨_, List.getElem?_eq_getElem (by rw [← lu]; exact (List.getElem?_eq_some_iff.mp hx).1)⟩
      obtain ⟨x', hx', t, rfl, ht0⟩ := paired_get hu he
      rw [hx] at hx'
      have h1 := Option.some.inj hx'
      subst h1
      have ht := sm _ _ ht0
      have pc : 0 < c := pr _ (List.mem_of_getElem? he)
      obtain ⟨se, hse, hlast⟩ := hex _ (List.mem_of_getElem? he)
      obtain ⟨je, hje⟩ := List.getElem?_of_mem hse
      have hlast : n < se.1 + se.2.2 := hlast
      refine ⟨t, _, rfl, SqT.of ht, rfl, _, _, rfl, _, _, rfl, _, _, rfl, rfl, ?_⟩
      -- an item of the second carry
      have item : ∀ {H' : Hp}, Same H H' → ∀ {j : Nat} {y : Rn}, ss[j]? = some y → ∃ ty, vs[j]? = some (.ref ty) ∧ SqT K H' b vs ∧ SqT K H' ty [.int (y.1 : Int), .int (y.2.1 : Int), .int (y.2.2 : Int)] := fun {H'} s' {j y} hy => by
        obtain ⟨x', hx', ty, rfl, hty⟩ := paired_get hv hy
        exact ⟨ty, hx', SqT.of (s' _ _ hb), SqT.of (s' _ _ hty)⟩
      -- while second[at][0] + second[at][2] <= new
      refine while_ans (fun σ H' => H' = H1 ∧ ∃ k : Nat, σ = [some (.ref a), some (.ref b), some (.ref p), some (.int (k : Int)), some (.int (o : Int)), some (.int (n : Int)), some (.int (c : Int)), y7, y8, y9] ∧ ∀ j x, j < k → ss[j]? = some x → x.1 + x.2.2 ≤ n) (gap ss.length 3)
        ⟨rfl, k, rfl, fun j x hj hx => hk i _ (Nat.le_refl _) he j x hj hx⟩ ?_
      rintro σ H' ⟨rfl, k, rfl, hk1⟩
      have kje : k ≤ je := by
        refine Nat.le_of_not_lt fun h => ?_
        have := hk1 je se h hje
        omega
      have klt : k < ss.length := Nat.lt_of_le_of_lt kje (List.getElem?_eq_some_iff.mp hje).1
      obtain ⟨y, hy⟩ : ∃ y, ss[k]? = some y := ⟨_, List.getElem?_eq_getElem klt⟩
      obtain ⟨ty, e1, e2, e3⟩ := item sm hy
      refine ⟨decide ((y.1 : Int) + (y.2.2 : Int) ≤ (n : Int)), fun Q q => ?_, fun hb1 => ?_, fun hb1 => ?_⟩
      · refine ⟨_, rfl, _, rfl, b, _, _, _, rfl, rfl, e2, atI_nat e1, ty, _, 0, .int (y.1 : Int), rfl, rfl, e3, tup3 0 rfl, ?_⟩
        refine ⟨_, rfl, _, rfl, b, _, _, _, rfl, rfl, e2, atI_nat e1, ty, _, 2, .int (y.2.2 : Int), rfl, rfl, e3, tup3 2 rfl, _, _, rfl, rfl, ?_⟩
        exact ⟨_, rfl, _, _, rfl, rfl, _, rfl, q⟩
      · have le := of_decide_eq_true hb1
        refine ⟨_, rfl, _, _, rfl, rfl, ⟨rfl, k + 1, rfl, fun j x hj hx => ?_⟩, ?_⟩
        · by_cases e : j = k
          · rw [e, hy] at hx
            have e := Option.some.inj hx
            rw [← e]
            omega
          · exact hk1 j x (by omega) hx
        · show ss.length - ((k : Int) + 1).toNat < ss.length - ((k : Int)).toNat
          omega
      · have gt : ¬ ((y.1 : Int) + (y.2.2 : Int) ≤ (n : Int)) := of_decide_eq_false hb1
        -- index = at
        refine ⟨_, rfl, ?_⟩
        refine while_ans (fun σ H' => Same H H' ∧ ∃ (ix : Nat) (ws : List V) (y8 y9 : Option V), σ = [some (.ref a), some (.ref b), some (.ref p), some (.int (k : Int)), some (.int (o : Int)), some (.int (n : Int)), some (.int (c : Int)), some (.int (ix : Int)), y8, y9] ∧ k ≤ ix ∧ ix ≤ ss.length ∧
            H' p = some (.lst ws) ∧ RnsIn H' ws (throughL (rs.take i) ss ++ overL (o, n, c) (ss.take ix))) (gap ss.length 7)
          ⟨sm, k, ws, y8, y9, rfl, Nat.le_refl _, Nat.le_of_lt klt, hp, ?_⟩ ?_
        · have e0 : overL (o, n, c) (ss.take k) = [] := overL_none fun x hx => .inl (by
            obtain ⟨j, hj⟩ := List.getElem?_of_mem hx
            rw [List.getElem?_take] at hj
            split at hj
            · rename_i hjk
              exact hk1 j x hjk hj
            · cases hj)
          rw [e0, List.append_nil]
          exact hw
        rintro σ H2 ⟨sm2, ix, ws2, y8, y9, rfl, hki, hil, hp2, hw2⟩
        -- the way out of the loop
        have out : (∀ j x, ix ≤ j → ss[j]? = some x → n + c ≤ x.1) → RnsIn H2 ws2 (throughL (rs.take (i + 1)) ss) ∧ (∀ m r, i + 1 ≤ m → rs[m]? = some r → ∀ j x, j < k → ss[j]? = some x → x.1 + x.2.2 ≤ r.2.1) := fun hout => by
          refine ⟨?_, fun m r hm hr j x hj hx => ?_⟩
          · rw [take_more he, throughL_snoc, overL_all (r := (o, n, c)) (i := ix) hout]
            exact hw2
          · have h1 := (ar.get he hr (Nat.lt_of_lt_of_le (Nat.lt_succ_self i) hm)).2
            have h2 := hk1 j x hj hx
            simp only at h1
            omega
        by_cases hix : ix < ss.length
        · obtain ⟨y2, hy2⟩ : ∃ y, ss[ix]? = some y := ⟨_, List.getElem?_eq_getElem hix⟩
          obtain ⟨tz, f1, f2, f3⟩ := item sm2 hy2
          have py2 : 0 < y2.2.2 := ps _ (List.mem_of_getElem? hy2)
          have nlt : n < y2.1 + y2.2.2 := by
            by_cases e : k = ix
            · rw [← e, hy] at hy2
              have e := Option.some.inj hy2
              rw [← e]
              omega
            · have := (as.get hy hy2 (by omega)).1
              omega
          refine ⟨decide ((y2.1 : Int) < (n : Int) + (c : Int)), fun Q q => ?_, fun hb2 => ?_, fun hb2 => ?_⟩
          · refine ⟨_, rfl, _, rfl, b, vs, rfl, .inr f2, _, _, rfl, rfl, _, rfl, ite2 (fun _ => ?_) (fun z => absurd (decide_eq_true (by omega)) z)⟩
            refine ⟨_, rfl, _, rfl, b, _, _, _, rfl, rfl, f2, atI_nat f1, tz, _, 0, .int (y2.1 : Int), rfl, rfl, f3, tup3 0 rfl, ?_⟩
            exact ⟨_, rfl, _, rfl, _, _, rfl, rfl, _, _, rfl, rfl, _, rfl, q⟩
          · have lt2 := of_decide_eq_true hb2
            have ov := over1_some (r := (o, n, c)) (s := y2) (by simp only; omega) nlt pc py2
            -- begin, end
            refine ⟨_, rfl, _, rfl, _, rfl, b, _, _, _, rfl, rfl, f2, atI_nat f1, tz, _, 0, .int (y2.1 : Int), rfl, rfl, f3, tup3 0 rfl, _, _, rfl, ?_⟩
            refine ⟨_, rfl, _, rfl, _, _, rfl, rfl, ?_⟩
            refine ⟨_, rfl, _, rfl, b, _, _, _, rfl, rfl, f2, atI_nat f1, tz, _, 0, .int (y2.1 : Int), rfl, rfl, f3, tup3 0 rfl, ?_⟩
            refine ⟨_, rfl, _, rfl, b, _, _, _, rfl, rfl, f2, atI_nat f1, tz, _, 2, .int (y2.2.2 : Int), rfl, rfl, f3, tup3 2 rfl, _, _, rfl, rfl, _, _, rfl, ?_⟩
            -- append
            refine ⟨_, rfl, .inl ⟨rfl, _, SqL.of hp2⟩, _, rfl, _, rfl, _, _, rfl, rfl, _, rfl, _, _, rfl, rfl, ?_⟩
            refine ⟨_, rfl, _, rfl, b, _, _, _, rfl, rfl, f2, atI_nat f1, tz, _, 1, .int (y2.2.1 : Int), rfl, rfl, f3, tup3 1 rfl, _, rfl, _, _, rfl, rfl, ?_⟩
            refine ⟨_, rfl, _, rfl, b, _, _, _, rfl, rfl, f2, atI_nat f1, tz, _, 0, .int (y2.1 : Int), rfl, rfl, f3, tup3 0 rfl, _, _, rfl, rfl, ?_⟩
            refine ⟨_, rfl, _, rfl, _, _, rfl, rfl, by show 3 ≤ sizeLine; decide, fun a2 na2 => ?_⟩
            have hp3 : ∀ x, (upd H2 a2 x) p = some (.lst ws2) := fun x => by rw [upd_ne (ne_of_none hp2 na2)]; exact hp2
            have lw2 := paired_len hw2
            rw [List.length_append] at lw2
            have l1 := throughL_take rs ss (i + 1)
            rw [take_more he, throughL_snoc, List.length_append] at l1
            have l2 := overL_take (o, n, c) ss ix
            have l3 : (overL (o, n, c) (ss.take (ix + 1))).length ≤ (overL (o, n, c) ss).length := overL_take _ _ _
            rw [take_more hy2, overL_snoc, ov, List.length_append] at l3
            have l4 : ([(o + max n y2.1 - n, y2.2.1 + max n y2.1 - y2.1, min (n + c) (y2.1 + y2.2.2) - max n y2.1)] : List Rn).length = 1 := rfl
            simp only at l3
            refine ⟨p, _, _, rfl, rfl, hp3 _, Nat.lt_of_lt_of_le (show ws2.length < 4000001 by omega) (by decide), ?_⟩
            -- index += 1
            refine ⟨_, rfl, _, _, rfl, rfl, ⟨same_mut (sm2.trans (same_upd na2)) np, ix + 1, _, _, _, rfl, by omega, by omega, upd_same, ?_⟩, ?_⟩
            · rw [take_more hy2, overL_snoc, ov, ← List.append_assoc]
              refine paired_app (hw2.mono ((Tups.new na2).trans (Tups.mut (hp3 _)))) (.cons ⟨a2, rfl, ?_⟩ .nil)
              have q1 : (o : Int) + (if (y2.1 : Int) > (n : Int) then (y2.1 : Int) else (n : Int)) - (n : Int) = ((o + max n y2.1 - n : Nat) : Int) := by split <;> omega
              have q2 : (y2.2.1 : Int) + (if (y2.1 : Int) > (n : Int) then (y2.1 : Int) else (n : Int)) - (y2.1 : Int) = ((y2.2.1 + max n y2.1 - y2.1 : Nat) : Int) := by split <;> omega
              have q3 : (if (y2.1 : Int) + (y2.2.2 : Int) < (n : Int) + (c : Int) then (y2.1 : Int) + (y2.2.2 : Int) else (n : Int) + (c : Int)) - (if (y2.1 : Int) > (n : Int) then (y2.1 : Int) else (n : Int)) = ((min (n + c) (y2.1 + y2.2.2) - max n y2.1 : Nat) : Int) := by split <;> split <;> omega
              have q4 : ([V.int ((o : Int) + (if (y2.1 : Int) > (n : Int) then (y2.1 : Int) else (n : Int)) - (n : Int)), V.int ((y2.2.1 : Int) + (if (y2.1 : Int) > (n : Int) then (y2.1 : Int) else (n : Int)) - (y2.1 : Int)),
                  V.int ((if (y2.1 : Int) + (y2.2.2 : Int) < (n : Int) + (c : Int) then (y2.1 : Int) + (y2.2.2 : Int) else (n : Int) + (c : Int)) - (if (y2.1 : Int) > (n : Int) then (y2.1 : Int) else (n : Int)))] : List V) =
                [V.int ((o + max n y2.1 - n : Nat) : Int), V.int ((y2.2.1 + max n y2.1 - y2.1 : Nat) : Int), V.int ((min (n + c) (y2.1 + y2.2.2) - max n y2.1 : Nat) : Int)] := by rw [q1, q2, q3]
              exact ((Tups.mut (hp3 _)) _ _ upd_same).trans (congrArg (fun l => some (HO.tup l)) q4)
            · show ss.length - ((ix : Int) + 1).toNat < ss.length - ((ix : Int)).toNat
              omega
          · have ge2 := of_decide_eq_false hb2
            have ho : ∀ j x, ix ≤ j → ss[j]? = some x → n + c ≤ x.1 := ?_
            · exact ⟨sm2, k, ws2, _, _, _, _, _, _, rfl, hp2, (out ho).1, (out ho).2⟩
            intro j x hj hx
            by_cases e : j = ix
            · rw [e, hy2] at hx
              have e := Option.some.inj hx
              rw [← e]
              omega
            · have := (as.get hy2 hx (by omega)).1
              omega
        · have ho : ∀ j x, ix ≤ j → ss[j]? = some x → n + c ≤ x.1 := fun j x hj hx => by
            have := (List.getElem?_eq_some_iff.mp hx).1
            omega
          refine ⟨false, fun Q q => ?_, fun z => (nomatch z), fun _ => ⟨sm2, k, ws2, _, _, _, _, _, _, rfl, hp2, (out ho).1, (out ho).2⟩⟩
          · refine ⟨_, rfl, _, rfl, b, vs, rfl, .inr (SqT.of (sm2 _ _ hb)), _, _, rfl, rfl, _, rfl, ite2 (fun z => ?_) (fun _ => q)⟩
            have := of_decide_eq_true z
            omega
    · rintro σ H1 ⟨sm, k, ws, y4, y5, y6, y7, y8, y9, rfl, hp, hw, hk⟩
      rw [lu, List.take_length] at hw
      exact ⟨_, rfl, q p _ sm np ⟨ws, hp, hw⟩⟩

/-! ### the carry of one edit -/
def spOne (C : Addr) : Sp := fun vs H Q _ => ∃ (mid a b m : Nat), vs = [.int (mid : Int), .int (a : Int), .int (b : Int), .int (m : Int)] ∧ a ≤ b ∧ b ≤ mid ∧
  ∀ p H', Same H H' → H p = none → CarryR C H' p mid (mid - b + a + m) (joinedL (pieces mid a b m)) → Q (.ref p) H'
theorem ok_carry_of_one (T : Txt K mg) : FnOk P w K mg base CX0 3 T.a_carry_of_one T.fd_carry_of_one ["length", "start", "end", "count"] (spOne T.C_Carry) := by
  have G_joined_runs : FnOk P w K mg base CX0 1 T.a_joined_runs T.fd_joined_runs ["pieces"] spJoined := ok_joined T
  have G_Carry_init : FnOk P w K mg base CX0 1 T.a_Carry_init T.fd_Carry_init ["self", "old", "new", "runs"] (spCInit T.C_Carry) := ok_Carry_init T
  refine T.F_carry_of_one.ok sc_carry_of_one (fun vs H Q E h => ?_) (fun cdv A outer s H vs Q E hr h => ?_)
  · obtain ⟨mid, a, b, m, rfl, _⟩ := h
    rfl
  · have hr_joined_runs : Room 1 _ := hr.mono (by decide)
    have hr_Carry_init : Room 2 _ := hr
    obtain ⟨mid, a, b, m, rfl, hab, hbm, q⟩ := h
    refine ⟨_, (pss_cons (ps_set (i := 4) sc_carry_of_one.nd rfl (.inl rfl) (pe_op op_add (pv 1) (pv 3)))
      (pss_cons (ps_set (i := 5) sc_carry_of_one.nd rfl (.inl rfl) (pe_lst (pa_cons (pe_tup (pa_cons pe_int (pa_cons pe_int (pa_cons (pv 1) pa_nil)))) (pa_cons (pe_tup (pa_cons (pv 2) (pa_cons (pv 4) (pa_cons (pe_op op_sub (pe_op op_add (pv 0) pe_int) (pv 2)) pa_nil)))) pa_nil))))
      (pss_one (ps_ret (pe_make T.MK_Carry G_Carry_init hr_Carry_init (by rfl) T.G_Carry T.b_Carry_init .nil pass0 (pa_cons (pv 0) (pa_cons (pe_op op_add (pe_op op_sub (pv 0) (pv 2)) (pv 4)) (pa_cons (pe_call G_joined_runs hr_joined_runs (by rfl) T.g_joined_runs T.F_joined_runs.kp T.b_joined_runs .nil pass0 (pa_cons (pe_lc (own := [("piece", 6)]) (g := gName 6) (by rfl) sc_carry_of_one.nd (pi_list (pv 5)) (blkOk_by (own := [("piece", 6)]) (N := ["length", "start", "end", "count", "behind", "pieces", "piece"]) (sc := defScope s_carry_of_one) (by decide +kernel)) (fun _ _ _ _ _ => pg_name (i := 6) sc_carry_of_one.nd rfl (Or.inl rfl)) (fun _ _ _ _ _ => (pts_one (pt_cmpR op_gt (pe_ix (ix_tupK (K := K) rfl) (pv 6) pe_int (fun _ _ => rfl)) pe_int (nomark _)))) (fun _ _ _ _ _ => (pv 6))) pa_nil)) pa_nil)))))))), ?_⟩
    refine ⟨_, rfl, _, rfl, _, _, rfl, rfl, ?_⟩
    refine ⟨_, rfl, by show 3 ≤ sizeLine; decide, fun t1 n1 => ?_⟩
    refine ⟨_, rfl, _, rfl, _, rfl, _, 1, rfl, rfl, _, rfl, _, _, rfl, rfl, by show 3 ≤ sizeLine; decide, fun t2 n2 => ?_⟩
    refine ⟨by show 2 ≤ sizeLine; decide, fun l nl => ?_⟩
    have s1 := ((same_upd n1).trans (same_upd n2)).trans (same_upd (o := .lst [.ref t1, .ref t2]) nl)
    have e1 : ((mid : Int) + 1 - (b : Int)) = ((mid + 1 - b : Nat) : Int) := by omega
    have e2 : ((a : Int) + (m : Int)) = ((a + m : Nat) : Int) := by omega
    have e3 : ((mid : Int) - (b : Int) + ((a : Int) + (m : Int))) = ((mid - b + a + m : Nat) : Int) := by omega
    have k1 : upd (upd (upd H t1 (.tup [.int 0, .int 0, .int (a : Int)])) t2 (.tup [.int (b : Int), .int ((a : Int) + (m : Int)), .int ((mid : Int) + 1 - (b : Int))])) l (.lst [.ref t1, .ref t2]) t1 = some (.tup [.int 0, .int 0, .int (a : Int)]) := by
      have h2 : t1 ≠ t2 := fun z => by rw [← z, upd_same] at n2; cases n2
      have h3 : t1 ≠ l := fun z => by rw [← z, upd_ne h2, upd_same] at nl; cases nl
      rw [upd_ne h3, upd_ne h2, upd_same]
    have k2 : upd (upd (upd H t1 (.tup [.int 0, .int 0, .int (a : Int)])) t2 (.tup [.int (b : Int), .int ((a : Int) + (m : Int)), .int ((mid : Int) + 1 - (b : Int))])) l (.lst [.ref t1, .ref t2]) t2 = some (.tup [.int (b : Int), .int ((a + m : Nat) : Int), .int ((mid + 1 - b : Nat) : Int)]) := by
      have h3 : t2 ≠ l := fun z => by rw [← z, upd_same] at nl; cases nl
      rw [upd_ne h3, upd_same, e1, e2]
    obtain ⟨H1, hH1⟩ : ∃ H1, H1 = upd (upd (upd H t1 (.tup [.int 0, .int 0, .int (a : Int)])) t2 (.tup [.int (b : Int), .int ((a : Int) + (m : Int)), .int ((mid : Int) + 1 - (b : Int))])) l (.lst [.ref t1, .ref t2]) := ⟨_, rfl⟩
    have k3 : H1 l = some (.lst [.ref t1, .ref t2]) := by rw [hH1]; exact upd_same
    have hu : RnsIn H1 [.ref t1, .ref t2] [(0, 0, a), (b, a + m, mid + 1 - b)] := by rw [hH1]; exact .cons ⟨t1, rfl, k1⟩ (.cons ⟨t2, rfl, k2⟩ .nil)
    have s1 : Same H H1 := by rw [hH1]; exact s1
    refine ⟨_, rfl, _, rfl, _, rfl, _, _, rfl, rfl, _, rfl, _, _, rfl, rfl, ?_⟩
    refine ⟨_, rfl, l, rfl, ⟨[.ref t1, .ref t2], SqL.of upd_same⟩, fun D nD => ?_⟩
    rw [← hH1]
    rw [← hH1] at nD
    refine lc_list (K := K) (a := l) (xs := [.ref t1, .ref t2]) (fun i H' => Same H1 H' ∧ ∃ acc, H' D = some (.lst acc) ∧ RnsIn H' acc ((([(0, 0, a), (b, a + m, mid + 1 - b)] : List Rn).take i).filter fun r => decide (0 < r.2.2))) ⟨same_upd nD, [], upd_same, .nil⟩ (fun i H' _ ⟨s, _⟩ => SqL.of (s _ _ k3)) ?_ ?_
    · rintro i x H2 hx ⟨sm, acc, hD, hacc⟩
      obtain ⟨e, he⟩ : ∃ e, ([(0, 0, a), (b, a + m, mid + 1 - b)] : List Rn)[i]? = some e := ⟨_, List.getElem?_eq_getElem (by rw [← paired_len hu]; exact (List.getElem?_eq_some_iff.mp hx).1)⟩
      obtain ⟨x', hx', t, rfl, ht0⟩ := paired_get hu he
      rw [hx] at hx'
      have h1 := Option.some.inj hx'
      subst h1
      have ht := sm _ _ ht0
      have lacc := paired_len hacc
      have lf := List.length_filter_le (fun r : Rn => decide (0 < r.2.2)) (([(0, 0, a), (b, a + m, mid + 1 - b)] : List Rn).take i)
      have lt : (([(0, 0, a), (b, a + m, mid + 1 - b)] : List Rn).take i).length ≤ 2 := by rw [List.length_take]; exact Nat.min_le_right _ _
      refine ⟨rfl, _, rfl, t, _, 2, .int (e.2.2 : Int), rfl, rfl, SqT.of ht, tup3 2 rfl, _, 0, rfl, rfl, _, rfl, ?_⟩
      rw [take_more he, List.filter_append]
      refine ite2 (fun c => ?_) (fun c => ?_)
      · have c1 := of_decide_eq_true c
        have fe : ([e] : List Rn).filter (fun r => decide (0 < r.2.2)) = [e] := by
          rw [List.filter_cons, if_pos (decide_eq_true (by omega))]
          rfl
        rw [fe]
        refine ⟨_, rfl, acc, hD, sz2 (by omega), same_mut sm nD, _, upd_same, ?_⟩
        exact paired_app (hacc.mono (Tups.mut hD)) (.cons ⟨t, rfl, (Tups.mut hD) _ _ ht⟩ .nil)
      · have fe : ([e] : List Rn).filter (fun r => decide (0 < r.2.2)) = [] := by
          rw [List.filter_cons, if_neg (fun z => c (decide_eq_true (by have := of_decide_eq_true z; omega)))]
          rfl
        rw [fe, List.append_nil]
        exact ⟨sm, acc, hD, hacc⟩
    · rintro H2 ⟨sm, acc, hD, hacc⟩
      have nD0 : H D = none := by
        cases e : H D with
        | none => rfl
        | some o =>
          rw [s1 _ _ e] at nD
          cases nD
      have lp : (pieces mid a b m).length ≤ 2 := List.length_filter_le _ _
      refine ⟨D, pieces mid a b m, rfl, ⟨acc, hD, hacc⟩, by omega, fun t H3 s3 nt ht => ?_⟩
      intro x dx nx ndx nxd
      have s4 := s1.trans (sm.trans s3)
      have ms := made_same (C := T.C_Carry) (fs := cfl (mid : Int) ((mid - b + a + m : Nat) : Int) t) nx ndx
      refine ⟨x, dx, t, _, _, rfl, upd_same, rfl, ?_⟩
      rw [upd_upd, e3]
      refine q x _ (s4.trans ms) (s4.free nx) ⟨t, ⟨dx, upd_same⟩, ht.mono (same_tups ms)⟩

/-! ### first + second -/
theorem canon_asc {old : Nat} {t : List Int} (h : Tagged old t) : AscR (canon (tp 0 t)) := asc_of (by rw [pairsOf_canon]; exact h.up) (canon_pos _)
theorem canon_len (t : List Int) : (canon (tp 0 t)).length ≤ t.length := by
  have h1 := len_pairs (canon_pos (tp 0 t))
  rw [pairsOf_canon] at h1
  exact Nat.le_trans h1 (tp_len 0 t)
theorem through_len {old mid : Nat} {t u : List Int} (h : Tagged old t) (g : Tagged mid u) : (throughL (canon (tp 0 t)) (canon (tp 0 u))).length ≤ u.length := by
  have h1 := len_pairs (ps := throughL (canon (tp 0 t)) (canon (tp 0 u))) throughL_pos
  rw [through_comp h g] at h1
  have h2 := tp_len 0 (compT t u)
  rw [compT_len] at h2
  omega
theorem reaches {old mid : Nat} {t u : List Int} (h : Tagged old t) (hl : t.length = mid + 1) (g : Tagged mid u) : ∀ r ∈ canon (tp 0 t), ∃ s ∈ canon (tp 0 u), r.2.1 < s.1 + s.2.2 := fun r hr => by
  have pr := canon_pos _ r hr
  have h1 : (r.1, r.2.1) ∈ pairsOf (canon (tp 0 t)) := mem_pairsOf.mpr ⟨r, hr, mem_pairs1.mpr ⟨Nat.le_refl _, by simp only; omega, by simp only; omega⟩⟩
  rw [pairsOf_canon] at h1
  have h2 := (h.le h1).2
  have h3 := g.mem_last
  rw [← pairsOf_canon (tp 0 u)] at h3
  obtain ⟨s, hs, h4⟩ := mem_pairsOf.mp h3
  have h5 := mem_pairs1.mp h4
  refine ⟨s, hs, ?_⟩
  simp only at h2 h5
  omega
def spAdd (C : Addr) : Sp := fun vs H Q _ => ∃ (p q : Addr) (old mid mid2 new : Nat) (t u : List Int), vs = [.ref p, .ref q] ∧ CarryR C H p old mid2 (canon (tp 0 t)) ∧ (∃ b, CarryR C H q b new (canon (tp 0 u))) ∧ Tagged old t ∧ t.length = mid + 1 ∧ Tagged mid u ∧ t.length ≤ 4000000 ∧ u.length ≤ 4000000 ∧
  ∀ x H', Same H H' → H x = none → CarryR C H' x old new (canon (tp 0 (compT t u))) → Q (.ref x) H'
theorem ok_Carry___add__ (T : Txt K mg) : FnOk P w K mg base CX0 3 T.a_Carry___add__ T.fd_Carry___add__ ["self", "other"] (spAdd T.C_Carry) := by
  have G_joined_runs : FnOk P w K mg base CX0 1 T.a_joined_runs T.fd_joined_runs ["pieces"] spJoined := ok_joined T
  have G_through : FnOk P w K mg base CX0 1 T.a_through T.fd_through ["first", "second"] spThrough := ok_through T
  have G_Carry_init : FnOk P w K mg base CX0 1 T.a_Carry_init T.fd_Carry_init ["self", "old", "new", "runs"] (spCInit T.C_Carry) := ok_Carry_init T
  refine T.F_Carry___add__.ok sc_Carry___add__ (fun vs H Q E h => ?_) (fun cdv A outer s H vs Q E hr h => ?_)
  · obtain ⟨p, q, old, mid, mid2, new, t, u, rfl, _⟩ := h
    rfl
  · have hr_joined_runs : Room 1 _ := hr.mono (by decide)
    have hr_through : Room 1 _ := hr.mono (by decide)
    have hr_Carry_init : Room 2 _ := hr
    obtain ⟨p, q', old, mid, mid2, new, t, u, rfl, ⟨t1, ⟨dx1, h1⟩, hr1⟩, ⟨b2, t2, ⟨dx2, h2⟩, hr2⟩, ht, hl, hu, l1, l2, q⟩ := h
    refine ⟨_, (pss_one (ps_ret (pe_make T.MK_Carry G_Carry_init hr_Carry_init (by rfl) T.G_Carry T.b_Carry_init .nil pass0 (pa_cons (pe_fld (pv 0) rfl) (pa_cons (pe_fld (pv 1) rfl) (pa_cons (pe_call G_joined_runs hr_joined_runs (by rfl) T.g_joined_runs T.F_joined_runs.kp T.b_joined_runs .nil pass0 (pa_cons (pe_call G_through hr_through (by rfl) T.g_through T.F_through.kp T.b_through .nil pass0 (pa_cons (pe_fld (pv 0) rfl) (pa_cons (pe_fld (pv 1) rfl) pa_nil))) pa_nil)) pa_nil)))))), ?_⟩
    refine ⟨_, rfl, p, T.C_Carry, dx1, _, _, rfl, h1, T.CL_Carry, T.NA_Carry_old, cfl_old _ _ _, ?_⟩
    refine ⟨_, rfl, q', T.C_Carry, dx2, _, _, rfl, h2, T.CL_Carry, T.NA_Carry_new, cfl_new _ _ _, ?_⟩
    refine ⟨_, rfl, p, T.C_Carry, dx1, _, _, rfl, h1, T.CL_Carry, T.NA_Carry_runs, cfl_runs _ _ _, ?_⟩
    refine ⟨_, rfl, q', T.C_Carry, dx2, _, _, rfl, h2, T.CL_Carry, T.NA_Carry_runs, cfl_runs _ _ _, ?_⟩
    have tl := through_len ht hu
    refine ⟨t1, t2, _, _, rfl, hr1, hr2, canon_asc ht, canon_pos _, canon_asc hu, canon_pos _, reaches ht hl hu, Nat.le_trans (canon_len u) l2, by omega, fun l H1 s1 nl hL => ?_⟩
    refine ⟨l, _, rfl, hL, by omega, fun t3 H2 s2 nt3 hT => ?_⟩
    intro x dx nx ndx nxd
    have s3 := s1.trans s2
    have ms := made_same (C := T.C_Carry) (fs := cfl (old : Int) (new : Int) t3) nx ndx
    refine ⟨x, dx, t3, _, _, rfl, upd_same, rfl, ?_⟩
    rw [upd_upd]
    rw [sum_runs ht hu] at hT
    exact q x _ (s3.trans ms) (s3.free nx) ⟨t3, ⟨dx, upd_same⟩, hT.mono (same_tups ms)⟩
/-! ### carry_of -/
def tagsE (n : Nat) (es : List Ed) : List Int := applG tagW (upTo (n + 1)) es
theorem upTo_stay (n : Nat) : upTo n = stay 0 n := by
  unfold upTo stay
  refine List.map_congr_left fun k _ => ?_
  rw [Nat.zero_add]
theorem tagsE_snoc (n : Nat) (es : List Ed) (e : Ed) : tagsE n (es ++ [e]) = (tagsE n es).take e.1.toNat ++ List.replicate e.len (-1) ++ (tagsE n es).drop e.2.1.toNat := by
  unfold tagsE
  rw [applG_snoc]
  show (applG tagW (upTo (n + 1)) es).take e.1.toNat ++ tagW e.2.2 ++ (applG tagW (upTo (n + 1)) es).drop e.2.1.toNat = _
  rw [tagW_rep]
theorem tags_tagged {n : Nat} : ∀ {es : List Ed}, fitsL n es → Tagged n (tagsE n es) ∧ (tagsE n es).length = sizeL n es + 1 := by
  intro es
  induction es using rev_ind with
  | h0 =>
    intro _
    have e : tagsE n [] = stay 0 (n + 1) := upTo_stay (n + 1)
    rw [e, stay_len]
    exact ⟨whole_tagged n, rfl⟩
  | h1 es e ih =>
    intro h
    obtain ⟨h1, h2⟩ := (fitsL_snoc _ _ _).mp h
    obtain ⟨i1, i2⟩ := ih h1
    obtain ⟨a1, a2, a3⟩ := h2
    have g := i1.edit (mid := sizeL n es) (a := e.1.toNat) (b := e.2.1.toNat) e.len i2 (by omega) (by omega)
    rw [tagsE_snoc, sizeL_snoc]
    refine ⟨g.1, ?_⟩
    rw [g.2.2]
    unfold size1
    omega
theorem tags_one {n a b : Nat} {es : List Ed} {e : Ed} (h : fitsL n es) (e1 : e.1 = (a : Int)) (e2 : e.2.1 = (b : Int)) (h1 : a ≤ b) (h2 : b ≤ sizeL n es) : compT (tagsE n es) (oneT (sizeL n es) a b e.len) = tagsE n (es ++ [e]) := by
  obtain ⟨i1, i2⟩ := tags_tagged h
  rw [tagsE_snoc, compT_one i2 h1 h2, e1, e2]
  rfl
def spCarryOf (C CE : Addr) : Sp := fun vs H Q E => ∃ (n : Nat) (l : Addr) (es : List Ed), vs = [.int (n : Int), .ref l] ∧ EdsAt H l es ∧ Sized es ∧ es.length ≤ 2000 ∧ (∀ k, fitsL n (es.take k) → sizeL n (es.take k) ≤ 3000000) ∧
  (fitsL n es → ∀ p H', Same H H' → H p = none → CarryR C H' p n (sizeL n es) (canon (tp 0 (tagsE n es))) → Q (.ref p) H') ∧ (∀ k, unfit n es = some k → ErrAt CE H E k)
theorem ok_carry_of (T : Txt K mg) : FnOk P w K mg base (L2.CX P w) 5 T.a_carry_of T.fd_carry_of ["length", "edits"] (spCarryOf T.C_Carry T.C_EditError) := by
  have G_check_fits : FnOk P w K mg base (L2.CX P w) 4 T.a_check_fits T.fd_check_fits ["length", "edits"] (spCheck T.C_EditError) := ok_check_fits T
  have G_Carry_init : FnOk P w K mg base CX0 1 T.a_Carry_init T.fd_Carry_init ["self", "old", "new", "runs"] (spCInit T.C_Carry) := ok_Carry_init T
  have G_Carry___add__ : FnOk P w K mg base CX0 3 T.a_Carry___add__ T.fd_Carry___add__ ["self", "other"] (spAdd T.C_Carry) := ok_Carry___add__ T
  have G_carry_of_one : FnOk P w K mg base CX0 3 T.a_carry_of_one T.fd_carry_of_one ["length", "start", "end", "count"] (spOne T.C_Carry) := ok_carry_of_one T
  refine T.F_carry_of.okX sc_carry_of (fun vs H Q E h => ?_) (fun cdv A outer s H vs Q E hr h => ?_)
  · obtain ⟨n, l, es, rfl, _⟩ := h
    rfl
  · have hr_check_fits : Room 4 _ := hr
    have hr_Carry_init : Room 2 _ := hr.mono (by decide)
    have hr_Carry___add__ : Room 3 _ := hr.mono (by decide)
    have hr_carry_of_one : Room 3 _ := hr.mono (by decide)
    obtain ⟨n, l, es, rfl, hE, hS, hn, hz, q1, q2⟩ := h
    refine ⟨_, (pss_cons (ps_expr (pe_call G_check_fits hr_check_fits (by rfl) T.g_check_fits T.F_check_fits.kp T.b_check_fits .nil (passes_call (takes_of rfl rfl rfl rfl) (fun _ _ _ _ z => z)) (pa_cons (pv 0) (pa_cons (pv 1) pa_nil))))
      (pss_cons (ps_set (i := 2) sc_carry_of.nd rfl (.inl rfl) (pe_make T.MK_Carry G_Carry_init hr_Carry_init (by rfl) T.G_Carry T.b_Carry_init .nil pass0 (pa_cons (pv 0) (pa_cons (pv 0) (pa_cons (pe_tup (pa_cons (pe_tup (pa_cons pe_int (pa_cons pe_int (pa_cons (pe_op op_add (pv 0) pe_int) pa_nil)))) pa_nil)) pa_nil)))))
      (pss_cons (ps_for (passes_of rfl) rfl (pi_list (pv 1)) (pg_tup (by rfl) (pgs_cons (pg_name (i := 3) sc_carry_of.nd rfl (.inl rfl)) (pgs_cons (pg_name (i := 4) sc_carry_of.nd rfl (.inl rfl)) (pgs_cons (pg_name (i := 5) sc_carry_of.nd rfl (.inl rfl)) pgs_nil)))) (pss_one (ps_set (i := 2) sc_carry_of.nd rfl (.inl rfl) (pe_op (OwnOp.op_own (op := .Add) T.ME_Carry__add__.at_ T.ME_Carry__add__.fn T.SF_Carry G_Carry___add__ hr_Carry___add__ T.b_Carry___add__ pass0) (pv 2) (pe_call G_carry_of_one hr_carry_of_one (by rfl) T.g_carry_of_one T.F_carry_of_one.kp T.b_carry_of_one .nil pass0 (pa_cons (pe_fld (pv 2) rfl) (pa_cons (pv 3) (pa_cons (pv 4) (pa_cons (pe_callB call_len_str (by rfl) T.m_len PySem.boot_len (pa_cons (pv 5) pa_nil)) pa_nil)))))))))
      (pss_one (ps_ret (pv 2)))))), ?_⟩
    refine ⟨_, rfl, _, rfl, n, l, es, rfl, hE, hS, hn, fun hf H1 s1 => ?_, fun k hk => q2 k hk⟩
    obtain ⟨us, hus, hue⟩ := id hE
    have lu := paired_len hue
    -- carry = Carry(length, length, ((0, 0, length + 1),))
    refine ⟨_, rfl, _, rfl, _, rfl, _, 1, rfl, rfl, by show 3 ≤ sizeLine; decide, fun t1 n1 => ⟨by show 1 ≤ sizeLine; decide, fun t2 n2 => ?_⟩⟩
    intro x dx nx ndx nxd
    have ms := made_same (C := T.C_Carry) (fs := cfl (n : Int) (n : Int) t2) nx ndx
    have s2 := (same_upd n1).trans (same_upd (o := .tup [.ref t1]) n2)
    refine ⟨x, dx, t2, _, _, rfl, upd_same, rfl, ?_⟩
    rw [upd_upd]
    have s3 := s1.trans (s2.trans ms)
    have c0 : CarryR T.C_Carry (upd (upd (upd (upd H1 t1 (.tup [.int 0, .int 0, .int ((n : Int) + 1)])) t2 (.tup [.ref t1])) dx (.own x)) x (.ins T.C_Carry dx (cfl (n : Int) (n : Int) t2))) x n (sizeL n (es.take 0)) (canon (tp 0 (tagsE n (es.take 0)))) := by
      have e : tagsE n (es.take 0) = stay 0 (n + 1) := upTo_stay (n + 1)
      rw [e, ← whole_runs]
      refine ⟨t2, ⟨dx, upd_same⟩, [.ref t1], ms _ _ upd_same, .cons ⟨t1, rfl, ?_⟩ .nil⟩
      have h12 : t1 ≠ t2 := fun z => by rw [← z, upd_same] at n2; cases n2
      refine ms _ _ ?_
      rw [upd_ne h12, upd_same]
      rfl
    refine ⟨_, rfl, l, rfl, ⟨_, SqL.of (s3 _ _ hus)⟩, ?_⟩
    refine for_list (K := K) (a := l) (xs := us) (fun i σ H' => Same H H' ∧ ∃ (p : Addr) (y3 y4 y5 : Option V), σ = [some (.int (n : Int)), some (.ref l), some (.ref p), y3, y4, y5] ∧ H p = none ∧ CarryR T.C_Carry H' p n (sizeL n (es.take i)) (canon (tp 0 (tagsE n (es.take i)))))
      ⟨s3, x, none, none, none, rfl, (s1.trans s2).free nx, c0⟩ (fun i σ H' _ ⟨s, _⟩ => SqL.of (s _ _ hus)) ?_ ?_
    · rintro i y σ H2 hx ⟨sm, p, y3, y4, y5, rfl, np, hC⟩
      obtain ⟨e, he⟩ : ∃ e, es[i]? = some e := ⟨_, List.getElem?_eq_getElem (by rw [← lu]; exact (List.getElem?_eq_some_iff.mp hx).1)⟩
      obtain ⟨x', hx', t, rfl, ht0⟩ := paired_get hue he
      rw [hx] at hx'
      have h1 := Option.some.inj hx'
      subst h1
      have ht := sm _ _ ht0
      have hf1 := fitsL_get hf he
      have hfi := fitsL_take i hf
      obtain ⟨a, b, hab, h2, h3⟩ := fit_nat hf1
      have a1 : e.1 = (a : Int) := by rw [hab]
      have a2 : e.2.1 = (b : Int) := by rw [hab]
      rw [a1, a2] at ht
      have z1 := hz i hfi
      have z2 := hz (i + 1) (fitsL_take _ hf)
      rw [take_more he, sizeL_snoc] at z2
      have z3 : sizeL n (es.take i) - b + a + e.len ≤ 3000000 := by
        unfold size1 at z2
        rw [a1, a2, Int.toNat_natCast, Int.toNat_natCast] at z2
        omega
      obtain ⟨tg, tl⟩ := tags_tagged hfi
      obtain ⟨tc, ⟨dc, hc⟩, hcr⟩ := id hC
      refine ⟨t, _, rfl, SqT.of ht, rfl, _, _, rfl, _, _, rfl, _, _, rfl, rfl, ?_⟩
      refine ⟨_, rfl, _, rfl, p, T.C_Carry, dc, _, _, rfl, hc, T.CL_Carry, T.NA_Carry_new, cfl_new _ _ _, _, rfl, _, rfl, _, rfl, e.2.2, rfl, szM (by rw [len_cs]; exact (hS e (List.mem_of_getElem? he)).1), ?_⟩
      refine ⟨sizeL n (es.take i), a, b, e.len, by rw [len_cs]; rfl, h2, h3, fun p1 H3 s4 np1 hC1 => ?_⟩
      obtain ⟨tc1, ⟨dc1, hc1⟩, hcr1⟩ := id hC1
      refine ⟨p, p1, _, _, _, _, rfl, rfl, s4 _ _ hc, hc1, ?_⟩
      rw [pieces_runs] at hC1
      refine ⟨p, p1, n, sizeL n (es.take i), _, _, tagsE n (es.take i), oneT (sizeL n (es.take i)) a b e.len, rfl, hC.same s4, ⟨_, hC1⟩, tg, tl, one_tagged h2 h3, by omega, by rw [oneT_len]; omega, fun x2 H4 s5 nx2 hC2 => ?_⟩
      rw [tags_one hfi a1 a2 h2 h3, ← take_more he] at hC2
      have e5 : sizeL n (es.take i) - b + a + e.len = sizeL n (es.take (i + 1)) := by
        rw [take_more he, sizeL_snoc]
        unfold size1
        rw [a1, a2, Int.toNat_natCast, Int.toNat_natCast]
        omega
      rw [e5] at hC2
      exact ⟨sm.trans (s4.trans s5), x2, _, _, _, rfl, (sm.trans s4).free nx2, hC2⟩
    · rintro σ H2 ⟨sm, p, y3, y4, y5, rfl, np, hC⟩
      rw [lu, List.take_length] at hC
      exact ⟨_, rfl, q1 hf p _ sm np hC⟩

/-! ### the runs of a row of tags, by the law -/
theorem ints_get {ts : List Int} {i : Nat} {x : Int} (h : ts[i]? = some x) : (ts.map V.int)[i]? = some (.int x) := by
  rw [List.getElem?_map, h]
  rfl
def spRuns : Sp := fun vs H Q _ => ∃ (l : Addr) (ts : List Int), vs = [.ref l] ∧ H l = some (.lst (ts.map V.int)) ∧ ts.length ≤ 4000000 ∧ ∀ t H', Same H H' → H t = none → RnsT H' t (canon (tp 0 ts)) → Q (.ref t) H'
theorem ok_law_runs (T : Txt K mg) : FnOk P w K mg base CX0 1 T.a_law_runs T.fd_law_runs ["tags"] spRuns := by
  refine T.F_law_runs.ok sc_law_runs (fun vs H Q E h => ?_) (fun cdv A outer s H vs Q E hr h => ?_)
  · obtain ⟨l, ts, rfl, _⟩ := h
    rfl
  · obtain ⟨l, ts, rfl, hl, hn, q⟩ := h
    refine ⟨_, (pss_cons (ps_set (i := 1) sc_law_runs.nd rfl (.inl rfl) (pe_lst pa_nil))
      (pss_cons (ps_for PassesOwn.never rfl (pi_range1 (by rfl) T.m_range (pa_cons (pe_callB call_len_seq (by rfl) T.m_len PySem.boot_len (pa_cons (pv 0) pa_nil)) pa_nil)) (pg_name (i := 2) sc_law_runs.nd rfl (.inl rfl)) (pss_one (ps_if (pt_cmpR op_ge (pe_ix ix_list (pv 0) (pv 2) (fun _ _ => rfl)) pe_int (nomark _)) (pss_one (ps_if (PW.pt (pw_and (pt_truth (pv 1) (by intro _; rfl)) (pw_and (pt_cmpR op_eq (pe_op op_add (pe_ix ix_tup (pe_ix ix_list (pv 1) (pe_un un_neg pe_int) (fun _ _ => rfl)) pe_int (fun _ _ => rfl)) (pe_ix ix_tup (pe_ix ix_list (pv 1) (pe_un un_neg pe_int) (fun _ _ => rfl)) pe_int (fun _ _ => rfl))) (pe_ix ix_list (pv 0) (pv 2) (fun _ _ => rfl)) (nomark _)) (pw_and1 (pt_cmpR op_eq (pe_op op_add (pe_ix ix_tup (pe_ix ix_list (pv 1) (pe_un un_neg pe_int) (fun _ _ => rfl)) pe_int (fun _ _ => rfl)) (pe_ix ix_tup (pe_ix ix_list (pv 1) (pe_un un_neg pe_int) (fun _ _ => rfl)) pe_int (fun _ _ => rfl))) (pv 2) (nomark _)))))) (pss_cons (ps_set (i := 3) sc_law_runs.nd rfl (.inl rfl) (pe_bm0 PySem.F.plainAttrs_list PySem.F.slot_list_pop PySem.F.type_list_pop mt_pop (pv 1)))
      (pss_one (ps_expr (pe_bm PySem.F.plainAttrs_list PySem.F.slot_list_append PySem.F.type_list_append mt_append (pv 1) (pa_cons (pe_tup (pa_cons (pe_ix ix_tup (pv 3) pe_int (fun _ _ => rfl)) (pa_cons (pe_ix ix_tup (pv 3) pe_int (fun _ _ => rfl)) (pa_cons (pe_op op_add (pe_ix ix_tup (pv 3) pe_int (fun _ _ => rfl)) pe_int) pa_nil)))) pa_nil))))) (pss_one (ps_expr (pe_bm PySem.F.plainAttrs_list PySem.F.slot_list_append PySem.F.type_list_append mt_append (pv 1) (pa_cons (pe_tup (pa_cons (pe_ix ix_list (pv 0) (pv 2) (fun _ _ => rfl)) (pa_cons (pv 2) (pa_cons pe_int pa_nil)))) pa_nil)))))) pss_nil)))
      (pss_one (ps_ret (pe_callTy call_tuple_of (by rfl) T.m_tuple (by decide +kernel) (pa_cons (pv 1) pa_nil)))))), ?_⟩
    refine ⟨Nat.zero_le _, fun p np => ?_⟩
    have s0 : Same H (upd H p (.lst [])) := same_upd np
    refine ⟨_, rfl, l, _, rfl, .inl (SqL.of (s0 _ _ hl)), _, rfl, by omega, by rw [List.length_map]; omega, ?_⟩
    rw [List.length_map]
    refine for_range (lo := 0) (n := ((ts.length : Int)).toNat) (fun i σ H' => Same H H' ∧ ∃ (ws : List V) (y2 y3 : Option V), σ = [some (.ref l), some (.ref p), y2, y3] ∧ H' p = some (.lst ws) ∧ RnsIn H' ws (((tp 0 (ts.take i)).map one1).foldl joinR []).reverse)
      ⟨s0, [], none, none, rfl, upd_same, .nil⟩ ?_ ?_
    · rintro i σ H1 hi ⟨sm, ws, y2, y3, rfl, hp, hw⟩
      have hi' : i < ts.length := by omega
      obtain ⟨x, hx⟩ : ∃ x, ts[i]? = some x := ⟨_, List.getElem?_eq_getElem hi'⟩
      have ei : (0 : Int) + (i : Int) = (i : Int) := by omega
      rw [ei]
      have lw := paired_len hw
      rw [List.length_reverse] at lw
      have lj := joinF_len ((tp 0 (ts.take i)).map one1) []
      have lt := tp_len 0 (ts.take i)
      rw [List.length_take] at lt
      rw [List.length_map] at lj
      have lz : ([] : List Rn).length = 0 := rfl
      have ti : tp 0 (ts.take (i + 1)) = tp 0 (ts.take i) ++ (if 0 ≤ x then [(x.toNat, i)] else []) := by
        have e : (ts.take i).length = i := by rw [List.length_take]; omega
        rw [take_more hx, tp_snoc, e, Nat.zero_add]
      have at1 := sm _ _ hl
      refine ⟨_, rfl, _, rfl, l, _, _, _, rfl, rfl, SqL.of at1, atI_nat (ints_get hx), _, 0, rfl, rfl, _, rfl, ite2 (fun c => ?_) (fun c => ?_)⟩
      · have c0 : 0 ≤ x := of_decide_eq_true c
        obtain ⟨n, rfl⟩ : ∃ n : Nat, x = (n : Int) := ⟨x.toNat, by omega⟩
        rw [if_pos c0, Int.toNat_natCast] at ti
        have e0 : ((tp 0 (ts.take (i + 1))).map one1).foldl joinR [] = joinR (((tp 0 (ts.take i)).map one1).foldl joinR []) (n, i, 1) := by
          rw [ti, List.map_append, List.foldl_append]
          rfl
        have fin : ∀ (j : List Rn) (a : Addr) (xs : List V) (r : Rn) (o : HO), joinR (((tp 0 (ts.take i)).map one1).foldl joinR []) (n, i, 1) = r :: j → H1 a = none → o = .tup [.int (r.1 : Int), .int (r.2.1 : Int), .int (r.2.2 : Int)] → RnsIn H1 xs j.reverse → ∀ H2, H2 p = some (.lst xs) → (∀ b u, b ≠ p → H1 b = some u → H2 b = some u) → H2 a = none →
            Same H (upd (upd H2 a o) p (.lst (xs ++ [.ref a]))) ∧ (upd (upd H2 a o) p (.lst (xs ++ [.ref a]))) p = some (.lst (xs ++ [.ref a])) ∧ RnsIn (upd (upd H2 a o) p (.lst (xs ++ [.ref a]))) (xs ++ [.ref a]) (((tp 0 (ts.take (i + 1))).map one1).foldl joinR []).reverse := fun j a xs r o hj na ho hxs H2 h2 hk na2 => by
          subst ho
          have hp2 : (upd H2 a (.tup [.int (r.1 : Int), .int (r.2.1 : Int), .int (r.2.2 : Int)])) p = some (.lst xs) := by rw [upd_ne (ne_of_none h2 na2)]; exact h2
          have sm2 : Same H H2 := fun b u e => hk b u (fun z => by rw [z, np] at e; cases e) (sm b u e)
          have t12 : Tups H1 H2 := fun b us e => hk b _ (fun z => by rw [z, hp] at e; cases e) e
          refine ⟨same_mut (sm2.trans (same_upd na2)) np, upd_same, ?_⟩
          rw [e0, hj, List.reverse_cons]
          have tt := (Tups.new (H := H2) (o := .tup [.int (r.1 : Int), .int (r.2.1 : Int), .int (r.2.2 : Int)]) na2).trans (Tups.mut (o := .lst (xs ++ [.ref a])) hp2)
          exact paired_app (hxs.mono (t12.trans tt)) (.cons ⟨a, rfl, (Tups.mut hp2) _ _ upd_same⟩ .nil)
        cases hacc : ((tp 0 (ts.take i)).map one1).foldl joinR [] with
        | nil =>
          rw [hacc] at hw
          cases hw
          refine ⟨_, rfl, false, .inl ⟨[], SqL.of hp, rfl⟩, iteF ?_⟩
          refine iteF ⟨_, rfl, .inl ⟨rfl, _, SqL.of hp⟩, _, rfl, _, rfl, l, _, _, _, rfl, rfl, SqL.of at1, atI_nat (ints_get hx), _, rfl, by show 3 ≤ sizeLine; decide, fun a na => ?_⟩
          obtain ⟨b1, b2, b3⟩ := fin [] a [] (n, i, 1) _ (by rw [hacc]; rfl) na rfl .nil H1 hp (fun _ _ _ e => e) na
          exact ⟨p, _, _, rfl, rfl, by rw [upd_ne (ne_of_none hp na)]; exact hp, by show 0 < sizeLine; decide, b1, _, _, _, rfl, b2, b3⟩
        | cons y acc =>
          obtain ⟨o1, n1, c1⟩ := y
          rw [hacc] at hw
          obtain ⟨ws', tl, rfl, hw', htl⟩ := rns_split hw
          have htl : H1 tl = some (.tup [.int (o1 : Int), .int (n1 : Int), .int (c1 : Int)]) := htl
          have e1 : joinR (((tp 0 (ts.take i)).map one1).foldl joinR []) (n, i, 1) = if o1 + c1 = n ∧ n1 + c1 = i then (o1, n1, c1 + 1) :: acc else (n, i, 1) :: (o1, n1, c1) :: acc := by rw [hacc]; rfl
          have lw2 : ws'.length + 1 ≤ 4000000 := by
            rw [List.length_append] at lw
            rw [hacc] at lw lj
            have l1 : ([V.ref tl] : List V).length = 1 := rfl
            omega
          have push : ¬ (o1 + c1 = n ∧ n1 + c1 = i) → ∀ a, H1 a = none → ∃ (l' : Addr) (xs : List V) (v : V), V.ref p = .ref l' ∧ [V.ref a] = [v] ∧ (upd H1 a (.tup [.int (n : Int), .int (i : Int), .int 1])) l' = some (.lst xs) ∧ xs.length < sizeLine ∧
              (Same H (upd (upd H1 a (.tup [.int (n : Int), .int (i : Int), .int 1])) l' (.lst (xs ++ [v]))) ∧ ∃ (ws : List V) (z2 z3 : Option V), [some (.ref l), some (.ref p), some (.int (i : Int)), y3] = [some (.ref l), some (.ref p), z2, z3] ∧
                (upd (upd H1 a (.tup [.int (n : Int), .int (i : Int), .int 1])) l' (.lst (xs ++ [v]))) p = some (.lst ws) ∧ RnsIn (upd (upd H1 a (.tup [.int (n : Int), .int (i : Int), .int 1])) l' (.lst (xs ++ [v]))) ws (((tp 0 (ts.take (i + 1))).map one1).foldl joinR []).reverse) := fun h a na => by
            obtain ⟨b1, b2, b3⟩ := fin ((o1, n1, c1) :: acc) a (ws' ++ [.ref tl]) (n, i, 1) _ (by rw [e1, if_neg h]) na rfl hw H1 hp (fun _ _ _ e => e) na
            exact ⟨p, _, _, rfl, rfl, by rw [upd_ne (ne_of_none hp na)]; exact hp, by rw [List.length_append]; exact Nat.lt_of_le_of_lt lw2 (by decide), b1, _, _, _, rfl, b2, b3⟩
          refine ⟨_, rfl, true, .inl ⟨_, SqL.of hp, by simp⟩, iteT ?_⟩
          refine ⟨_, rfl, 1, rfl, p, _, _, _, rfl, rfl, SqL.of hp, atI_last _ _, tl, _, 0, .int (o1 : Int), rfl, rfl, SqT.of htl, tup3 0 rfl, ?_⟩
          refine ⟨_, rfl, 1, rfl, p, _, _, _, rfl, rfl, SqL.of hp, atI_last _ _, tl, _, 2, .int (c1 : Int), rfl, rfl, SqT.of htl, tup3 2 rfl, _, _, rfl, rfl, ?_⟩
          refine ⟨_, rfl, _, rfl, l, _, _, _, rfl, rfl, SqL.of at1, atI_nat (ints_get hx), rfl, _, rfl, ite2 (fun c2 => ?_) (fun c2 => ?_)⟩
          · have d0 : o1 + c1 = n := by
              have : (o1 : Int) + (c1 : Int) = (n : Int) := V.int.inj (of_decide_eq_true c2)
              omega
            refine ⟨_, rfl, 1, rfl, p, _, _, _, rfl, rfl, SqL.of hp, atI_last _ _, tl, _, 1, .int (n1 : Int), rfl, rfl, SqT.of htl, tup3 1 rfl, ?_⟩
            refine ⟨_, rfl, 1, rfl, p, _, _, _, rfl, rfl, SqL.of hp, atI_last _ _, tl, _, 2, .int (c1 : Int), rfl, rfl, SqT.of htl, tup3 2 rfl, _, _, rfl, rfl, ?_⟩
            refine ⟨_, rfl, rfl, _, rfl, ite2 (fun c3 => ?_) (fun c3 => ?_)⟩
            · have d1 : n1 + c1 = i := by
                have : (n1 : Int) + (c1 : Int) = (i : Int) := V.int.inj (of_decide_eq_true c3)
                omega
              -- last = runs.pop()
              refine ⟨_, rfl, .inl ⟨rfl, _, SqL.of hp⟩, p, _, .ref tl, rfl, rfl, hp, by simp, ?_⟩
              rw [List.dropLast_concat]
              have htl2 : (upd H1 p (.lst ws')) tl = some (.tup [.int (o1 : Int), .int (n1 : Int), .int (c1 : Int)]) := (Tups.mut hp) _ _ htl
              refine ⟨_, rfl, .inl ⟨rfl, _, SqL.of upd_same⟩, _, rfl, tl, _, 0, .int (o1 : Int), rfl, rfl, SqT.of htl2, tup3 0 rfl, ?_⟩
              refine ⟨_, rfl, tl, _, 1, .int (n1 : Int), rfl, rfl, SqT.of htl2, tup3 1 rfl, ?_⟩
              refine ⟨_, rfl, tl, _, 2, .int (c1 : Int), rfl, rfl, SqT.of htl2, tup3 2 rfl, _, 1, rfl, rfl, by show 3 ≤ sizeLine; decide, fun a na => ?_⟩
              have nap : a ≠ p := fun z => by rw [z, upd_same] at na; cases na
              have na1 : H1 a = none := by rw [upd_ne nap] at na; exact na
              have e3 : ((c1 + 1 : Nat) : Int) = (c1 : Int) + 1 := by omega
              obtain ⟨b1, b2, b3⟩ := fin acc a ws' (o1, n1, c1 + 1) (.tup [.int (o1 : Int), .int (n1 : Int), .int ((c1 : Int) + 1)]) (by rw [e1, if_pos ⟨d0, d1⟩]) na1 (by simp only [e3]) hw' (upd H1 p (.lst ws')) upd_same (fun b u hb e => by rw [upd_ne hb]; exact e) na
              exact ⟨p, _, _, rfl, rfl, by rw [upd_ne nap.symm, upd_same], Nat.lt_of_lt_of_le (show ws'.length < 4000001 by omega) (by decide), b1, _, _, _, rfl, b2, b3⟩
            · have nd : ¬ (o1 + c1 = n ∧ n1 + c1 = i) := fun d => c3 (decide_eq_true (by have := d.2; show V.int ((n1 : Int) + (c1 : Int)) = V.int (i : Int); congr 1; omega))
              exact ⟨_, rfl, .inl ⟨rfl, _, SqL.of hp⟩, _, rfl, _, rfl, l, _, _, _, rfl, rfl, SqL.of at1, atI_nat (ints_get hx), _, rfl, by show 3 ≤ sizeLine; decide, fun a na => push nd a na⟩
          · have nd : ¬ (o1 + c1 = n ∧ n1 + c1 = i) := fun d => c2 (decide_eq_true (by have := d.1; show V.int ((o1 : Int) + (c1 : Int)) = V.int (n : Int); congr 1; omega))
            refine iteF ?_
            exact ⟨_, rfl, .inl ⟨rfl, _, SqL.of hp⟩, _, rfl, _, rfl, l, _, _, _, rfl, rfl, SqL.of at1, atI_nat (ints_get hx), _, rfl, by show 3 ≤ sizeLine; decide, fun a na => push nd a na⟩
      · have c0 : ¬ 0 ≤ x := fun z => c (decide_eq_true z)
        rw [if_neg c0, List.append_nil] at ti
        rw [ti]
        exact ⟨sm, ws, _, _, rfl, hp, hw⟩
    · rintro σ H1 ⟨sm, ws, y2, y3, rfl, hp, hw⟩
      rw [Int.toNat_natCast, List.take_length] at hw
      refine ⟨_, rfl, p, _, rfl, .inl ⟨SqL.of hp, fun t nt => ?_⟩⟩
      exact q t _ (sm.trans (same_upd nt)) (sm.free nt) ⟨ws, upd_same, hw.mono (Tups.new nt)⟩

/-! ### a carry held against what is due -/
def rnD (r : Rn) : PyData := .tuple [.int (r.1 : Int), .int (r.2.1 : Int), .int (r.2.2 : Int)]
theorem rnDs_lay : ∀ rs : List Rn, PyData.canLayAll0 (rs.map rnD) = true
  | [] => rfl
  | r :: t => by
    rw [List.map_cons]
    simp only [PyData.canLayAll0]
    rw [rnDs_lay t]
    simp [rnD, PyData.canLay0, PyData.canLayAll0]
theorem rnDs_depth : ∀ rs : List Rn, PyData.depthAll (rs.map rnD) ≤ 3
  | [] => by simp [PyData.depthAll]
  | r :: t => by
    have h2 := rnDs_depth t
    have h1 : (rnD r).depth ≤ 3 := by
      unfold rnD
      simp [PyData.depth, PyData.depthAll]
    rw [List.map_cons]
    simp only [PyData.depthAll]
    omega
theorem rnT_lay (rs : List Rn) : (PyData.tuple (rs.map rnD)).canLay0 = true := by
  simp only [PyData.canLay0]
  exact rnDs_lay rs
theorem rnL_lay (rs : List Rn) : (PyData.list (rs.map rnD)).canLay0 = true := by
  simp only [PyData.canLay0]
  exact rnDs_lay rs
theorem rnT_shaped (rs : List Rn) : SeqAt.shaped (.tuple (rs.map rnD)) = true := by
  unfold SeqAt.shaped
  rw [rnT_lay]
  have := rnDs_depth rs
  have d : (PyData.tuple (rs.map rnD)).depth = PyData.depthAll (rs.map rnD) + 1 := by simp only [PyData.depth]
  rw [d, Bool.true_and, decide_eq_true_eq]
  omega
theorem rnL_shaped (rs : List Rn) : SeqAt.shaped (.list (rs.map rnD)) = true := by
  unfold SeqAt.shaped
  rw [rnL_lay]
  have := rnDs_depth rs
  have d : (PyData.list (rs.map rnD)).depth = PyData.depthAll (rs.map rnD) + 1 := by simp only [PyData.depth]
  rw [d, Bool.true_and, decide_eq_true_eq]
  omega
theorem rns_dp {H : Hp} : ∀ {vs : List V} {rs : List Rn}, RnsIn H vs rs → DpAll K H vs (rs.map rnD)
  | _, _, .nil => .nil
  | _, _, .cons h t => .cons (by
    obtain ⟨p, rfl, hp⟩ := h
    exact .tup (SqT.of hp) (.cons (.int _) (.cons (.int _) (.cons (.int _) .nil)))) (rns_dp t)
theorem RnsT.dp {H : Hp} {t : Addr} {rs : List Rn} (h : RnsT H t rs) : Dp K H (.ref t) (.tuple (rs.map rnD)) := by
  obtain ⟨us, h1, h2⟩ := h
  exact .tup (SqT.of h1) (rns_dp h2)
theorem rnsL_dp {H : Hp} {l : Addr} {us : List V} {rs : List Rn} (h : H l = some (.lst us)) (h2 : RnsIn H us rs) : Dp K H (.ref l) (.list (rs.map rnD)) := .lst (SqL.of h) (rns_dp h2)

def spCOk (C : Addr) : Sp := fun vs H Q _ => ∃ (p r : Addr) (a b : Nat) (rs : List Rn), vs = [.ref p, .int (a : Int), .int (b : Int), .ref r] ∧ CarryR C H p a b rs ∧ RnsT H r rs ∧ rs.length ≤ 4000000 ∧ ∀ H', Same H H' → Q (.bl true) H'
theorem ok_carry_ok (T : Txt K mg) : FnOk P w K mg base CX0 4 T.a_law_carry_ok T.fd_law_carry_ok ["told", "old", "new", "runs"] (spCOk T.C_Carry) := by
  have G_law_number : FnOk P w K mg base CX0 1 T.a_law_number T.fd_law_number ["value"] spNumber := ok_number T
  refine T.F_law_carry_ok.ok sc_law_carry_ok (fun vs H Q E h => ?_) (fun cdv A outer s H vs Q E hr h => ?_)
  · obtain ⟨p, r, a, b, rs, rfl, _⟩ := h
    rfl
  · have hr_law_number : Room 1 _ := hr.mono (by decide)
    have hr_list_Carry___iter__ : Room 3 _ := hr
    obtain ⟨p, r, a, b, rs, rfl, ⟨t, ⟨dx, hp⟩, us, ht, hu⟩, ⟨vs', hr', hv⟩, hn, q⟩ := h
    have l1 := paired_len hu
    have l2 := paired_len hv
    refine ⟨_, (pss_cons (ps_if (PW.pt (pw_or (pt_not (pt_val (pe_callB (C8.call_isC T.IC_Carry) (by rfl) T.m_isinstance (by decide +kernel) (pa_cons (pv 0) (pa_cons (pe_glob (v := .ref T.C_Carry) (by rfl) T.G_Carry rfl) pa_nil))))) (pw_or (pt_not (pt_val (pe_call G_law_number hr_law_number (by rfl) T.g_law_number T.F_law_number.kp T.b_law_number .nil pass0 (pa_cons (pe_fld (pv 0) rfl) pa_nil)))) (pw_or1 (pt_not (pt_val (pe_call G_law_number hr_law_number (by rfl) T.g_law_number T.F_law_number.kp T.b_law_number .nil pass0 (pa_cons (pe_fld (pv 0) rfl) pa_nil)))))))) (pss_one (ps_ret pe_bl)) pss_nil)
      (pss_cons (ps_if (PW.pt (pw_or (pt_cmpR op_ne (pe_fld (pv 0) rfl) (pv 1) (nomark _)) (pw_or (pt_cmpR op_ne (pe_fld (pv 0) rfl) (pv 2) (nomark _)) (pw_or (pt_not (pt_val (pe_callB call_isi (by rfl) T.m_isinstance (by decide +kernel) (pa_cons (pe_fld (pv 0) rfl) (pa_cons (pe_bltn (v := .ty "tuple") (by rfl) T.m_tuple (by decide +kernel) rfl) pa_nil))))) (pw_or1 (pt_cmpR op_ne (pe_callB call_len_seq (by rfl) T.m_len PySem.boot_len (pa_cons (pe_fld (pv 0) rfl) pa_nil)) (pe_callB call_len_seq (by rfl) T.m_len PySem.boot_len (pa_cons (pv 3) pa_nil)) (nomark _))))))) (pss_one (ps_ret pe_bl)) pss_nil)
      (pss_cons (ps_for PassesOwn.never rfl (pi_tup (pe_fld (pv 0) rfl)) (pg_name (i := 4) sc_law_carry_ok.nd rfl (.inl rfl)) (pss_cons (ps_if (PW.pt (pw_or (pt_not (pt_val (pe_callB call_isi (by rfl) T.m_isinstance (by decide +kernel) (pa_cons (pv 4) (pa_cons (pe_bltn (v := .ty "tuple") (by rfl) T.m_tuple (by decide +kernel) rfl) pa_nil))))) (pw_or1 (pt_cmpR op_ne (pe_callB call_len_seq (by rfl) T.m_len PySem.boot_len (pa_cons (pv 4) pa_nil)) pe_int (nomark _))))) (pss_one (ps_ret pe_bl)) pss_nil)
      (pss_one (ps_for PassesOwn.never rfl (pi_tup (pv 4)) (pg_name (i := 5) sc_law_carry_ok.nd rfl (.inl rfl)) (pss_one (ps_if (pt_not (pt_val (pe_call G_law_number hr_law_number (by rfl) T.g_law_number T.F_law_number.kp T.b_law_number .nil pass0 (pa_cons (pv 5) pa_nil)))) (pss_one (ps_ret pe_bl)) pss_nil))))))
      (pss_one (ps_ret (pe_and (pe_cmpR (op_eqD hr.units) (pe_fld (pv 0) rfl) (pv 3) (nomark _)) (pe_one (pe_cmpR (op_eqD hr.units) (pe_callTy (OwnOp.call_listT T.IT_Carry T.F_Carry___iter__ sc_Carry___iter__ (it_Carry___iter__ T) T.b_Carry___iter__ hr_list_Carry___iter__ hr.hd) (by rfl) T.m_list (by decide +kernel) (pa_cons (pv 0) pa_nil)) (pe_callTy call_list_of (by rfl) T.m_list (by decide +kernel) (pa_cons (pv 3) pa_nil)) (nomark _))))))))), ?_⟩
    refine ⟨_, rfl, p, dx, _, rfl, hp, true, rfl, iteF ?_⟩
    refine ⟨_, rfl, p, T.C_Carry, dx, _, _, rfl, hp, T.CL_Carry, T.NA_Carry_old, cfl_old _ _ _, _, rfl, true, rfl, iteF ?_⟩
    refine ⟨_, rfl, p, T.C_Carry, dx, _, _, rfl, hp, T.CL_Carry, T.NA_Carry_new, cfl_new _ _ _, _, rfl, true, rfl, iteF ?_⟩
    -- told.old != old ..
    refine ⟨_, rfl, p, T.C_Carry, dx, _, _, rfl, hp, T.CL_Carry, T.NA_Carry_old, cfl_old _ _ _, _, rfl, rfl, _, rfl, iteNS rfl ?_⟩
    refine ⟨_, rfl, p, T.C_Carry, dx, _, _, rfl, hp, T.CL_Carry, T.NA_Carry_new, cfl_new _ _ _, _, rfl, rfl, _, rfl, iteNS rfl ?_⟩
    refine ⟨_, rfl, p, T.C_Carry, dx, _, _, rfl, hp, T.CL_Carry, T.NA_Carry_runs, cfl_runs _ _ _, _, _, _, _, true, rfl, .ty _, .base (.tup ht), kit_ty (by decide +kernel), true, rfl, iteF ?_⟩
    refine ⟨_, rfl, p, T.C_Carry, dx, _, _, rfl, hp, T.CL_Carry, T.NA_Carry_runs, cfl_runs _ _ _, t, _, rfl, .inr (SqT.of ht), _, rfl, r, _, rfl, .inr (SqT.of hr'), rfl, _, rfl, ?_⟩
    rw [l1, l2]
    refine iteNS rfl ?_
    -- for row in told.runs
    refine ⟨_, rfl, p, T.C_Carry, dx, _, _, rfl, hp, T.CL_Carry, T.NA_Carry_runs, cfl_runs _ _ _, t, rfl, ⟨_, SqT.of ht⟩, ?_⟩
    refine for_tup (K := K) (a := t) (xs := us) (fun i σ H' => H' = H ∧ ∃ y4 y5 : Option V, σ = [some (.ref p), some (.int (a : Int)), some (.int (b : Int)), some (.ref r), y4, y5]) ⟨rfl, none, none, rfl⟩ (fun i σ H' _ ⟨s, _⟩ => by rw [s]; exact SqT.of ht) ?_ ?_
    · rintro i x σ H1 hx ⟨rfl, y4, y5, rfl⟩
      obtain ⟨e, he⟩ : ∃ e, rs[i]? = some e := ⟨_, List.getElem?_eq_getElem (by rw [← l1]; exact (List.getElem?_eq_some_iff.mp hx).1)⟩
      obtain ⟨x', hx', c, rfl, hc⟩ := paired_get hu he
      rw [hx] at hx'
      have h1 := Option.some.inj hx'
      subst h1
      refine ⟨_, rfl, _, _, _, _, true, rfl, .ty _, .base (.tup hc), kit_ty (by decide +kernel), true, rfl, iteF ?_⟩
      refine ⟨_, rfl, c, _, rfl, .inr (SqT.of hc), rfl, _, rfl, iteNS rfl ?_⟩
      refine ⟨_, rfl, c, rfl, ⟨_, SqT.of hc⟩, ?_⟩
      refine for_tup (K := K) (a := c) (xs := [.int (e.1 : Int), .int (e.2.1 : Int), .int (e.2.2 : Int)]) (fun j σ H' => H' = H1 ∧ ∃ y5 : Option V, σ = [some (.ref p), some (.int (a : Int)), some (.int (b : Int)), some (.ref r), some (.ref c), y5]) ⟨rfl, _, rfl⟩ (fun j σ H' _ ⟨s, _⟩ => by rw [s]; exact SqT.of hc) ?_ ?_
      · rintro j y σ H2 hy ⟨rfl, y5, rfl⟩
        obtain ⟨z, rfl⟩ : ∃ z, y = V.int z := by
          have hm := List.mem_of_getElem? hy
          simp only [List.mem_cons, List.not_mem_nil, or_false] at hm
          rcases hm with rfl | rfl | rfl <;> exact ⟨_, rfl⟩
        exact ⟨_, rfl, z, rfl, true, rfl, iteF ⟨rfl, _, rfl⟩⟩
      · rintro σ H2 ⟨rfl, y5, rfl⟩
        exact ⟨rfl, _, _, rfl⟩
    · rintro σ H1 ⟨rfl, y4, y5, rfl⟩
      refine ⟨_, rfl, p, T.C_Carry, dx, _, _, rfl, hp, T.CL_Carry, T.NA_Carry_runs, cfl_runs _ _ _, _, rfl, _, _, RnsT.dp ⟨us, ht, hu⟩, RnsT.dp ⟨vs', hr', hv⟩, rnT_shaped _, rnT_shaped _, ?_⟩
      rw [SeqAt.eqv_refl _ (rnT_lay _)]
      refine ⟨true, rfl, iteT ?_⟩
      refine ⟨_, rfl, p, dx, _, t, us, rfl, hp, ⟨dx, _, _, hp⟩, fun l o nl => ⟨dx, _, _, by rw [upd_ne (ne_of_none hp nl)]; exact hp⟩, SqT.of ht, Nat.lt_of_lt_of_le (show us.length < 4000001 by omega) (by decide), fun l1 n1 => ?_⟩
      have s1 := same_upd (o := .lst us) n1
      refine ⟨_, rfl, r, vs', rfl, .inr (SqT.of (s1 _ _ hr')), fun l2 n2 => ?_⟩
      have s2 := same_upd (o := .lst vs') n2
      have d1 : Dp K (upd (upd H1 l1 (.lst us)) l2 (.lst vs')) (.ref l1) (.list (rs.map rnD)) := rnsL_dp (s2 _ _ upd_same) (hu.mono ((same_tups s1).trans (same_tups s2)))
      have d2 : Dp K (upd (upd H1 l1 (.lst us)) l2 (.lst vs')) (.ref l2) (.list (rs.map rnD)) := rnsL_dp upd_same (hv.mono ((same_tups s1).trans (same_tups s2)))
      refine ⟨_, _, d1, d2, rnL_shaped _, rnL_shaped _, ?_⟩
      rw [SeqAt.eqv_refl _ (rnL_lay _)]
      exact q _ (s1.trans s2)

/-! ### what is due -/
theorem short_size : ∀ {es : List Ed} {n : Nat}, Short es → sizeL n es ≤ n + es.length * 2000
  | [], n, _ => Nat.le_add_right _ _
  | e :: r, n, h => by
    have ih := short_size (es := r) (n := size1 n e) fun x hx => h x (List.mem_cons_of_mem _ hx)
    have h1 := (h e List.mem_cons_self).1
    show sizeL (size1 n e) r ≤ n + (r.length + 1) * 2000
    have h2 : size1 n e ≤ n + e.len := by
      unfold size1
      omega
    omega
theorem short_take {es : List Ed} (h : Short es) (k : Nat) : Short (es.take k) := fun e he => h e (List.mem_of_mem_take he)
theorem short_sizes {es : List Ed} {n : Nat} (h : Short es) (hn : n ≤ 50000) (hl : es.length ≤ 400) : ∀ k, fitsL n (es.take k) → sizeL n (es.take k) ≤ 3000000 := fun k _ => by
  have h1 := short_size (n := n) (short_take h k)
  have h2 : (es.take k).length ≤ es.length := by rw [List.length_take]; exact Nat.min_le_right _ _
  have h3 : (es.take k).length * 2000 ≤ 400 * 2000 := Nat.mul_le_mul_right _ (by omega)
  omega
theorem tags_len {n : Nat} {es : List Ed} (h : fitsL n es) (hs : Short es) (hn : n ≤ 50000) (hl : es.length ≤ 400) : (tagsE n es).length ≤ 3000001 := by
  rw [(tags_tagged h).2]
  have h1 := short_sizes hs hn hl es.length
  rw [List.take_length] at h1
  have := h1 h
  omega

def spDueC : Sp := fun vs H Q _ => ∃ (n : Nat) (l : Addr) (es : List Ed), vs = [.int (n : Int), .ref l] ∧ EdsAt H l es ∧ fitsL n es ∧ Short es ∧ es.length ≤ 400 ∧ n ≤ 50000 ∧
  ∀ t r H', Same H H' → H' t = some (.tup [.int (n : Int), .int ((sizeL n es : Nat) : Int), .ref r]) → RnsT H' r (canon (tp 0 (tagsE n es))) → Q (.ref t) H'
theorem ok_due (T : Txt K mg) : FnOk P w K mg base CX0 2 T.a_law_due T.fd_law_due ["size", "edits"] spDueC := by
  have G_law_tags : FnOk P w K mg base CX0 1 T.a_law_tags T.fd_law_tags ["size", "edits"] spTags := ok_tags T
  have G_law_runs : FnOk P w K mg base CX0 1 T.a_law_runs T.fd_law_runs ["tags"] spRuns := ok_law_runs T
  refine T.F_law_due.ok sc_law_due (fun vs H Q E h => ?_) (fun cdv A outer s H vs Q E hr h => ?_)
  · obtain ⟨n, l, es, rfl, _⟩ := h
    rfl
  · have hr_law_tags : Room 1 _ := hr
    have hr_law_runs : Room 1 _ := hr
    obtain ⟨n, l, es, rfl, hE, hf, hS, hl, hn, q⟩ := h
    refine ⟨_, (pss_cons (ps_set (i := 2) sc_law_due.nd rfl (.inl rfl) (pe_call G_law_tags hr_law_tags (by rfl) T.g_law_tags T.F_law_tags.kp T.b_law_tags .nil pass0 (pa_cons (pv 0) (pa_cons (pv 1) pa_nil))))
      (pss_one (ps_ret (pe_tup (pa_cons (pv 0) (pa_cons (pe_op op_sub (pe_callB call_len_seq (by rfl) T.m_len PySem.boot_len (pa_cons (pv 2) pa_nil)) pe_int) (pa_cons (pe_call G_law_runs hr_law_runs (by rfl) T.g_law_runs T.F_law_runs.kp T.b_law_runs .nil pass0 (pa_cons (pv 2) pa_nil)) pa_nil))))))), ?_⟩
    have tl := tags_len hf hS hn hl
    have t2 := (tags_tagged hf).2
    refine ⟨_, rfl, _, rfl, n, l, es, rfl, hE, fitsL_le hf, hS, hl, hn, fun l1 H1 s1 h1 => ?_⟩
    have h1 : H1 l1 = some (.lst ((tagsE n es).map V.int)) := h1
    refine ⟨_, rfl, _, rfl, l1, _, rfl, .inl (SqL.of h1), _, 1, rfl, rfl, ?_⟩
    refine ⟨_, rfl, l1, tagsE n es, rfl, h1, by omega, fun r H2 s2 nr hR => ?_⟩
    refine ⟨by show 3 ≤ sizeLine; decide, fun t nt => ?_⟩
    refine q t r _ (s1.trans (s2.trans (same_upd nt))) ?_ (hR.mono (Tups.new nt))
    rw [upd_same]
    have e : (((tagsE n es).map V.int).length : Int) - 1 = ((sizeL n es : Nat) : Int) := by
      rw [List.length_map, t2]
      omega
    show some (HO.tup [.int (n : Int), .int ((((tagsE n es).map V.int).length : Int) - 1), .ref r]) = _
    rw [e]
def spRight (C : Addr) : Sp := fun vs H Q _ => ∃ (p d r : Addr) (a b : Nat) (rs : List Rn), vs = [.ref p, .ref d] ∧ H d = some (.tup [.int (a : Int), .int (b : Int), .ref r]) ∧ CarryR C H p a b rs ∧ RnsT H r rs ∧ rs.length ≤ 4000000 ∧ ∀ H', Same H H' → Q (.bl true) H'
theorem ok_right (T : Txt K mg) : FnOk P w K mg base CX0 5 T.a_law_right T.fd_law_right ["told", "due"] (spRight T.C_Carry) := by
  have G_law_carry_ok : FnOk P w K mg base CX0 4 T.a_law_carry_ok T.fd_law_carry_ok ["told", "old", "new", "runs"] (spCOk T.C_Carry) := ok_carry_ok T
  refine T.F_law_right.ok sc_law_right (fun vs H Q E h => ?_) (fun cdv A outer s H vs Q E hr h => ?_)
  · obtain ⟨p, d, r, a, b, rs, rfl, _⟩ := h
    rfl
  · have hr_law_carry_ok : Room 4 _ := hr
    obtain ⟨p, d, r, a, b, rs, rfl, hd, hC, hR, hn, q⟩ := h
    refine ⟨_, (pss_one (ps_ret (pe_call G_law_carry_ok hr_law_carry_ok (by rfl) T.g_law_carry_ok T.F_law_carry_ok.kp T.b_law_carry_ok .nil pass0 (pa_cons (pv 0) (pa_cons (pe_ix ix_tup (pv 1) pe_int (fun _ _ => rfl)) (pa_cons (pe_ix ix_tup (pv 1) pe_int (fun _ _ => rfl)) (pa_cons (pe_ix ix_tup (pv 1) pe_int (fun _ _ => rfl)) pa_nil))))))), ?_⟩
    refine ⟨_, rfl, _, rfl, d, _, 0, .int (a : Int), rfl, rfl, SqT.of hd, atI_nat (j := 0) rfl, ?_⟩
    refine ⟨_, rfl, d, _, 1, .int (b : Int), rfl, rfl, SqT.of hd, atI_nat (j := 1) rfl, ?_⟩
    refine ⟨_, rfl, d, _, 2, .ref r, rfl, rfl, SqT.of hd, atI_nat (j := 2) rfl, ?_⟩
    exact ⟨p, r, a, b, rs, rfl, hC, hR, hn, q⟩
/-! ### an edit list that does not fit -/
def spRefusedC : Sp := fun vs H Q _ => ∃ (n : Nat) (l : Addr) (es : List Ed) (k : Nat), vs = [.int (n : Int), .ref l] ∧ EdsAt H l es ∧ Sized es ∧ es.length ≤ 2000 ∧ (∀ k, fitsL n (es.take k) → sizeL n (es.take k) ≤ 3000000) ∧ unfit n es = some k ∧
  ∀ t H', Same H H' → H' t = some (.tup [.int (k : Int), .bl true]) → Q (.ref t) H'
theorem ok_refused (T : Txt K mg) : FnOk P w K mg base CX0 6 T.a_law_refused T.fd_law_refused ["size", "edits"] spRefusedC := by
  have G_carry_of : FnOk P w K mg base (L2.CX P w) 5 T.a_carry_of T.fd_carry_of ["length", "edits"] (spCarryOf T.C_Carry T.C_EditError) := ok_carry_of T
  refine T.F_law_refused.ok sc_law_refused (fun vs H Q E h => ?_) (fun cdv A outer s H vs Q E hr h => ?_)
  · obtain ⟨n, l, es, k, rfl, _⟩ := h
    rfl
  · have hr_carry_of : Room 5 _ := hr
    obtain ⟨n, l, es, k, rfl, hE, hS, hn, hz, hk, q⟩ := h
    refine ⟨_, (pss_cons (ps_try_as (i := 2) (Wout := fun _ _ _ _ => False) rfl rfl sc_law_refused.nd rfl rfl ⟨rfl, by decide, .inl T.G_EditError⟩ takes0 (fun W pn xe tk _ => (pss_one (ps_expr (pe_callS G_carry_of hr_carry_of rfl T.g_carry_of T.F_carry_of.kp T.b_carry_of (fun σ => passAt tk σ) (pa_cons (pv 0) (pa_cons (pv 1) pa_nil)))))) (fun a oe cls d pn hz hf => (pss_one (ps_ret (pe_tup (pa_cons (pe_xf T.E_EditError.xf T.n_EditError_index hz hf (pv 2)) (pa_cons (pe_and (pe_callB (call_isX hz hf) (by rfl) T.m_isinstance (by decide +kernel) (pa_cons (pv 2) (pa_cons (pe_glob (v := .ref T.C_MendedError) (by rfl) T.G_MendedError rfl) pa_nil))) (pe_and (pe_callB (call_isX hz hf) (by rfl) T.m_isinstance (by decide +kernel) (pa_cons (pv 2) (pa_cons (pe_bltn (v := .ty "ValueError") (by rfl) T.m_ValueError (by decide +kernel) rfl) pa_nil))) (pe_one (pe_not (pe_callB (call_isX hz hf) (by rfl) T.m_isinstance (by decide +kernel) (pa_cons (pv 2) (pa_cons (pe_glob (v := .ref T.C_Entangled) (by rfl) T.G_Entangled rfl) pa_nil))))))) pa_nil)))))))
      (pss_one (ps_ret (pe_tup (pa_cons (pe_un un_neg pe_int) (pa_cons pe_bl pa_nil)))))), ?_⟩
    refine ⟨_, rfl, _, rfl, n, l, es, rfl, hE, hS, hn, hz, fun hf => ?_, fun j hj d H1 sm nd hd => ?_⟩
    · rw [unfit_none.mpr hf] at hk
      cases hk
    · rw [hk] at hj
      have hj' := Option.some.inj hj
      subst hj'
      refine ⟨true, T.E_EditError.self, fun _ a ha => ?_, fun z => Bool.noConfusion z⟩
      refine ⟨_, rfl, rfl, rfl, d, _, _, rfl, hd, rfl, ?_⟩
      refine ⟨_, rfl, _, d, rfl, rfl, T.E_EditError.exc, _, _, true, _, rfl, .own _, hd, T.k_EditError_MendedError, true, rfl, iteT ?_⟩
      refine ⟨_, rfl, _, d, rfl, rfl, T.E_EditError.exc, _, _, true, _, rfl, .ty _, hd, T.k_EditError_ValueError, true, rfl, iteT ?_⟩
      refine ⟨_, rfl, _, d, rfl, rfl, T.E_EditError.exc, _, _, false, _, rfl, .own _, hd, T.k_EditError_Entangled, false, rfl, ?_⟩
      refine ⟨by show 2 ≤ sizeLine; decide, fun t nt => ?_⟩
      exact q t _ (sm.trans (same_upd nt)) upd_same
/-! ### the last run -/
theorem canon_last (qs : List (Nat × Nat)) (o n : Nat) : ∃ rs r, canon (qs ++ [(o, n)]) = rs ++ [r] ∧ r.1 + r.2.2 = o + 1 ∧ r.2.1 + r.2.2 = n + 1 := by
  unfold canon joinedL
  rw [List.map_append]
  show ∃ rs r, ((qs.map one1 ++ [(o, n, 1)]).foldl joinR []).reverse = rs ++ [r] ∧ _
  rw [fold_snoc]
  cases e : (qs.map one1).foldl joinR [] with
  | nil => exact ⟨[], (o, n, 1), rfl, rfl, rfl⟩
  | cons x t =>
    obtain ⟨a, b, d⟩ := x
    show ∃ rs r, (if a + d = o ∧ b + d = n then (a, b, d + 1) :: t else (o, n, 1) :: (a, b, d) :: t).reverse = rs ++ [r] ∧ _
    by_cases c : a + d = o ∧ b + d = n
    · rw [if_pos c, List.reverse_cons]
      exact ⟨_, _, rfl, by simp only; omega, by simp only; omega⟩
    · rw [if_neg c, List.reverse_cons]
      exact ⟨_, _, rfl, rfl, rfl⟩
theorem tagged_last {old : Nat} {t : List Int} (h : Tagged old t) : ∃ rs r, canon (tp 0 t) = rs ++ [r] ∧ r.1 + r.2.2 = old + 1 ∧ r.2.1 + r.2.2 = t.length := by
  obtain ⟨s, rfl⟩ := h.last
  rw [tp_snoc, if_pos (Int.natCast_nonneg _), Int.toNat_natCast, Nat.zero_add, List.length_append]
  exact canon_last _ _ _

/-! ### asked -/
theorem but_carry {C x : Addr} {H H' : Hp} {p : Addr} {a b : Nat} {rs : List Rn} {us : List V} (hx : H x = some (.lst us)) (s : But x H H') (h : CarryR C H p a b rs) : CarryR C H' p a b rs := by
  obtain ⟨t, ⟨dx, h1⟩, vs, h2, h3⟩ := h
  have tt : Tups H H' := fun c xs e => s c _ (fun z => by rw [z, hx] at e; cases e) e
  exact ⟨t, ⟨dx, s _ _ (fun z => by rw [z, hx] at h1; cases h1) h1⟩, vs, tt _ _ h2, h3.mono tt⟩
theorem but_tups {x : Addr} {H H' : Hp} {us : List V} (hx : H x = some (.lst us)) (s : But x H H') : Tups H H' := fun c xs e => s c _ (fun z => by rw [z, hx] at e; cases e) e
def spAsked : Sp := fun vs H Q _ => ∃ (n : Nat) (l l2 : Addr) (es fs : List Ed), vs = [.int (n : Int), .ref l, .ref l2] ∧ EdsAt H l es ∧ EdsAt H l2 fs ∧ fitsL n es ∧ fitsL n fs ∧ Short es ∧ Short fs ∧ es.length ≤ 400 ∧ fs.length ≤ 400 ∧ n ≤ 50000 ∧ ∀ H', Same H H' → Q (.bl true) H'
theorem ok_asked (T : Txt K mg) : FnOk P w K mg base CX0 6 T.a_law_asked T.fd_law_asked ["size", "edits", "others"] spAsked := by
  have G_law_due : FnOk P w K mg base CX0 2 T.a_law_due T.fd_law_due ["size", "edits"] spDueC := ok_due T
  have G_law_right : FnOk P w K mg base CX0 5 T.a_law_right T.fd_law_right ["told", "due"] (spRight T.C_Carry) := ok_right T
  have G_carry_of : FnOk P w K mg base (L2.CX P w) 5 T.a_carry_of T.fd_carry_of ["length", "edits"] (spCarryOf T.C_Carry T.C_EditError) := ok_carry_of T
  have G_Carry_init : FnOk P w K mg base CX0 1 T.a_Carry_init T.fd_Carry_init ["self", "old", "new", "runs"] (spCInit T.C_Carry) := ok_Carry_init T
  refine T.F_law_asked.ok sc_law_asked (fun vs H Q E h => ?_) (fun cdv A outer s H vs Q E hr h => ?_)
  · obtain ⟨n, l, l2, es, fs, rfl, _⟩ := h
    rfl
  · have hr_law_due : Room 2 _ := hr.mono (by decide)
    have hr_law_right : Room 5 _ := hr
    have hr_carry_of : Room 5 _ := hr
    have hr_Carry_init : Room 2 _ := hr.mono (by decide)
    have hr_Carry___iter__ : Room 1 _ := hr.mono (by decide)
    obtain ⟨n, l, l2, es, fs, rfl, hE, hF, hfe, hff, hSe, hSf, hle, hlf, hn, q⟩ := h
    have hoes : ∀ e ∈ es, TOk e.2.2 := fun e he => (hSe e he).2
    refine ⟨_, (pss_cons (ps_set (i := 3) sc_law_asked.nd rfl (.inl rfl) (pe_call G_law_due hr_law_due (by rfl) T.g_law_due T.F_law_due.kp T.b_law_due .nil pass0 (pa_cons (pv 0) (pa_cons (pv 1) pa_nil))))
      (pss_cons (ps_set (i := 4) sc_law_asked.nd rfl (.inl rfl) (pe_call G_law_due hr_law_due (by rfl) T.g_law_due T.F_law_due.kp T.b_law_due .nil pass0 (pa_cons (pv 0) (pa_cons (pv 2) pa_nil))))
      (pss_cons (ps_set (i := 5) sc_law_asked.nd rfl (.inl rfl) (pe_callTy call_list_of (by rfl) T.m_list (by decide +kernel) (pa_cons (pv 1) pa_nil)))
      (pss_cons (ps_set (i := 6) sc_law_asked.nd rfl (.inl rfl) (pe_call G_carry_of hr_carry_of (by rfl) T.g_carry_of T.F_carry_of.kp T.b_carry_of .nil (passX0 rfl rfl) (pa_cons (pv 0) (pa_cons (pv 5) pa_nil))))
      (pss_cons (ps_if (pt_cmpR (op_neD hr.units) (pv 5) (pv 1) (nomark _)) (pss_one (ps_ret pe_bl)) pss_nil)
      (pss_cons (ps_expr (pe_bm PySem.F.plainAttrs_list PySem.F.slot_list_append PySem.F.type_list_append mt_append (pv 5) (pa_cons (pe_tup (pa_cons pe_int (pa_cons pe_int (pa_cons pe_str pa_nil)))) pa_nil)))
      (pss_cons (ps_set (i := 7) sc_law_asked.nd rfl (.inl rfl) (pe_call G_carry_of hr_carry_of (by rfl) T.g_carry_of T.F_carry_of.kp T.b_carry_of .nil (passX0 rfl rfl) (pa_cons (pv 0) (pa_cons (pe_callTy call_list_of (by rfl) T.m_list (by decide +kernel) (pa_cons (pv 2) pa_nil)) pa_nil))))
      (pss_cons (ps_set (i := 8) sc_law_asked.nd rfl (.inl rfl) (pe_make T.MK_Carry G_Carry_init hr_Carry_init (by rfl) T.G_Carry T.b_Carry_init .nil pass0 (pa_cons (pe_ix ix_tup (pv 3) pe_int (fun _ _ => rfl)) (pa_cons (pe_ix ix_tup (pv 3) pe_int (fun _ _ => rfl)) (pa_cons (pe_ix ix_tup (pv 3) pe_int (fun _ _ => rfl)) pa_nil)))))
      (pss_cons (ps_for PassesOwn.never rfl (pi_range1 (by rfl) T.m_range (pa_cons pe_int pa_nil)) (pg_name (i := 9) sc_law_asked.nd rfl (.inl rfl)) (pss_one (ps_if (PW.pt (pw_or (pt_not (pt_val (pe_call G_law_right hr_law_right (by rfl) T.g_law_right T.F_law_right.kp T.b_law_right .nil pass0 (pa_cons (pv 6) (pa_cons (pv 3) pa_nil))))) (pw_or (pt_not (pt_val (pe_call G_law_right hr_law_right (by rfl) T.g_law_right T.F_law_right.kp T.b_law_right .nil pass0 (pa_cons (pv 7) (pa_cons (pv 4) pa_nil))))) (pw_or1 (pt_not (pt_val (pe_call G_law_right hr_law_right (by rfl) T.g_law_right T.F_law_right.kp T.b_law_right .nil pass0 (pa_cons (pv 8) (pa_cons (pv 3) pa_nil))))))))) (pss_one (ps_ret pe_bl)) pss_nil)))
      (pss_cons (ps_setLc (i := 10) (own := [("row", 11)]) (g := gName 11) (by rfl) sc_law_asked.nd rfl rfl (sw_true rfl rfl rfl (by decide +kernel)) (OwnOp.pi_own (pv 6) hr_Carry___iter__ T.IT_Carry T.F_Carry___iter__ sc_Carry___iter__ (it_Carry___iter__ T) T.b_Carry___iter__) (blkOk_by (own := [("row", 11)]) (N := ["size", "edits", "others", "due", "due_others", "handed", "told", "beside", "made", "turn", "rows", "row"]) (sc := defScope s_law_asked) (by decide +kernel)) (fun _ _ _ _ _ => pg_name (i := 11) sc_law_asked.nd rfl (Or.inl rfl)) (fun _ _ _ _ _ => pts_nil) (fun _ _ _ _ _ => (pe_tup (pa_cons (pe_op op_add (pe_ix (ix_tupK (K := K) rfl) (pv 11) pe_int (fun _ _ => rfl)) (pe_ix (ix_tupK (K := K) rfl) (pv 11) pe_int (fun _ _ => rfl))) (pa_cons (pe_op op_add (pe_ix (ix_tupK (K := K) rfl) (pv 11) pe_int (fun _ _ => rfl)) (pe_ix (ix_tupK (K := K) rfl) (pv 11) pe_int (fun _ _ => rfl))) pa_nil)))))
      (pss_cons (ps_if (pt_cmpR (op_neD hr.units) (pe_ix ix_list (pv 10) (pe_un un_neg pe_int) (fun _ _ => rfl)) (pe_tup (pa_cons (pe_op op_add (pv 0) pe_int) (pa_cons (pe_op op_add (pe_ix ix_tup (pv 3) pe_int (fun _ _ => rfl)) pe_int) pa_nil))) (nomark _)) (pss_one (ps_ret pe_bl)) pss_nil)
      (pss_one (ps_ret (pe_call G_law_right hr_law_right (by rfl) T.g_law_right T.F_law_right.kp T.b_law_right .nil pass0 (pa_cons (pe_call G_carry_of hr_carry_of (by rfl) T.g_carry_of T.F_carry_of.kp T.b_carry_of .nil (passX0 rfl rfl) (pa_cons (pv 0) (pa_cons (pe_lst pa_nil) pa_nil))) (pa_cons (pe_tup (pa_cons (pv 0) (pa_cons (pv 0) (pa_cons (pe_tup (pa_cons (pe_tup (pa_cons pe_int (pa_cons pe_int (pa_cons (pe_op op_add (pv 0) pe_int) pa_nil)))) pa_nil)) pa_nil)))) pa_nil)))))))))))))))), ?_⟩
    -- due, due_others
    refine ⟨_, rfl, _, rfl, n, l, es, rfl, hE, hfe, hSe, hle, hn, fun d r1 H1 s1 hd hr1 => ?_⟩
    refine ⟨_, rfl, _, rfl, n, l2, fs, rfl, hF.mono s1, hff, hSf, hlf, hn, fun d2 r2 H2 s2 hd2 hr2 => ?_⟩
    have s12 := s1.trans s2
    have hd := s2 _ _ hd
    have hr1 := hr1.mono (same_tups s2)
    -- handed
    obtain ⟨us, hus, hue⟩ := id (hE.mono s12)
    refine ⟨_, rfl, l, us, rfl, .inl (SqL.of hus), fun x nx => ?_⟩
    have s3 := same_upd (o := .lst us) nx
    have hX : EdsAt (upd H2 x (.lst us)) x es := ⟨us, upd_same, hue.mono (Tups.new nx)⟩
    have hd := s3 _ _ hd
    have hr1 := hr1.mono (same_tups s3)
    have hd2 := s3 _ _ hd2
    have hr2 := hr2.mono (same_tups s3)
    have s13 := s12.trans s3
    have hszs := short_sizes (n := n) hSe hn hle
    have hszf := short_sizes (n := n) hSf hn hlf
    -- told
    refine ⟨_, rfl, _, rfl, n, x, es, rfl, hX, hSe.sized, by omega, hszs, fun hf p H4 s4 np hC => ?_, fun k hk => by rw [unfit_none.mpr hfe] at hk; cases hk⟩
    have hd := s4 _ _ hd
    have hr1 := hr1.mono (same_tups s4)
    have hd2 := s4 _ _ hd2
    have hr2 := hr2.mono (same_tups s4)
    have s14 := s13.trans s4
    have hX4 := hX.mono s4
    have hE4 := hE.mono s14
    -- handed != edits
    refine ⟨_, rfl, _, rfl, .list (es.map edD), .list (es.map edD), hX4.dp, hE4.dp, edL_shaped hoes, edL_shaped hoes, ?_⟩
    rw [SeqAt.eqv_refl _ (edL_lay hoes)]
    refine ⟨_, rfl, iteF ?_⟩
    -- handed.append((0, 0, 'xyz'))
    have hx4 : H4 x = some (.lst us) := s4 _ _ upd_same
    have lus := paired_len hue
    refine ⟨_, rfl, .inl ⟨rfl, _, SqL.of hx4⟩, by show 3 ≤ sizeLine; decide, fun a na => ?_⟩
    have hx5 : ∀ o, (upd H4 a o) x = some (.lst us) := fun o => by rw [upd_ne (ne_of_none hx4 na)]; exact hx4
    refine ⟨x, _, _, rfl, rfl, hx5 _, sz2 (by omega), ?_⟩
    have nx0 : H x = none := s12.free nx
    have b5 : ∀ (o o' : HO), But x H4 (upd (upd H4 a o) x o') := fun o o' => (But.new na).trans But.set
    have sm5 : ∀ (o o' : HO), Same H (upd (upd H4 a o) x o') := fun o o' => same_mut (s14.trans (same_upd na)) nx0
    generalize hH5 : upd (upd H4 a (.tup [.int 0, .int 0, .str (Str.ofString "xyz")])) x (.lst (us ++ [.ref a])) = H5
    have bb : But x H4 H5 := by rw [← hH5]; exact b5 _ _
    have s15 : Same H H5 := by rw [← hH5]; exact sm5 _ _
    have tt := but_tups hx4 bb
    have hC := but_carry hx4 bb hC
    have hd := tt _ _ hd
    have hr1 := hr1.mono tt
    have hd2 := tt _ _ hd2
    have hr2 := hr2.mono tt
    have lr := canon_len (tagsE n es)
    have lr2 := canon_len (tagsE n fs)
    have lt := tags_len hfe hSe hn hle
    have lt2 := tags_len hff hSf hn hlf
    -- beside
    obtain ⟨us2, hus2, hue2⟩ := id (hF.mono s15)
    refine ⟨_, rfl, _, rfl, l2, us2, rfl, .inl (SqL.of hus2), fun y ny => ?_⟩
    have s6 := same_upd (o := .lst us2) ny
    refine ⟨n, y, fs, rfl, ⟨us2, upd_same, hue2.mono (Tups.new ny)⟩, hSf.sized, by omega, hszf, fun _ p2 H7 s7 np2 hC2 => ?_, fun k hk => by rw [unfit_none.mpr hff] at hk; cases hk⟩
    have s67 := s6.trans s7
    have hC := hC.same s67
    have hd := s67 _ _ hd
    have hr1 := hr1.mono (same_tups s67)
    have hd2 := s67 _ _ hd2
    have hr2 := hr2.mono (same_tups s67)
    have s17 := s15.trans s67
    -- made
    refine ⟨_, rfl, d, _, 0, .int (n : Int), rfl, rfl, SqT.of hd, atI_nat (j := 0) rfl, ?_⟩
    refine ⟨_, rfl, d, _, 1, .int ((sizeL n es : Nat) : Int), rfl, rfl, SqT.of hd, atI_nat (j := 1) rfl, ?_⟩
    refine ⟨_, rfl, d, _, 2, .ref r1, rfl, rfl, SqT.of hd, atI_nat (j := 2) rfl, ?_⟩
    intro p3 dx nx3 ndx _
    have ms := made_same (C := T.C_Carry) (fs := cfl (n : Int) ((sizeL n es : Nat) : Int) r1) nx3 ndx
    refine ⟨p3, dx, r1, _, _, rfl, upd_same, rfl, ?_⟩
    rw [upd_upd]
    generalize hH8 : upd (upd H7 dx (.own p3)) p3 (.ins T.C_Carry dx (cfl (n : Int) ((sizeL n es : Nat) : Int) r1)) = H8
    rw [hH8] at ms
    have hC3 : CarryR T.C_Carry H8 p3 n (sizeL n es) (canon (tp 0 (tagsE n es))) := ⟨r1, ⟨dx, by rw [← hH8]; exact upd_same⟩, hr1.mono (same_tups ms)⟩
    have hC := hC.same ms
    have hC2 := hC2.same ms
    have hd := ms _ _ hd
    have hr1 := hr1.mono (same_tups ms)
    have hd2 := ms _ _ hd2
    have hr2 := hr2.mono (same_tups ms)
    have s18 := s17.trans ms
    -- for turn in range(2)
    refine ⟨2, rfl, by decide, by decide, ?_⟩
    refine for_range (lo := 0) (n := 2) (fun i σ H' => Same H8 H' ∧ ∃ y9 y10 y11 : Option V, σ = [some (.int (n : Int)), some (.ref l), some (.ref l2), some (.ref d), some (.ref d2), some (.ref x), some (.ref p), some (.ref p2), some (.ref p3), y9, y10, y11]) ⟨Same.refl _, none, none, none, rfl⟩ ?_ ?_
    · rintro i σ H9 hi ⟨s9, y9, y10, y11, rfl⟩
      refine ⟨_, rfl, _, rfl, p, d, r1, n, sizeL n es, _, rfl, s9 _ _ hd, hC.same s9, hr1.mono (same_tups s9), by omega, fun Ha sa => ⟨true, rfl, iteF ?_⟩⟩
      have s9 := s9.trans sa
      refine ⟨_, rfl, _, rfl, p2, d2, r2, n, sizeL n fs, _, rfl, s9 _ _ hd2, hC2.same s9, hr2.mono (same_tups s9), by omega, fun Hb sb => ⟨true, rfl, iteF ?_⟩⟩
      have s9 := s9.trans sb
      refine ⟨_, rfl, _, rfl, p3, d, r1, n, sizeL n es, _, rfl, s9 _ _ hd, hC3.same s9, hr1.mono (same_tups s9), by omega, fun Hc sc => ⟨true, rfl, iteF ?_⟩⟩
      exact ⟨s9.trans sc, _, _, _, rfl⟩
    · rintro σ H9 ⟨s9, y9, y10, y11, rfl⟩
      have hC := hC.same s9
      have hd := s9 _ _ hd
      obtain ⟨tg, tl⟩ := tags_tagged hfe
      obtain ⟨rs0, rl, ecan, el1, el2⟩ := tagged_last tg
      obtain ⟨t0, ⟨dp, hp⟩, vs, ht0, hvs⟩ := id hC
      -- rows
      refine ⟨_, rfl, p, dp, _, t0, vs, rfl, hp, ⟨dp, _, _, hp⟩, SqT.of ht0, fun D nD => ?_⟩
      have lv := paired_len hvs
      refine lc_tup (K := K) (a := t0) (xs := vs) (fun i H' => Same H9 H' ∧ ∃ acc, H' D = some (.lst acc) ∧ Paired (fun v (r : Rn) => ∃ g, v = .ref g ∧ H' g = some (.tup [.int ((r.1 : Int) + (r.2.2 : Int)), .int ((r.2.1 : Int) + (r.2.2 : Int))])) acc ((canon (tp 0 (tagsE n es))).take i))
        ⟨same_upd nD, [], upd_same, .nil⟩ (fun i H' _ ⟨s, _⟩ => SqT.of (s _ _ ht0)) ?_ ?_
      · rintro i z Ha hz ⟨sa, acc, hD, hacc⟩
        obtain ⟨e, he⟩ : ∃ e, (canon (tp 0 (tagsE n es)))[i]? = some e := ⟨_, List.getElem?_eq_getElem (by rw [← lv]; exact (List.getElem?_eq_some_iff.mp hz).1)⟩
        obtain ⟨x', hx', c, rfl, hc⟩ := paired_get hvs he
        rw [hz] at hx'
        have h1 := Option.some.inj hx'
        subst h1
        have hc := sa _ _ hc
        have lacc := paired_len hacc
        rw [List.length_take] at lacc
        refine ⟨rfl, ?_⟩
        refine ⟨_, rfl, c, _, 0, .int (e.1 : Int), rfl, rfl, SqT.of hc, tup3 0 rfl, _, rfl, c, _, 2, .int (e.2.2 : Int), rfl, rfl, SqT.of hc, tup3 2 rfl, _, _, rfl, rfl, ?_⟩
        refine ⟨_, rfl, c, _, 1, .int (e.2.1 : Int), rfl, rfl, SqT.of hc, tup3 1 rfl, _, rfl, c, _, 2, .int (e.2.2 : Int), rfl, rfl, SqT.of hc, tup3 2 rfl, _, _, rfl, rfl, by show 2 ≤ sizeLine; decide, fun g ng => ?_⟩
        have hD2 : ∀ o, (upd Ha g o) D = some (.lst acc) := fun o => by rw [upd_ne (ne_of_none hD ng)]; exact hD
        refine ⟨acc, hD2 _, Nat.lt_of_lt_of_le (show acc.length < 4000001 by omega) (by decide), same_mut (sa.trans (same_upd ng)) nD, _, upd_same, ?_⟩
        rw [take_more he]
        have t9 := (Tups.new (H := Ha) (o := .tup [.int ((e.1 : Int) + (e.2.2 : Int)), .int ((e.2.1 : Int) + (e.2.2 : Int))]) ng).trans (Tups.mut (o := .lst (acc ++ [.ref g])) (hD2 _))
        refine paired_app (Paired.mapP hacc fun v r ⟨g', e1, e2⟩ => ⟨g', e1, t9 _ _ e2⟩) (.cons ⟨g, rfl, (Tups.mut (hD2 _)) _ _ upd_same⟩ .nil)
      · rintro Ha ⟨sa, acc, hD, hacc⟩
        rw [lv, List.take_length, ecan] at hacc
        obtain ⟨acc', g, rfl, hg⟩ : ∃ acc' g, acc = acc' ++ [.ref g] ∧ Ha g = some (.tup [.int ((rl.1 : Int) + (rl.2.2 : Int)), .int ((rl.2.1 : Int) + (rl.2.2 : Int))]) := by
          have h2 := paired_drop rs0.length hacc
          rw [List.drop_left] at h2
          generalize e : acc.drop rs0.length = dd at h2
          cases h2 with
          | cons r nl =>
            cases nl
            obtain ⟨g, rfl, hg⟩ := r
            exact ⟨_, g, by rw [← e, List.take_append_drop], hg⟩
        have hd := sa _ _ hd
        have c1 : (rl.1 : Int) + (rl.2.2 : Int) = (n : Int) + 1 := by omega
        have c2 : (rl.2.1 : Int) + (rl.2.2 : Int) = ((sizeL n es : Nat) : Int) + 1 := by omega
        rw [c1, c2] at hg
        refine ⟨_, rfl, 1, rfl, D, _, _, _, rfl, rfl, SqL.of hD, atI_last _ _, ?_⟩
        refine ⟨_, rfl, _, 1, rfl, rfl, _, rfl, d, _, 1, .int ((sizeL n es : Nat) : Int), rfl, rfl, SqT.of hd, atI_nat (j := 1) rfl, _, 1, rfl, rfl, by show 2 ≤ sizeLine; decide, fun t nt => ?_⟩
        have sb := same_upd (o := .tup [.int ((n : Int) + 1), .int (((sizeL n es : Nat) : Int) + 1)]) nt
        have dd : ∀ {H' : Hp} {g : Addr}, H' g = some (.tup [.int ((n : Int) + 1), .int (((sizeL n es : Nat) : Int) + 1)]) → Dp K H' (.ref g) (.tuple [.int ((n : Int) + 1), .int (((sizeL n es : Nat) : Int) + 1)]) := fun h => .tup (SqT.of h) (.cons (.int _) (.cons (.int _) .nil))
        refine ⟨_, _, dd (sb _ _ hg), dd upd_same, by rfl, by rfl, ?_⟩
        rw [SeqAt.eqv_refl _ (by rfl)]
        refine ⟨_, rfl, iteF ?_⟩
        have s9 := (s18.trans s9).trans (sa.trans sb)
        -- the carry of no edits
        refine ⟨_, rfl, Nat.zero_le _, fun e ne => ?_⟩
        have sc := same_upd (o := .lst []) ne
        refine ⟨n, e, [], rfl, ⟨[], upd_same, .nil⟩, fun _ h => absurd h List.not_mem_nil, by show 0 ≤ 2000; decide, fun k _ => by rw [List.take_nil]; show n ≤ 3000000; omega, fun _ p4 Hb sd np4 hC4 => ?_, fun k hk => by cases hk⟩
        refine ⟨_, rfl, _, rfl, _, rfl, _, 1, rfl, rfl, by show 3 ≤ sizeLine; decide, fun u1 m1 => ⟨by show 1 ≤ sizeLine; decide, fun u2 m2 => ⟨by show 3 ≤ sizeLine; decide, fun u3 m3 => ?_⟩⟩⟩
        have se := ((same_upd (o := .tup [.int 0, .int 0, .int ((n : Int) + 1)]) m1).trans (same_upd (o := .tup [.ref u1]) m2)).trans (same_upd (o := .tup [.int (n : Int), .int (n : Int), .ref u2]) m3)
        have f1 : (upd (upd (upd Hb u1 (.tup [.int 0, .int 0, .int ((n : Int) + 1)])) u2 (.tup [.ref u1])) u3 (.tup [.int (n : Int), .int (n : Int), .ref u2])) u1 = some (.tup [.int 0, .int 0, .int ((n : Int) + 1)]) := by
          have h2 : u1 ≠ u2 := fun z => by rw [← z, upd_same] at m2; cases m2
          have h3 : u1 ≠ u3 := fun z => by rw [← z, upd_ne h2, upd_same] at m3; cases m3
          rw [upd_ne h3, upd_ne h2, upd_same]
        have f2 : (upd (upd (upd Hb u1 (.tup [.int 0, .int 0, .int ((n : Int) + 1)])) u2 (.tup [.ref u1])) u3 (.tup [.int (n : Int), .int (n : Int), .ref u2])) u2 = some (.tup [.ref u1]) := by
          have h3 : u2 ≠ u3 := fun z => by rw [← z, upd_same] at m3; cases m3
          rw [upd_ne h3, upd_same]
        have w0 : canon (tp 0 (tagsE n [])) = [((0, 0, n + 1) : Rn)] := by
          have e0 : tagsE n [] = stay 0 (n + 1) := upTo_stay (n + 1)
          rw [e0, ← whole_runs]
        rw [w0] at hC4
        refine ⟨p4, u3, u2, n, n, [(0, 0, n + 1)], rfl, upd_same, hC4.same se, ⟨[.ref u1], f2, .cons ⟨u1, rfl, f1⟩ .nil⟩, by show 1 ≤ 4000000; decide, fun H' s' => ?_⟩
        exact q H' (s9.trans (sc.trans (sd.trans (se.trans s'))))

/-! ### the law -/
def spLaw (K : PySem.W.Frag) : Sp := fun vs H Q _ => ∃ (scr : Addr) (row : List Int), vs = [.ref scr] ∧ SqL K H scr (row.map V.int) ∧ row.length ≤ 63 ∧ ∀ H', Q (.bl true) H'
def lawMid (a r ct : Addr) (pl d : Int) : L2.St → Hp → Prop := fun σ H' => ∃ c : Int, σ = [some (.ref a), some (.ref r), some (.int pl), some (.ref ct), none, none, none, none, none, none, none, none] ∧ 0 ≤ c ∧ c ≤ 200 ∧ ReelAt H' r ∧ H' ct = some (.lst [.int c, .int d])
theorem ok_law (T : Txt K mg) : FnOk P w K mg base CX0 8 T.a_law T.fd_law ["script"] (spLaw K) := by
  have G_law_reel : FnOk P w K mg base CX0 1 T.a_law_reel T.fd_law_reel ["script"] (spReel K) := ok_reel T
  have G_law_draw : FnOk P w K mg base CX0 1 T.a_law_draw T.fd_law_draw ["reel", "size"] spDraw := ok_draw T
  have G_law_pick : FnOk P w K mg base CX0 2 T.a_law_pick T.fd_law_pick ["reel", "row"] (spPick K) := ok_pick T
  have G_law_text : FnOk P w K mg base CX0 4 T.a_law_text T.fd_law_text ["reel"] (spText 2000) := ok_text T
  have G_law_edit_row : FnOk P w K mg base CX0 5 T.a_law_edit_row T.fd_law_edit_row ["reel", "text", "count"] spRow := ok_edit_row T
  have G_law_planted : FnOk P w K mg base CX0 5 T.a_law_planted T.fd_law_planted ["reel", "text", "edits", "many"] spPlanted := ok_planted T
  have G_law_first_unfit : FnOk P w K mg base CX0 1 T.a_law_first_unfit T.fd_law_first_unfit ["size", "edits"] spFirst := ok_first T
  have G_law_asked : FnOk P w K mg base CX0 6 T.a_law_asked T.fd_law_asked ["size", "edits", "others"] spAsked := ok_asked T
  have G_law_refused : FnOk P w K mg base CX0 6 T.a_law_refused T.fd_law_refused ["size", "edits"] spRefusedC := ok_refused T
  have G_law_number : FnOk P w K mg base CX0 1 T.a_law_number T.fd_law_number ["value"] spNumber := ok_number T
  have G_law_right : FnOk P w K mg base CX0 5 T.a_law_right T.fd_law_right ["told", "due"] (spRight T.C_Carry) := ok_right T
  have G_law_due : FnOk P w K mg base CX0 2 T.a_law_due T.fd_law_due ["size", "edits"] spDueC := ok_due T
  have G_carry_of : FnOk P w K mg base (L2.CX P w) 5 T.a_carry_of T.fd_carry_of ["length", "edits"] (spCarryOf T.C_Carry T.C_EditError) := ok_carry_of T
  refine T.F_law.ok sc_law (fun vs H Q E h => ?_) (fun cdv A outer s H vs Q E hr h => ?_)
  · obtain ⟨a, ns, rfl, _⟩ := h
    rfl
  · have hr_law_reel : Room 1 _ := hr.mono (by decide)
    have hr_law_draw : Room 1 _ := hr.mono (by decide)
    have hr_law_pick : Room 2 _ := hr.mono (by decide)
    have hr_law_text : Room 4 _ := hr.mono (by decide)
    have hr_law_edit_row : Room 5 _ := hr.mono (by decide)
    have hr_law_planted : Room 5 _ := hr.mono (by decide)
    have hr_law_first_unfit : Room 1 _ := hr.mono (by decide)
    have hr_law_asked : Room 6 _ := hr.mono (by decide)
    have hr_law_refused : Room 6 _ := hr.mono (by decide)
    have hr_law_number : Room 1 _ := hr.mono (by decide)
    have hr_law_right : Room 5 _ := hr.mono (by decide)
    have hr_law_due : Room 2 _ := hr.mono (by decide)
    have hr_carry_of : Room 5 _ := hr.mono (by decide)
    obtain ⟨a, ns, rfl, hA, hns, q⟩ := h
    refine ⟨_, (pss_cons (ps_set (i := 1) sc_law.nd rfl (.inl rfl) (pe_call G_law_reel hr_law_reel (by rfl) T.g_law_reel T.F_law_reel.kp T.b_law_reel .nil pass0 (pa_cons (pv 0) pa_nil)))
      (pss_cons (ps_set (i := 2) sc_law.nd rfl (.inl rfl) (pe_call G_law_draw hr_law_draw (by rfl) T.g_law_draw T.F_law_draw.kp T.b_law_draw .nil pass0 (pa_cons (pv 1) (pa_cons pe_int pa_nil))))
      (pss_cons (ps_set (i := 3) sc_law.nd rfl (.inl rfl) (pe_lst (pa_cons (pe_call G_law_pick hr_law_pick (by rfl) T.g_law_pick T.F_law_pick.kp T.b_law_pick .nil pass0 (pa_cons (pv 1) (pa_cons (pe_lst (pa_cons pe_int (pa_cons pe_int (pa_cons pe_int (pa_cons pe_int (pa_cons pe_int (pa_cons pe_int (pa_cons pe_int (pa_cons pe_int pa_nil))))))))) pa_nil))) (pa_cons (pe_call G_law_pick hr_law_pick (by rfl) T.g_law_pick T.F_law_pick.kp T.b_law_pick .nil pass0 (pa_cons (pv 1) (pa_cons (pe_lst (pa_cons pe_int (pa_cons pe_int (pa_cons pe_int pa_nil)))) pa_nil))) pa_nil))))
      (C8.pss_cut (ps_if (pt_cmpR op_eq (pe_call G_law_draw hr_law_draw (by rfl) T.g_law_draw T.F_law_draw.kp T.b_law_draw .nil pass0 (pa_cons (pv 1) (pa_cons pe_int pa_nil))) pe_int (nomark _)) (pss_one (ps_asg (pe_op op_add pe_int (pe_call G_law_draw hr_law_draw (by rfl) T.g_law_draw T.F_law_draw.kp T.b_law_draw .nil pass0 (pa_cons (pv 1) (pa_cons pe_int pa_nil)))) (pg_sub (pv 3) pe_int set_list))) pss_nil)
      (pss_cons (ps_set (i := 4) sc_law.nd rfl (.inl rfl) (pe_call G_law_text hr_law_text (by rfl) T.g_law_text T.F_law_text.kp T.b_law_text .nil pass0 (pa_cons (pv 1) pa_nil)))
      (pss_cons (ps_set (i := 5) sc_law.nd rfl (.inl rfl) (pe_callB call_len_str (by rfl) T.m_len PySem.boot_len (pa_cons (pv 4) pa_nil)))
      (pss_cons (ps_set (i := 6) sc_law.nd rfl (.inl rfl) (pe_call G_law_edit_row hr_law_edit_row (by rfl) T.g_law_edit_row T.F_law_edit_row.kp T.b_law_edit_row .nil pass0 (pa_cons (pv 1) (pa_cons (pv 4) (pa_cons (pe_ix ix_list (pv 3) pe_int (fun _ _ => rfl)) pa_nil)))))
      (pss_cons (ps_set (i := 7) sc_law.nd rfl (.inl rfl) (pe_call G_law_edit_row hr_law_edit_row (by rfl) T.g_law_edit_row T.F_law_edit_row.kp T.b_law_edit_row .nil pass0 (pa_cons (pv 1) (pa_cons (pv 4) (pa_cons (pe_ix ix_list (pv 3) pe_int (fun _ _ => rfl)) pa_nil)))))
      (pss_cons (ps_if (pt_not (pt_val (pe_call G_law_asked hr_law_asked (by rfl) T.g_law_asked T.F_law_asked.kp T.b_law_asked .nil pass0 (pa_cons (pv 5) (pa_cons (pv 6) (pa_cons (pv 7) pa_nil)))))) (pss_one (ps_ret pe_bl)) pss_nil)
      (pss_cons (ps_if (pt_cmpR op_gt (pv 2) pe_int (nomark _)) (pss_one (ps_ret pe_bl)) pss_nil)
      (pss_cons (ps_set (i := 8) sc_law.nd rfl (.inl rfl) (pe_call G_law_planted hr_law_planted (by rfl) T.g_law_planted T.F_law_planted.kp T.b_law_planted .nil pass0 (pa_cons (pv 1) (pa_cons (pv 4) (pa_cons (pv 6) (pa_cons (pe_op op_add pe_int (pe_call G_law_draw hr_law_draw (by rfl) T.g_law_draw T.F_law_draw.kp T.b_law_draw .nil pass0 (pa_cons (pv 1) (pa_cons pe_int pa_nil)))) pa_nil))))))
      (pss_cons (ps_set (i := 9) sc_law.nd rfl (.inl rfl) (pe_call G_law_first_unfit hr_law_first_unfit (by rfl) T.g_law_first_unfit T.F_law_first_unfit.kp T.b_law_first_unfit .nil pass0 (pa_cons (pv 5) (pa_cons (pv 8) pa_nil))))
      (pss_cons (ps_set (i := 10) sc_law.nd rfl (.inl rfl) (pe_callTy call_list_of (by rfl) T.m_list (by decide +kernel) (pa_cons (pv 8) pa_nil)))
      (pss_cons (ps_set (i := 11) sc_law.nd rfl (.inl rfl) (pe_call G_law_refused hr_law_refused (by rfl) T.g_law_refused T.F_law_refused.kp T.b_law_refused .nil pass0 (pa_cons (pv 5) (pa_cons (pv 10) pa_nil))))
      (pss_cons (ps_if (PW.pt (pw_or (pt_cmpR (op_neD hr.units) (pv 10) (pv 8) (nomark _)) (pw_or (pt_not (pt_val (pe_call G_law_number hr_law_number (by rfl) T.g_law_number T.F_law_number.kp T.b_law_number .nil pass0 (pa_cons (pe_ix ix_tup (pv 11) pe_int (fun _ _ => rfl)) pa_nil)))) (pw_or (pt_cmpR op_ne (pe_ix ix_tup (pv 11) pe_int (fun _ _ => rfl)) (pv 9) (nomark _)) (pw_or1 (pt_cmpR op_notBl (pe_ix ix_tup (pv 11) pe_int (fun _ _ => rfl)) pe_bl (nomark _))))))) (pss_one (ps_ret pe_bl)) pss_nil)
      (pss_one (ps_ret (pe_call G_law_right hr_law_right (by rfl) T.g_law_right T.F_law_right.kp T.b_law_right .nil pass0 (pa_cons (pe_call G_carry_of hr_carry_of (by rfl) T.g_carry_of T.F_carry_of.kp T.b_carry_of .nil (passX0 rfl rfl) (pa_cons (pv 5) (pa_cons (pe_slice sl_list (pv 8) po_none (po_some (pv 9))) pa_nil))) (pa_cons (pe_call G_law_due hr_law_due (by rfl) T.g_law_due T.F_law_due.kp T.b_law_due .nil pass0 (pa_cons (pv 5) (pa_cons (pe_slice sl_list (pv 8) po_none (po_some (pv 9))) pa_nil))) pa_nil)))))))))))))))))))), ?_⟩
    -- reel, planted
    refine ⟨_, rfl, a, ns, rfl, hA, fun H1 r s1 nr hR1 => ?_⟩
    refine ⟨_, rfl, r, _, rfl, hR1, by decide, fun pl H2 p0 p1 hb2 hR2 => ?_⟩
    -- counts
    refine ⟨_, rfl, by show 8 ≤ sizeLine; decide, fun p np => ?_⟩
    refine ⟨r, _, rfl, hR2.new np, .inr ⟨p, _, rfl, (hR2.ne np).symm, SqL.of upd_same, by show 0 < 8; decide, fun v H3 hv hb3 hR3 => ?_⟩⟩
    obtain ⟨c, rfl, c0, c1⟩ := intsIn_mem (lo := 0) (hi := 12) (by decide +kernel) v hv
    refine ⟨_, rfl, by show 3 ≤ sizeLine; decide, fun p2 np2 => ?_⟩
    refine ⟨r, _, rfl, hR3.new np2, .inr ⟨p2, _, rfl, (hR3.ne np2).symm, SqL.of upd_same, by show 0 < 3; decide, fun v H4 hv hb4 hR4 => ?_⟩⟩
    obtain ⟨d, rfl, d0, d1⟩ := intsIn_mem (lo := 1) (hi := 4) (by decide +kernel) v hv
    refine ⟨by show 2 ≤ sizeLine; decide, fun ct nct => ?_⟩
    have ctr : ct ≠ r := (hR4.ne nct).symm
    -- if draw(16) == 0
    refine ⟨lawMid a r ct pl d, ?_, ?_⟩
    · refine ⟨_, rfl, r, _, rfl, hR4.new nct, by decide, fun x H5 x0 x1 hb5 hR5 => ⟨rfl, _, rfl, ite2 (fun e => ?_) (fun e => ?_)⟩⟩
      · have hct := hb5 ct _ ctr upd_same
        refine ⟨_, rfl, r, _, rfl, hR5, by decide, fun y H6 y0 y1 hb6 hR6 => ⟨13, y, rfl, rfl, ?_⟩⟩
        have hct6 := hb6 ct _ ctr hct
        refine ⟨_, rfl, ct, _, _, 0, rfl, rfl, hct6, rfl, ?_⟩
        obtain ⟨z1, cc, w1, w2⟩ := hR6
        exact ⟨13 + y, rfl, by omega, by omega, ⟨z1, cc, by rw [upd_ne ctr.symm]; exact w1, w2⟩, upd_same⟩
      · exact ⟨c, rfl, c0, by omega, hR5, hb5 ct _ ctr upd_same⟩
    · rintro σ H5 ⟨c, rfl, c0, c1, hR5, hct⟩
      -- text, size
      refine ⟨_, rfl, r, rfl, hR5, fun z H6 hz hzo hb6 hR6 => ?_⟩
      have lz := len_cs z
      refine ⟨_, rfl, _, rfl, sz1 (by omega), ?_⟩
      have hct6 := hb6 ct _ ctr hct
      -- edits, others
      refine ⟨_, rfl, _, rfl, _, rfl, ct, _, 0, .int c, rfl, rfl, SqL.of hct6, atI_nat (j := 0) rfl, r, z, c, rfl, hR6, hz, hzo, c0, by omega, fun l H7 us es nl hus hue hlen hbd hfit hb7 hR7 => ?_⟩
      have hct7 := hb7 ct _ ctr hct6
      have hlr : l ≠ r := (hR6.ne nl).symm
      refine ⟨_, rfl, _, rfl, _, rfl, ct, _, 1, .int d, rfl, rfl, SqL.of hct7, atI_nat (j := 1) rfl, r, z, d, rfl, hR7, hz, hzo, by omega, by omega, fun l2 H8 us2 fs nl2 hus2 hue2 hlen2 hbd2 hfit2 hb8 hR8 => ?_⟩
      have hus8 := hb8 l _ hlr hus
      have hue8 := hue.mono (hb8.tups hR7)
      have hsh : Short es := fun e he => ⟨(hbd e he).2.2.1, (hbd e he).2.2.2⟩
      have hsh2 : Short fs := fun e he => ⟨(hbd2 e he).2.2.1, (hbd2 e he).2.2.2⟩
      -- asked
      refine ⟨_, rfl, _, rfl, _, rfl, z.length, l, l2, es, fs, rfl, ⟨us, hus8, hue8⟩, ⟨us2, hus2, hue2⟩, by rw [lz]; exact hfit, by rw [lz]; exact hfit2, hsh, hsh2, by omega, by omega, by omega, fun H9 s9 => ⟨true, rfl, iteF ?_⟩⟩
      have hR9 : ReelAt H9 r := by
        obtain ⟨z1, cc, w1, w2⟩ := hR8
        exact ⟨z1, cc, s9 _ _ w1, w2⟩
      have hus9 := s9 _ _ hus8
      have hue9 := hue8.mono (same_tups s9)
      refine ⟨_, rfl, pl, 0, rfl, rfl, _, rfl, ite2 (fun _ => q _) (fun _ => ?_)⟩
      -- spoilt
      refine ⟨_, rfl, _, rfl, _, rfl, _, rfl, r, _, rfl, hR9, by decide, fun m Ha m0 m1 hba hRa => ⟨1, m, rfl, rfl, ?_⟩⟩
      have husa := hba l _ hlr hus9
      have huea := hue9.mono (hba.tups hR9)
      refine ⟨r, l, z, 1 + m, us, es, rfl, hRa, husa, hlr, huea, hsh, hfit, hz, by omega, by omega, by omega, fun l' Hb us' es' hl' hlr' hue' hlen' hsh' hpl hbb hRb => ?_⟩
      obtain ⟨k, hun⟩ := hpl.unfit (by omega) hfit
      obtain ⟨hfk, hkl⟩ := unfit_take hun
      have hE : EdsAt Hb l' es' := ⟨us', hl', hue'⟩
      have hoes : ∀ e ∈ es', TOk e.2.2 := fun e he => (hsh' e he).2
      have hle : es'.length ≤ 400 := by omega
      -- first, handed, told
      refine ⟨_, rfl, _, rfl, z.length, l', es', rfl, hE, hsh', by omega, ?_⟩
      rw [lz]
      have e1 : unfitI (cs z).length es' = (k : Int) := by unfold unfitI; rw [hun]
      rw [e1]
      refine ⟨_, rfl, l', us', rfl, .inl (SqL.of hl'), fun hd nhd => ?_⟩
      have hHd : EdsAt (upd Hb hd (.lst us')) hd es' := ⟨us', upd_same, hue'.mono (Tups.new nhd)⟩
      have hEd := hE.mono (same_upd (o := .lst us') nhd)
      refine ⟨_, rfl, _, rfl, (cs z).length, hd, es', k, rfl, hHd, hsh'.sized, by omega, short_sizes hsh' (by omega) hle, hun, fun t Hc sc ht => ?_⟩
      have hEc := hEd.mono sc
      refine ⟨_, rfl, _, rfl, .list (es'.map edD), .list (es'.map edD), (hHd.mono sc).dp, hEc.dp, edL_shaped hoes, edL_shaped hoes, ?_⟩
      rw [SeqAt.eqv_refl _ (edL_lay hoes)]
      refine ⟨_, rfl, iteF ?_⟩
      refine ⟨_, rfl, t, _, 0, .int (k : Int), rfl, rfl, SqT.of ht, atI_nat (j := 0) rfl, _, rfl, true, rfl, iteF ?_⟩
      refine ⟨_, rfl, t, _, 0, .int (k : Int), rfl, rfl, SqT.of ht, atI_nat (j := 0) rfl, _, rfl, rfl, _, rfl, iteNS rfl ?_⟩
      refine ⟨_, rfl, t, _, 1, .bl true, rfl, rfl, SqT.of ht, atI_nat (j := 1) rfl, true, true, rfl, rfl, _, rfl, iteF ?_⟩
      -- carry_of(size, spoilt[:first])
      obtain ⟨usc, huc, hucE⟩ := id hEc
      have cut : ∀ {H' : Hp} {pp : Addr}, H' pp = none → EdsAt H' l' es' → H' l' = some (.lst usc) → EdsAt (upd H' pp (.lst (usc.take k))) pp (es'.take k) := fun {H' pp} npp hE' hl'' => by
        obtain ⟨u2, hu2, hue2⟩ := hE'
        rw [hl''] at hu2
        cases hu2
        exact ⟨usc.take k, upd_same, paired_take k (hue2.mono (Tups.new npp))⟩
      have hlk : (es'.take k).length ≤ 400 := by rw [List.length_take]; omega
      refine ⟨_, rfl, _, rfl, _, rfl, _, rfl, l', usc, rfl, SqL.of huc, fun c1' nc1 => ?_⟩
      rw [cutV_pre]
      refine ⟨(cs z).length, c1', es'.take k, rfl, cut nc1 hEc huc, (short_take hsh' k).sized, by omega, short_sizes (short_take hsh' k) (by omega) hlk, fun _ pc Hd sd npc hC => ?_, fun j hj => ?_⟩
      · have se := (same_upd (o := .lst (usc.take k)) nc1).trans sd
        have huc2 := se _ _ huc
        refine ⟨_, rfl, _, rfl, _, rfl, _, rfl, l', usc, rfl, SqL.of huc2, fun c2' nc2 => ?_⟩
        rw [cutV_pre]
        refine ⟨(cs z).length, c2', es'.take k, rfl, cut nc2 (hEc.mono se) huc2, hfk, short_take hsh' k, hlk, by omega, fun td rd He sf htd hrd => ?_⟩
        have hC2 := (hC.same (same_upd (o := .lst (usc.take k)) nc2)).same sf
        have tl := tags_len hfk (short_take hsh' k) (by omega) hlk
        have cl := canon_len (tagsE (cs z).length (es'.take k))
        exact ⟨pc, td, rd, (cs z).length, _, _, rfl, htd, hC2, hrd, by omega, fun H' _ => q H'⟩
      · have := unfit_none.mpr hfk
        rw [this] at hj
        cases hj

theorem ok_top (T : Txt K mg) : FnOk P w K mg base CX0 8 T.a_law T.fd_law ["script"] (spLaw K) := ok_law T
end
theorem all_mk {l : PySem.W.OpenLaw} {w : World} {K : PySem.W.Frag} {h : Heap} {mg : Str → Option Value} {fa : Addr} (X : K.In h) (G : h.Ns mainGlobals mg) (hfa : mg "law" = some (.ref fa))
    {C_MendedError : Addr} (g_MendedError : PySem.W.nsIn K mainGlobals "MendedError" = some (some (.ref C_MendedError)))
    {C_EditError : Addr} (g_EditError : PySem.W.nsIn K mainGlobals "EditError" = some (some (.ref C_EditError)))
    {C_Entangled : Addr} (g_Entangled : PySem.W.nsIn K mainGlobals "Entangled" = some (some (.ref C_Entangled)))
    {C_Carry : Addr} (g_Carry : PySem.W.nsIn K mainGlobals "Carry" = some (some (.ref C_Carry)))
    {f0 : Addr} {od0 an0 : Option Addr} {sl0 : Array (Option Value)} {oc0 kV0 dc0 pm0 cd0 ct0 : Value}
    {f1 : Addr} {od1 an1 : Option Addr} {sl1 : Array (Option Value)} {oc1 kV1 dc1 pm1 cd1 ct1 : Value}
    {f2 : Addr} {od2 an2 : Option Addr} {sl2 : Array (Option Value)} {oc2 kV2 dc2 pm2 cd2 ct2 : Value}
    {f3 : Addr} {od3 an3 : Option Addr} {sl3 : Array (Option Value)} {oc3 kV3 dc3 pm3 cd3 ct3 : Value}
    {f4 : Addr} {od4 an4 : Option Addr} {sl4 : Array (Option Value)} {oc4 kV4 dc4 pm4 cd4 ct4 : Value}
    {f5 : Addr} {od5 an5 : Option Addr} {sl5 : Array (Option Value)} {oc5 kV5 dc5 pm5 cd5 ct5 : Value}
    {f6 : Addr} {od6 an6 : Option Addr} {sl6 : Array (Option Value)} {oc6 kV6 dc6 pm6 cd6 ct6 : Value}
    {f7 : Addr} {od7 an7 : Option Addr} {sl7 : Array (Option Value)} {oc7 kV7 dc7 pm7 cd7 ct7 : Value}
    {f8 : Addr} {od8 an8 : Option Addr} {sl8 : Array (Option Value)} {oc8 kV8 dc8 pm8 cd8 ct8 : Value}
    {f9 : Addr} {od9 an9 : Option Addr} {sl9 : Array (Option Value)} {oc9 kV9 dc9 pm9 cd9 ct9 : Value}
    {f10 : Addr} {od10 an10 : Option Addr} {sl10 : Array (Option Value)} {oc10 kV10 dc10 pm10 cd10 ct10 : Value}
    {f11 : Addr} {od11 an11 : Option Addr} {sl11 : Array (Option Value)} {oc11 kV11 dc11 pm11 cd11 ct11 : Value}
    {f12 : Addr} {od12 an12 : Option Addr} {sl12 : Array (Option Value)} {oc12 kV12 dc12 pm12 cd12 ct12 : Value}
    {f13 : Addr} {od13 an13 : Option Addr} {sl13 : Array (Option Value)} {oc13 kV13 dc13 pm13 cd13 ct13 : Value}
    {f14 : Addr} {od14 an14 : Option Addr} {sl14 : Array (Option Value)} {oc14 kV14 dc14 pm14 cd14 ct14 : Value}
    {f15 : Addr} {od15 an15 : Option Addr} {sl15 : Array (Option Value)} {oc15 kV15 dc15 pm15 cd15 ct15 : Value}
    {f16 : Addr} {od16 an16 : Option Addr} {sl16 : Array (Option Value)} {oc16 kV16 dc16 pm16 cd16 ct16 : Value}
    {f17 : Addr} {od17 an17 : Option Addr} {sl17 : Array (Option Value)} {oc17 kV17 dc17 pm17 cd17 ct17 : Value}
    {f18 : Addr} {od18 an18 : Option Addr} {sl18 : Array (Option Value)} {oc18 kV18 dc18 pm18 cd18 ct18 : Value}
    {f19 : Addr} {od19 an19 : Option Addr} {sl19 : Array (Option Value)} {oc19 kV19 dc19 pm19 cd19 ct19 : Value}
    {f20 : Addr} {od20 an20 : Option Addr} {sl20 : Array (Option Value)} {oc20 kV20 dc20 pm20 cd20 ct20 : Value}
    {f21 : Addr} {od21 an21 : Option Addr} {sl21 : Array (Option Value)} {oc21 kV21 dc21 pm21 cd21 ct21 : Value}
    {f22 : Addr} {od22 an22 : Option Addr} {sl22 : Array (Option Value)} {oc22 kV22 dc22 pm22 cd22 ct22 : Value}
    {f23 : Addr} {od23 an23 : Option Addr} {sl23 : Array (Option Value)} {oc23 kV23 dc23 pm23 cd23 ct23 : Value}
    {f24 : Addr} {od24 an24 : Option Addr} {sl24 : Array (Option Value)} {oc24 kV24 dc24 pm24 cd24 ct24 : Value}
    {f25 : Addr} {od25 an25 : Option Addr} {sl25 : Array (Option Value)} {oc25 kV25 dc25 pm25 cd25 ct25 : Value}
    {f26 : Addr} {od26 an26 : Option Addr} {sl26 : Array (Option Value)} {oc26 kV26 dc26 pm26 cd26 ct26 : Value}
    {f27 : Addr} {od27 an27 : Option Addr} {sl27 : Array (Option Value)} {oc27 kV27 dc27 pm27 cd27 ct27 : Value}
    {f28 : Addr} {od28 an28 : Option Addr} {sl28 : Array (Option Value)} {oc28 kV28 dc28 pm28 cd28 ct28 : Value}
    {f29 : Addr} {od29 an29 : Option Addr} {sl29 : Array (Option Value)} {oc29 kV29 dc29 pm29 cd29 ct29 : Value}
    {f30 : Addr} {od30 an30 : Option Addr} {sl30 : Array (Option Value)} {oc30 kV30 dc30 pm30 cd30 ct30 : Value}
    (a0 : PySem.W.findIn K (.ref C_EditError) "__init__" = some (some (.ref f0)))
    (l0 : K.lookup f0 = some ⟨oc0, od0, .func (PySem.W.fnOf "__init__" "EditError.__init__" (defArgs s_EditError_init) (defBody s_EditError_init) (defScope s_EditError_init) .none kV0 dc0 pm0 an0 cd0 ct0), sl0⟩) (c0 : PySem.W.codeIn K cd0 "EditError.__init__" = true) (k0 : PySem.W.keepIn K (.ref f0) = true)
    (a1 : PySem.W.nsIn K mainGlobals "_first_misfit" = some (some (.ref f1)))
    (l1 : K.lookup f1 = some ⟨oc1, od1, .func (PySem.W.fnOf "_first_misfit" "_first_misfit" (defArgs s_first_misfit) (defBody s_first_misfit) (defScope s_first_misfit) .none kV1 dc1 pm1 an1 cd1 ct1), sl1⟩) (c1 : PySem.W.codeIn K cd1 "_first_misfit" = true) (k1 : PySem.W.keepIn K (.ref f1) = true)
    (a2 : PySem.W.nsIn K mainGlobals "check_fits" = some (some (.ref f2)))
    (l2 : K.lookup f2 = some ⟨oc2, od2, .func (PySem.W.fnOf "check_fits" "check_fits" (defArgs s_check_fits) (defBody s_check_fits) (defScope s_check_fits) .none kV2 dc2 pm2 an2 cd2 ct2), sl2⟩) (c2 : PySem.W.codeIn K cd2 "check_fits" = true) (k2 : PySem.W.keepIn K (.ref f2) = true)
    (a3 : PySem.W.findIn K (.ref C_Carry) "__init__" = some (some (.ref f3)))
    (l3 : K.lookup f3 = some ⟨oc3, od3, .func (PySem.W.fnOf "__init__" "Carry.__init__" (defArgs s_Carry_init) (defBody s_Carry_init) (defScope s_Carry_init) .none kV3 dc3 pm3 an3 cd3 ct3), sl3⟩) (c3 : PySem.W.codeIn K cd3 "Carry.__init__" = true) (k3 : PySem.W.keepIn K (.ref f3) = true)
    (a4 : PySem.W.findIn K (.ref C_Carry) "__iter__" = some (some (.ref f4)))
    (l4 : K.lookup f4 = some ⟨oc4, od4, .func (PySem.W.fnOf "__iter__" "Carry.__iter__" (defArgs s_Carry___iter__) (defBody s_Carry___iter__) (defScope s_Carry___iter__) .none kV4 dc4 pm4 an4 cd4 ct4), sl4⟩) (c4 : PySem.W.codeIn K cd4 "Carry.__iter__" = true) (k4 : PySem.W.keepIn K (.ref f4) = true)
    (a5 : PySem.W.findIn K (.ref C_Carry) "__add__" = some (some (.ref f5)))
    (l5 : K.lookup f5 = some ⟨oc5, od5, .func (PySem.W.fnOf "__add__" "Carry.__add__" (defArgs s_Carry___add__) (defBody s_Carry___add__) (defScope s_Carry___add__) .none kV5 dc5 pm5 an5 cd5 ct5), sl5⟩) (c5 : PySem.W.codeIn K cd5 "Carry.__add__" = true) (k5 : PySem.W.keepIn K (.ref f5) = true)
    (a6 : PySem.W.nsIn K mainGlobals "_through" = some (some (.ref f6)))
    (l6 : K.lookup f6 = some ⟨oc6, od6, .func (PySem.W.fnOf "_through" "_through" (defArgs s_through) (defBody s_through) (defScope s_through) .none kV6 dc6 pm6 an6 cd6 ct6), sl6⟩) (c6 : PySem.W.codeIn K cd6 "_through" = true) (k6 : PySem.W.keepIn K (.ref f6) = true)
    (a7 : PySem.W.nsIn K mainGlobals "joined_runs" = some (some (.ref f7)))
    (l7 : K.lookup f7 = some ⟨oc7, od7, .func (PySem.W.fnOf "joined_runs" "joined_runs" (defArgs s_joined_runs) (defBody s_joined_runs) (defScope s_joined_runs) .none kV7 dc7 pm7 an7 cd7 ct7), sl7⟩) (c7 : PySem.W.codeIn K cd7 "joined_runs" = true) (k7 : PySem.W.keepIn K (.ref f7) = true)
    (a8 : PySem.W.nsIn K mainGlobals "carry_of" = some (some (.ref f8)))
    (l8 : K.lookup f8 = some ⟨oc8, od8, .func (PySem.W.fnOf "carry_of" "carry_of" (defArgs s_carry_of) (defBody s_carry_of) (defScope s_carry_of) .none kV8 dc8 pm8 an8 cd8 ct8), sl8⟩) (c8 : PySem.W.codeIn K cd8 "carry_of" = true) (k8 : PySem.W.keepIn K (.ref f8) = true)
    (a9 : PySem.W.nsIn K mainGlobals "_carry_of_one" = some (some (.ref f9)))
    (l9 : K.lookup f9 = some ⟨oc9, od9, .func (PySem.W.fnOf "_carry_of_one" "_carry_of_one" (defArgs s_carry_of_one) (defBody s_carry_of_one) (defScope s_carry_of_one) .none kV9 dc9 pm9 an9 cd9 ct9), sl9⟩) (c9 : PySem.W.codeIn K cd9 "_carry_of_one" = true) (k9 : PySem.W.keepIn K (.ref f9) = true)
    (a10 : PySem.W.nsIn K mainGlobals "_law_reel" = some (some (.ref f10)))
    (l10 : K.lookup f10 = some ⟨oc10, od10, .func (PySem.W.fnOf "_law_reel" "_law_reel" (defArgs s_law_reel) (defBody s_law_reel) (defScope s_law_reel) .none kV10 dc10 pm10 an10 cd10 ct10), sl10⟩) (c10 : PySem.W.codeIn K cd10 "_law_reel" = true) (k10 : PySem.W.keepIn K (.ref f10) = true)
    (a11 : PySem.W.nsIn K mainGlobals "_law_draw" = some (some (.ref f11)))
    (l11 : K.lookup f11 = some ⟨oc11, od11, .func (PySem.W.fnOf "_law_draw" "_law_draw" (defArgs s_law_draw) (defBody s_law_draw) (defScope s_law_draw) .none kV11 dc11 pm11 an11 cd11 ct11), sl11⟩) (c11 : PySem.W.codeIn K cd11 "_law_draw" = true) (k11 : PySem.W.keepIn K (.ref f11) = true)
    (a12 : PySem.W.nsIn K mainGlobals "_law_pick" = some (some (.ref f12)))
    (l12 : K.lookup f12 = some ⟨oc12, od12, .func (PySem.W.fnOf "_law_pick" "_law_pick" (defArgs s_law_pick) (defBody s_law_pick) (defScope s_law_pick) .none kV12 dc12 pm12 an12 cd12 ct12), sl12⟩) (c12 : PySem.W.codeIn K cd12 "_law_pick" = true) (k12 : PySem.W.keepIn K (.ref f12) = true)
    (a13 : PySem.W.nsIn K mainGlobals "_law_word" = some (some (.ref f13)))
    (l13 : K.lookup f13 = some ⟨oc13, od13, .func (PySem.W.fnOf "_law_word" "_law_word" (defArgs s_law_word) (defBody s_law_word) (defScope s_law_word) .none kV13 dc13 pm13 an13 cd13 ct13), sl13⟩) (c13 : PySem.W.codeIn K cd13 "_law_word" = true) (k13 : PySem.W.keepIn K (.ref f13) = true)
    (a14 : PySem.W.nsIn K mainGlobals "_law_number" = some (some (.ref f14)))
    (l14 : K.lookup f14 = some ⟨oc14, od14, .func (PySem.W.fnOf "_law_number" "_law_number" (defArgs s_law_number) (defBody s_law_number) (defScope s_law_number) .none kV14 dc14 pm14 an14 cd14 ct14), sl14⟩) (c14 : PySem.W.codeIn K cd14 "_law_number" = true) (k14 : PySem.W.keepIn K (.ref f14) = true)
    (a15 : PySem.W.nsIn K mainGlobals "_law_signs" = some (some (.ref f15)))
    (l15 : K.lookup f15 = some ⟨oc15, od15, .func (PySem.W.fnOf "_law_signs" "_law_signs" (defArgs s_law_signs) (defBody s_law_signs) (defScope s_law_signs) .none kV15 dc15 pm15 an15 cd15 ct15), sl15⟩) (c15 : PySem.W.codeIn K cd15 "_law_signs" = true) (k15 : PySem.W.keepIn K (.ref f15) = true)
    (a16 : PySem.W.nsIn K mainGlobals "_law_stepped" = some (some (.ref f16)))
    (l16 : K.lookup f16 = some ⟨oc16, od16, .func (PySem.W.fnOf "_law_stepped" "_law_stepped" (defArgs s_law_stepped) (defBody s_law_stepped) (defScope s_law_stepped) .none kV16 dc16 pm16 an16 cd16 ct16), sl16⟩) (c16 : PySem.W.codeIn K cd16 "_law_stepped" = true) (k16 : PySem.W.keepIn K (.ref f16) = true)
    (a17 : PySem.W.nsIn K mainGlobals "_law_text" = some (some (.ref f17)))
    (l17 : K.lookup f17 = some ⟨oc17, od17, .func (PySem.W.fnOf "_law_text" "_law_text" (defArgs s_law_text) (defBody s_law_text) (defScope s_law_text) .none kV17 dc17 pm17 an17 cd17 ct17), sl17⟩) (c17 : PySem.W.codeIn K cd17 "_law_text" = true) (k17 : PySem.W.keepIn K (.ref f17) = true)
    (a18 : PySem.W.nsIn K mainGlobals "_law_new" = some (some (.ref f18)))
    (l18 : K.lookup f18 = some ⟨oc18, od18, .func (PySem.W.fnOf "_law_new" "_law_new" (defArgs s_law_new) (defBody s_law_new) (defScope s_law_new) .none kV18 dc18 pm18 an18 cd18 ct18), sl18⟩) (c18 : PySem.W.codeIn K cd18 "_law_new" = true) (k18 : PySem.W.keepIn K (.ref f18) = true)
    (a19 : PySem.W.nsIn K mainGlobals "_law_edit_row" = some (some (.ref f19)))
    (l19 : K.lookup f19 = some ⟨oc19, od19, .func (PySem.W.fnOf "_law_edit_row" "_law_edit_row" (defArgs s_law_edit_row) (defBody s_law_edit_row) (defScope s_law_edit_row) .none kV19 dc19 pm19 an19 cd19 ct19), sl19⟩) (c19 : PySem.W.codeIn K cd19 "_law_edit_row" = true) (k19 : PySem.W.keepIn K (.ref f19) = true)
    (a20 : PySem.W.nsIn K mainGlobals "_law_unfit" = some (some (.ref f20)))
    (l20 : K.lookup f20 = some ⟨oc20, od20, .func (PySem.W.fnOf "_law_unfit" "_law_unfit" (defArgs s_law_unfit) (defBody s_law_unfit) (defScope s_law_unfit) .none kV20 dc20 pm20 an20 cd20 ct20), sl20⟩) (c20 : PySem.W.codeIn K cd20 "_law_unfit" = true) (k20 : PySem.W.keepIn K (.ref f20) = true)
    (a21 : PySem.W.nsIn K mainGlobals "_law_planted" = some (some (.ref f21)))
    (l21 : K.lookup f21 = some ⟨oc21, od21, .func (PySem.W.fnOf "_law_planted" "_law_planted" (defArgs s_law_planted) (defBody s_law_planted) (defScope s_law_planted) .none kV21 dc21 pm21 an21 cd21 ct21), sl21⟩) (c21 : PySem.W.codeIn K cd21 "_law_planted" = true) (k21 : PySem.W.keepIn K (.ref f21) = true)
    (a22 : PySem.W.nsIn K mainGlobals "_law_first_unfit" = some (some (.ref f22)))
    (l22 : K.lookup f22 = some ⟨oc22, od22, .func (PySem.W.fnOf "_law_first_unfit" "_law_first_unfit" (defArgs s_law_first_unfit) (defBody s_law_first_unfit) (defScope s_law_first_unfit) .none kV22 dc22 pm22 an22 cd22 ct22), sl22⟩) (c22 : PySem.W.codeIn K cd22 "_law_first_unfit" = true) (k22 : PySem.W.keepIn K (.ref f22) = true)
    (a23 : PySem.W.nsIn K mainGlobals "_law_tags" = some (some (.ref f23)))
    (l23 : K.lookup f23 = some ⟨oc23, od23, .func (PySem.W.fnOf "_law_tags" "_law_tags" (defArgs s_law_tags) (defBody s_law_tags) (defScope s_law_tags) .none kV23 dc23 pm23 an23 cd23 ct23), sl23⟩) (c23 : PySem.W.codeIn K cd23 "_law_tags" = true) (k23 : PySem.W.keepIn K (.ref f23) = true)
    (a24 : PySem.W.nsIn K mainGlobals "_law_runs" = some (some (.ref f24)))
    (l24 : K.lookup f24 = some ⟨oc24, od24, .func (PySem.W.fnOf "_law_runs" "_law_runs" (defArgs s_law_runs) (defBody s_law_runs) (defScope s_law_runs) .none kV24 dc24 pm24 an24 cd24 ct24), sl24⟩) (c24 : PySem.W.codeIn K cd24 "_law_runs" = true) (k24 : PySem.W.keepIn K (.ref f24) = true)
    (a25 : PySem.W.nsIn K mainGlobals "_law_carry_ok" = some (some (.ref f25)))
    (l25 : K.lookup f25 = some ⟨oc25, od25, .func (PySem.W.fnOf "_law_carry_ok" "_law_carry_ok" (defArgs s_law_carry_ok) (defBody s_law_carry_ok) (defScope s_law_carry_ok) .none kV25 dc25 pm25 an25 cd25 ct25), sl25⟩) (c25 : PySem.W.codeIn K cd25 "_law_carry_ok" = true) (k25 : PySem.W.keepIn K (.ref f25) = true)
    (a26 : PySem.W.nsIn K mainGlobals "_law_refused" = some (some (.ref f26)))
    (l26 : K.lookup f26 = some ⟨oc26, od26, .func (PySem.W.fnOf "_law_refused" "_law_refused" (defArgs s_law_refused) (defBody s_law_refused) (defScope s_law_refused) .none kV26 dc26 pm26 an26 cd26 ct26), sl26⟩) (c26 : PySem.W.codeIn K cd26 "_law_refused" = true) (k26 : PySem.W.keepIn K (.ref f26) = true)
    (a27 : PySem.W.nsIn K mainGlobals "_law_due" = some (some (.ref f27)))
    (l27 : K.lookup f27 = some ⟨oc27, od27, .func (PySem.W.fnOf "_law_due" "_law_due" (defArgs s_law_due) (defBody s_law_due) (defScope s_law_due) .none kV27 dc27 pm27 an27 cd27 ct27), sl27⟩) (c27 : PySem.W.codeIn K cd27 "_law_due" = true) (k27 : PySem.W.keepIn K (.ref f27) = true)
    (a28 : PySem.W.nsIn K mainGlobals "_law_right" = some (some (.ref f28)))
    (l28 : K.lookup f28 = some ⟨oc28, od28, .func (PySem.W.fnOf "_law_right" "_law_right" (defArgs s_law_right) (defBody s_law_right) (defScope s_law_right) .none kV28 dc28 pm28 an28 cd28 ct28), sl28⟩) (c28 : PySem.W.codeIn K cd28 "_law_right" = true) (k28 : PySem.W.keepIn K (.ref f28) = true)
    (a29 : PySem.W.nsIn K mainGlobals "_law_asked" = some (some (.ref f29)))
    (l29 : K.lookup f29 = some ⟨oc29, od29, .func (PySem.W.fnOf "_law_asked" "_law_asked" (defArgs s_law_asked) (defBody s_law_asked) (defScope s_law_asked) .none kV29 dc29 pm29 an29 cd29 ct29), sl29⟩) (c29 : PySem.W.codeIn K cd29 "_law_asked" = true) (k29 : PySem.W.keepIn K (.ref f29) = true)
    (a30 : PySem.W.nsIn K mainGlobals "law" = some (some (.ref f30)))
    (l30 : K.lookup f30 = some ⟨oc30, od30, .func (PySem.W.fnOf "law" "law" (defArgs s_law) (defBody s_law) (defScope s_law) .none kV30 dc30 pm30 an30 cd30 ct30), sl30⟩) (c30 : PySem.W.codeIn K cd30 "law" = true) (k30 : PySem.W.keepIn K (.ref f30) = true)
    (bga_MendedError : PySem.W.specialIn K (.ref C_MendedError) "__getattribute__" = some (some (.builtin "type.__getattribute__"))) (brd_MendedError : PySem.W.readsIn K C_MendedError (.type "type") = true) (bfi_MendedError : PySem.W.findCls K (.ref C_MendedError) (.type "type") "__init__" = some (.val (.builtin "ValueError.__init__")))
    {nm_EditError q_EditError : Str} {N_EditError : Addr} {bs_EditError : List Value} {sn_EditError : List Str} {sub_EditError : List Value} {ab_EditError : Bool} {col_EditError : Option Bool} {dd_EditError : Option Addr} {m0_EditError m1_EditError m2_EditError m3_EditError m5_EditError : Option Value}
    (xL_EditError : K.lookup C_EditError = some (excClassObj nm_EditError q_EditError C_EditError N_EditError bs_EditError (.ref C_MendedError :: [.type "ValueError", .type "Exception", .type "BaseException", .type "object"]) true sn_EditError sub_EditError ab_EditError col_EditError dd_EditError m0_EditError m1_EditError m2_EditError m3_EditError m5_EditError "ValueError.__new__"))
    (sa_EditError : PySem.W.findIn K (.ref C_EditError) "__setattr__" = some (some (.builtin "object.__setattr__")))
    (ga_EditError : PySem.W.findIn K (.ref C_EditError) "__getattribute__" = some (some (.builtin "BaseException.__getattribute__")))
    (gg_EditError : PySem.W.findIn K (.ref C_EditError) "__getattr__" = some none)
    (kC_EditError : PySem.W.keepIn K (.ref C_EditError) = true)
    (eC_EditError : PySem.W.subIn K (.ref C_EditError) (.type "BaseException") = some true)
    (tC_EditError : PySem.W.typeIn K (.ref C_EditError) = some (.type "type"))
    (hd_EditError : PySem.W.hasDictIn K C_EditError = true)
    (ha_EditError : PySem.W.findIn K (.ref C_EditError) "__class__" = some (some (.builtin "object.__class__")))
    (hm_EditError : PySem.W.mroIn K C_EditError (.type "object") = some true)
    (sC_EditError : PySem.W.subIn K (.ref C_EditError) (.ref C_EditError) = some true)
    (tI_EditError : PySem.W.typeIn K (.ref f0) = some (.type "function"))
    (n_EditError_index : PySem.W.findIn K (.ref C_EditError) "index" = some none)
    (hn : PySem.W.specialIn K (.builtin "object.__class__") "__get__" = some (some (.builtin "getset_descriptor.__get__"))) (ht : PySem.W.takesIn K (.builtin "object.__class__") = some true)
    (pg_Carry : PySem.W.plainGet K C_Carry Str.empty = true)
    (hdo_Carry : PySem.W.hasDictIn K C_Carry = true)
    (po_Carry : PySem.W.plainOver K C_Carry = true)
    (sao_Carry : PySem.W.findIn K (.ref C_Carry) "__setattr__" = some (some (.builtin "object.__setattr__")))
    (mkC_Carry : PySem.W.makesIn K C_Carry = true)
    (kcC_Carry : PySem.W.keepIn K (.ref C_Carry) = true)
    (ha_Carry : PySem.W.findIn K (.ref C_Carry) "__class__" = some (some (.builtin "object.__class__")))
    (hm_Carry : PySem.W.mroIn K C_Carry (.type "object") = some true)
    (sC_Carry : PySem.W.subIn K (.ref C_Carry) (.ref C_Carry) = some true)
    (iC_Carry : PySem.W.isClsIn K C_Carry = true)
    (tY_Carry : PySem.W.typeIn K (.ref C_Carry) = some (.type "type"))
    (na_Carry_old : PySem.W.findIn K (.ref C_Carry) "old" = some none)
    (na_Carry_new : PySem.W.findIn K (.ref C_Carry) "new" = some none)
    (na_Carry_runs : PySem.W.findIn K (.ref C_Carry) "runs" = some none)
    (if_Carry__init__ : PySem.W.isFn K (.ref f3) = true)
    (if_Carry__add__ : PySem.W.isFn K (.ref f5) = true)
    (if_Carry__iter__ : PySem.W.isFn K (.ref f4) = true)
    (sf_Carry : PySem.W.selfFirst K C_Carry = true)
    (nl_Carry : PySem.W.findIn K (.ref C_Carry) "__len__" = some none) (nh_Carry : PySem.W.findIn K (.ref C_Carry) "__length_hint__" = some none)
    (s_EditError_MendedError : PySem.W.subIn K (.ref C_EditError) (.ref C_MendedError) = some true)
    (iC_MendedError : PySem.W.isClsIn K C_MendedError = true) (tY_MendedError : PySem.W.typeIn K (.ref C_MendedError) = some (.type "type"))
    (s_EditError_ValueError : PySem.W.subIn K (.ref C_EditError) (.type "ValueError") = some true)
    (s_EditError_Entangled : PySem.W.subIn K (.ref C_EditError) (.ref C_Entangled) = some false)
    (iC_Entangled : PySem.W.isClsIn K C_Entangled = true) (tY_Entangled : PySem.W.typeIn K (.ref C_Entangled) = some (.type "type"))
    (z0 : PySem.W.nsIn K mainGlobals "range" = some none)
    (z1 : PySem.W.nsIn K mainGlobals "min" = some none)
    (z2 : PySem.W.nsIn K mainGlobals "max" = some none)
    (z3 : PySem.W.nsIn K mainGlobals "len" = some none)
    (z4 : PySem.W.nsIn K mainGlobals "abs" = some none)
    (z5 : PySem.W.nsIn K mainGlobals "int" = some none)
    (z6 : PySem.W.nsIn K mainGlobals "sum" = some none)
    (z7 : PySem.W.nsIn K mainGlobals "isinstance" = some none)
    (z8 : PySem.W.nsIn K mainGlobals "bool" = some none)
    (z9 : PySem.W.nsIn K mainGlobals "list" = some none)
    (z10 : PySem.W.nsIn K mainGlobals "tuple" = some none)
    (z11 : PySem.W.nsIn K mainGlobals "str" = some none)
    (z12 : PySem.W.nsIn K mainGlobals "enumerate" = some none)
    (z13 : PySem.W.nsIn K mainGlobals "ValueError" = some none)
    (z14 : PySem.W.nsIn K mainGlobals "iter" = some none)
    : ∃ fd : FuncData, (∀ (s : Shared) (v : Value), BindsTo s fd ⟨[v], []⟩ [("script", v)]) ∧ ∀ base : Heap, K.In base → base.Ns mainGlobals mg → FnOk l.prog w K mg base CX0 8 fa fd ["script"] (spLaw K) := by
  have e := hfa.symm.trans (PySem.W.mg_of X G a30)
  cases e
  have F0 := fun_mk (st := s_EditError_init) l0 c0 k0
  have b0 := F0.binds (ps := ["self", "index"]) fun _ _ _ _ _ _ us hl => match us, hl with | [_, _], _ => rfl
  have F1 := fun_mk (st := s_first_misfit) l1 c1 k1
  have b1 := F1.binds (ps := ["length", "edits"]) fun _ _ _ _ _ _ us hl => match us, hl with | [_, _], _ => rfl
  have F2 := fun_mk (st := s_check_fits) l2 c2 k2
  have b2 := F2.binds (ps := ["length", "edits"]) fun _ _ _ _ _ _ us hl => match us, hl with | [_, _], _ => rfl
  have F3 := fun_mk (st := s_Carry_init) l3 c3 k3
  have b3 := F3.binds (ps := ["self", "old", "new", "runs"]) fun _ _ _ _ _ _ us hl => match us, hl with | [_, _, _, _], _ => rfl
  have F4 := fun_mk (st := s_Carry___iter__) l4 c4 k4
  have b4 := F4.binds (ps := ["self"]) fun _ _ _ _ _ _ us hl => match us, hl with | [_], _ => rfl
  have F5 := fun_mk (st := s_Carry___add__) l5 c5 k5
  have b5 := F5.binds (ps := ["self", "other"]) fun _ _ _ _ _ _ us hl => match us, hl with | [_, _], _ => rfl
  have F6 := fun_mk (st := s_through) l6 c6 k6
  have b6 := F6.binds (ps := ["first", "second"]) fun _ _ _ _ _ _ us hl => match us, hl with | [_, _], _ => rfl
  have F7 := fun_mk (st := s_joined_runs) l7 c7 k7
  have b7 := F7.binds (ps := ["pieces"]) fun _ _ _ _ _ _ us hl => match us, hl with | [_], _ => rfl
  have F8 := fun_mk (st := s_carry_of) l8 c8 k8
  have b8 := F8.binds (ps := ["length", "edits"]) fun _ _ _ _ _ _ us hl => match us, hl with | [_, _], _ => rfl
  have F9 := fun_mk (st := s_carry_of_one) l9 c9 k9
  have b9 := F9.binds (ps := ["length", "start", "end", "count"]) fun _ _ _ _ _ _ us hl => match us, hl with | [_, _, _, _], _ => rfl
  have F10 := fun_mk (st := s_law_reel) l10 c10 k10
  have b10 := F10.binds (ps := ["script"]) fun _ _ _ _ _ _ us hl => match us, hl with | [_], _ => rfl
  have F11 := fun_mk (st := s_law_draw) l11 c11 k11
  have b11 := F11.binds (ps := ["reel", "size"]) fun _ _ _ _ _ _ us hl => match us, hl with | [_, _], _ => rfl
  have F12 := fun_mk (st := s_law_pick) l12 c12 k12
  have b12 := F12.binds (ps := ["reel", "row"]) fun _ _ _ _ _ _ us hl => match us, hl with | [_, _], _ => rfl
  have F13 := fun_mk (st := s_law_word) l13 c13 k13
  have b13 := F13.binds (ps := ["reel", "letters", "least", "most"]) fun _ _ _ _ _ _ us hl => match us, hl with | [_, _, _, _], _ => rfl
  have F14 := fun_mk (st := s_law_number) l14 c14 k14
  have b14 := F14.binds (ps := ["value"]) fun _ _ _ _ _ _ us hl => match us, hl with | [_], _ => rfl
  have F15 := fun_mk (st := s_law_signs) l15 c15 k15
  have b15 := F15.binds (ps := []) fun _ _ _ _ _ _ us hl => match us, hl with | [], _ => rfl
  have F16 := fun_mk (st := s_law_stepped) l16 c16 k16
  have b16 := F16.binds (ps := ["reel", "size"]) fun _ _ _ _ _ _ us hl => match us, hl with | [_, _], _ => rfl
  have F17 := fun_mk (st := s_law_text) l17 c17 k17
  have b17 := F17.binds (ps := ["reel"]) fun _ _ _ _ _ _ us hl => match us, hl with | [_], _ => rfl
  have F18 := fun_mk (st := s_law_new) l18 c18 k18
  have b18 := F18.binds (ps := ["reel"]) fun _ _ _ _ _ _ us hl => match us, hl with | [_], _ => rfl
  have F19 := fun_mk (st := s_law_edit_row) l19 c19 k19
  have b19 := F19.binds (ps := ["reel", "text", "count"]) fun _ _ _ _ _ _ us hl => match us, hl with | [_, _, _], _ => rfl
  have F20 := fun_mk (st := s_law_unfit) l20 c20 k20
  have b20 := F20.binds (ps := ["reel", "size"]) fun _ _ _ _ _ _ us hl => match us, hl with | [_, _], _ => rfl
  have F21 := fun_mk (st := s_law_planted) l21 c21 k21
  have b21 := F21.binds (ps := ["reel", "text", "edits", "many"]) fun _ _ _ _ _ _ us hl => match us, hl with | [_, _, _, _], _ => rfl
  have F22 := fun_mk (st := s_law_first_unfit) l22 c22 k22
  have b22 := F22.binds (ps := ["size", "edits"]) fun _ _ _ _ _ _ us hl => match us, hl with | [_, _], _ => rfl
  have F23 := fun_mk (st := s_law_tags) l23 c23 k23
  have b23 := F23.binds (ps := ["size", "edits"]) fun _ _ _ _ _ _ us hl => match us, hl with | [_, _], _ => rfl
  have F24 := fun_mk (st := s_law_runs) l24 c24 k24
  have b24 := F24.binds (ps := ["tags"]) fun _ _ _ _ _ _ us hl => match us, hl with | [_], _ => rfl
  have F25 := fun_mk (st := s_law_carry_ok) l25 c25 k25
  have b25 := F25.binds (ps := ["told", "old", "new", "runs"]) fun _ _ _ _ _ _ us hl => match us, hl with | [_, _, _, _], _ => rfl
  have F26 := fun_mk (st := s_law_refused) l26 c26 k26
  have b26 := F26.binds (ps := ["size", "edits"]) fun _ _ _ _ _ _ us hl => match us, hl with | [_, _], _ => rfl
  have F27 := fun_mk (st := s_law_due) l27 c27 k27
  have b27 := F27.binds (ps := ["size", "edits"]) fun _ _ _ _ _ _ us hl => match us, hl with | [_, _], _ => rfl
  have F28 := fun_mk (st := s_law_right) l28 c28 k28
  have b28 := F28.binds (ps := ["told", "due"]) fun _ _ _ _ _ _ us hl => match us, hl with | [_, _], _ => rfl
  have F29 := fun_mk (st := s_law_asked) l29 c29 k29
  have b29 := F29.binds (ps := ["size", "edits", "others"]) fun _ _ _ _ _ _ us hl => match us, hl with | [_, _, _], _ => rfl
  have F30 := fun_mk (st := s_law) l30 c30 k30
  have b30 := F30.binds (ps := ["script"]) fun _ _ _ _ _ _ us hl => match us, hl with | [_], _ => rfl
  let T : Txt K mg :=
    { C_MendedError := C_MendedError,
      G_MendedError := PySem.W.mg_of X G g_MendedError,
      C_EditError := C_EditError,
      G_EditError := PySem.W.mg_of X G g_EditError,
      C_Entangled := C_Entangled,
      G_Entangled := PySem.W.mg_of X G g_Entangled,
      C_Carry := C_Carry,
      G_Carry := PySem.W.mg_of X G g_Carry,
      a_EditError_init := _, fd_EditError_init := _, F_EditError_init := F0, b_EditError_init := b0,
      a_first_misfit := _, fd_first_misfit := _, F_first_misfit := F1, b_first_misfit := b1, g_first_misfit := PySem.W.mg_of X G a1,
      a_check_fits := _, fd_check_fits := _, F_check_fits := F2, b_check_fits := b2, g_check_fits := PySem.W.mg_of X G a2,
      a_Carry_init := _, fd_Carry_init := _, F_Carry_init := F3, b_Carry_init := b3,
      a_Carry___iter__ := _, fd_Carry___iter__ := _, F_Carry___iter__ := F4, b_Carry___iter__ := b4,
      a_Carry___add__ := _, fd_Carry___add__ := _, F_Carry___add__ := F5, b_Carry___add__ := b5,
      a_through := _, fd_through := _, F_through := F6, b_through := b6, g_through := PySem.W.mg_of X G a6,
      a_joined_runs := _, fd_joined_runs := _, F_joined_runs := F7, b_joined_runs := b7, g_joined_runs := PySem.W.mg_of X G a7,
      a_carry_of := _, fd_carry_of := _, F_carry_of := F8, b_carry_of := b8, g_carry_of := PySem.W.mg_of X G a8,
      a_carry_of_one := _, fd_carry_of_one := _, F_carry_of_one := F9, b_carry_of_one := b9, g_carry_of_one := PySem.W.mg_of X G a9,
      a_law_reel := _, fd_law_reel := _, F_law_reel := F10, b_law_reel := b10, g_law_reel := PySem.W.mg_of X G a10,
      a_law_draw := _, fd_law_draw := _, F_law_draw := F11, b_law_draw := b11, g_law_draw := PySem.W.mg_of X G a11,
      a_law_pick := _, fd_law_pick := _, F_law_pick := F12, b_law_pick := b12, g_law_pick := PySem.W.mg_of X G a12,
      a_law_word := _, fd_law_word := _, F_law_word := F13, b_law_word := b13, g_law_word := PySem.W.mg_of X G a13,
      a_law_number := _, fd_law_number := _, F_law_number := F14, b_law_number := b14, g_law_number := PySem.W.mg_of X G a14,
      a_law_signs := _, fd_law_signs := _, F_law_signs := F15, b_law_signs := b15, g_law_signs := PySem.W.mg_of X G a15,
      a_law_stepped := _, fd_law_stepped := _, F_law_stepped := F16, b_law_stepped := b16, g_law_stepped := PySem.W.mg_of X G a16,
      a_law_text := _, fd_law_text := _, F_law_text := F17, b_law_text := b17, g_law_text := PySem.W.mg_of X G a17,
      a_law_new := _, fd_law_new := _, F_law_new := F18, b_law_new := b18, g_law_new := PySem.W.mg_of X G a18,
      a_law_edit_row := _, fd_law_edit_row := _, F_law_edit_row := F19, b_law_edit_row := b19, g_law_edit_row := PySem.W.mg_of X G a19,
      a_law_unfit := _, fd_law_unfit := _, F_law_unfit := F20, b_law_unfit := b20, g_law_unfit := PySem.W.mg_of X G a20,
      a_law_planted := _, fd_law_planted := _, F_law_planted := F21, b_law_planted := b21, g_law_planted := PySem.W.mg_of X G a21,
      a_law_first_unfit := _, fd_law_first_unfit := _, F_law_first_unfit := F22, b_law_first_unfit := b22, g_law_first_unfit := PySem.W.mg_of X G a22,
      a_law_tags := _, fd_law_tags := _, F_law_tags := F23, b_law_tags := b23, g_law_tags := PySem.W.mg_of X G a23,
      a_law_runs := _, fd_law_runs := _, F_law_runs := F24, b_law_runs := b24, g_law_runs := PySem.W.mg_of X G a24,
      a_law_carry_ok := _, fd_law_carry_ok := _, F_law_carry_ok := F25, b_law_carry_ok := b25, g_law_carry_ok := PySem.W.mg_of X G a25,
      a_law_refused := _, fd_law_refused := _, F_law_refused := F26, b_law_refused := b26, g_law_refused := PySem.W.mg_of X G a26,
      a_law_due := _, fd_law_due := _, F_law_due := F27, b_law_due := b27, g_law_due := PySem.W.mg_of X G a27,
      a_law_right := _, fd_law_right := _, F_law_right := F28, b_law_right := b28, g_law_right := PySem.W.mg_of X G a28,
      a_law_asked := _, fd_law_asked := _, F_law_asked := F29, b_law_asked := b29, g_law_asked := PySem.W.mg_of X G a29,
      a_law := _, fd_law := _, F_law := F30, b_law := b30, g_law := PySem.W.mg_of X G a30,
      B_MendedError := ⟨bga_MendedError, brd_MendedError, bfi_MendedError⟩,
      E_EditError := errK_mk (PySem.W.mg_of X G g_EditError) xL_EditError (by rfl) sa_EditError ga_EditError gg_EditError a0 tI_EditError kC_EditError eC_EditError tC_EditError hd_EditError ha_EditError hn ht hm_EditError sC_EditError,
      n_EditError_index := n_EditError_index,
      CL_Carry := ⟨pg_Carry, hdo_Carry, po_Carry, sao_Carry⟩,
      MK_Carry := ⟨mkC_Carry, a3, if_Carry__init__, kcC_Carry⟩,
      IC_Carry := ⟨⟨pg_Carry, hdo_Carry, po_Carry, sao_Carry⟩, ha_Carry, hn, ht, hm_Carry, kit_refT sC_Carry iC_Carry tY_Carry⟩,
      NA_Carry_old := na_Carry_old,
      NA_Carry_new := na_Carry_new,
      NA_Carry_runs := na_Carry_runs,
      ME_Carry__add__ := ⟨a5, if_Carry__add__, k5⟩,
      SF_Carry := sf_Carry,
      IT_Carry := ⟨a4, if_Carry__iter__, nl_Carry, nh_Carry⟩,
      k_EditError_MendedError := kit_refT s_EditError_MendedError iC_MendedError tY_MendedError,
      k_EditError_ValueError := kit_refTy s_EditError_ValueError (by decide +kernel),
      k_EditError_Entangled := kit_refF sC_EditError s_EditError_Entangled iC_Entangled tY_Entangled,
      m_range := PySem.W.mg_none_of X G z0,
      m_min := PySem.W.mg_none_of X G z1,
      m_max := PySem.W.mg_none_of X G z2,
      m_len := PySem.W.mg_none_of X G z3,
      m_abs := PySem.W.mg_none_of X G z4,
      m_int := PySem.W.mg_none_of X G z5,
      m_sum := PySem.W.mg_none_of X G z6,
      m_isinstance := PySem.W.mg_none_of X G z7,
      m_bool := PySem.W.mg_none_of X G z8,
      m_list := PySem.W.mg_none_of X G z9,
      m_tuple := PySem.W.mg_none_of X G z10,
      m_str := PySem.W.mg_none_of X G z11,
      m_enumerate := PySem.W.mg_none_of X G z12,
      m_ValueError := PySem.W.mg_none_of X G z13,
      m_iter := PySem.W.mg_none_of X G z14 }
  exact ⟨PySem.W.fnOf "law" "law" (defArgs s_law) (defBody s_law) (defScope s_law) .none kV30 dc30 pm30 an30 cd30 ct30, fun s v => .of_eq rfl, fun base _ _ => ok_top T⟩
end M
open PySem PySem.W PyProof.Rows
set_option maxRecDepth 100000 in
set_option maxHeartbeats 0 in
theorem PySem.Challenge.cw_mendedtree_k56_carry_runs_holds : PySem.Challenge.rw_mendedtree_k56_carry_runs.Holds := by
  w_on; o_law; k_head; (case hw => w_witness2)
  k_fill
  refine L2.walk_of (l := PySem.Challenge.rw_mendedtree_k56_carry_runs) (n := 63) (k := 8) (x := "script") (CX := fun _ => L2.CX0) (sp := fun w => M.spLaw _) rfl (by decide) rfl ⟨rfl, by decide, by decide⟩ (fun w h Y => PySem.W.kIn_of Y) ?F (fun _ _ a ns hl _ hS => ⟨a, ns, rfl, hS, hl, fun _ => rfl⟩) (fun _ _ _ _ _ h => h)
  case F =>
    intro w mg fa h KX G hmg
    refine' M.all_mk KX G hmg ?g_MendedError ?g_EditError ?g_Entangled ?g_Carry ?a0 ?l0 ?c0 ?k0 ?a1 ?l1 ?c1 ?k1 ?a2 ?l2 ?c2 ?k2 ?a3 ?l3 ?c3 ?k3 ?a4 ?l4 ?c4 ?k4 ?a5 ?l5 ?c5 ?k5 ?a6 ?l6 ?c6 ?k6 ?a7 ?l7 ?c7 ?k7 ?a8 ?l8 ?c8 ?k8 ?a9 ?l9 ?c9 ?k9 ?a10 ?l10 ?c10 ?k10 ?a11 ?l11 ?c11 ?k11 ?a12 ?l12 ?c12 ?k12 ?a13 ?l13 ?c13 ?k13 ?a14 ?l14 ?c14 ?k14 ?a15 ?l15 ?c15 ?k15 ?a16 ?l16 ?c16 ?k16 ?a17 ?l17 ?c17 ?k17 ?a18 ?l18 ?c18 ?k18 ?a19 ?l19 ?c19 ?k19 ?a20 ?l20 ?c20 ?k20 ?a21 ?l21 ?c21 ?k21 ?a22 ?l22 ?c22 ?k22 ?a23 ?l23 ?c23 ?k23 ?a24 ?l24 ?c24 ?k24 ?a25 ?l25 ?c25 ?k25 ?a26 ?l26 ?c26 ?k26 ?a27 ?l27 ?c27 ?k27 ?a28 ?l28 ?c28 ?k28 ?a29 ?l29 ?c29 ?k29 ?a30 ?l30 ?c30 ?k30 ?bga_MendedError ?brd_MendedError ?bfi_MendedError ?xL_EditError ?sa_EditError ?ga_EditError ?gg_EditError ?kC_EditError ?eC_EditError ?tC_EditError ?hd_EditError ?ha_EditError ?hm_EditError ?sC_EditError ?tI_EditError ?n_EditError_index ?hn ?ht ?pg_Carry ?hdo_Carry ?po_Carry ?sao_Carry ?mkC_Carry ?kcC_Carry ?ha_Carry ?hm_Carry ?sC_Carry ?iC_Carry ?tY_Carry ?na_Carry_old ?na_Carry_new ?na_Carry_runs ?if_Carry__init__ ?if_Carry__add__ ?if_Carry__iter__ ?sf_Carry ?nl_Carry ?nh_Carry ?s_EditError_MendedError ?iC_MendedError ?tY_MendedError ?s_EditError_ValueError ?s_EditError_Entangled ?iC_Entangled ?tY_Entangled ?z0 ?z1 ?z2 ?z3 ?z4 ?z5 ?z6 ?z7 ?z8 ?z9 ?z10 ?z11 ?z12 ?z13 ?z14
    (case g_MendedError => k_is); (case g_EditError => k_is); (case g_Entangled => k_is); (case g_Carry => k_is); (case a0 => k_is); (case l0 => k_is); (case c0 => k_is); (case k0 => k_is); (case a1 => k_is); (case l1 => k_is); (case c1 => k_is); (case k1 => k_is); (case a2 => k_is); (case l2 => k_is); (case c2 => k_is); (case k2 => k_is); (case a3 => k_is); (case l3 => k_is); (case c3 => k_is); (case k3 => k_is); (case a4 => k_is); (case l4 => k_is); (case c4 => k_is); (case k4 => k_is); (case a5 => k_is); (case l5 => k_is); (case c5 => k_is); (case k5 => k_is); (case a6 => k_is); (case l6 => k_is); (case c6 => k_is); (case k6 => k_is); (case a7 => k_is); (case l7 => k_is); (case c7 => k_is); (case k7 => k_is); (case a8 => k_is); (case l8 => k_is); (case c8 => k_is); (case k8 => k_is); (case a9 => k_is); (case l9 => k_is); (case c9 => k_is); (case k9 => k_is); (case a10 => k_is); (case l10 => k_is); (case c10 => k_is); (case k10 => k_is); (case a11 => k_is); (case l11 => k_is); (case c11 => k_is); (case k11 => k_is); (case a12 => k_is); (case l12 => k_is); (case c12 => k_is); (case k12 => k_is); (case a13 => k_is); (case l13 => k_is); (case c13 => k_is); (case k13 => k_is); (case a14 => k_is); (case l14 => k_is); (case c14 => k_is); (case k14 => k_is); (case a15 => k_is); (case l15 => k_is); (case c15 => k_is); (case k15 => k_is); (case a16 => k_is); (case l16 => k_is); (case c16 => k_is); (case k16 => k_is); (case a17 => k_is); (case l17 => k_is); (case c17 => k_is); (case k17 => k_is); (case a18 => k_is); (case l18 => k_is); (case c18 => k_is); (case k18 => k_is); (case a19 => k_is); (case l19 => k_is); (case c19 => k_is); (case k19 => k_is); (case a20 => k_is); (case l20 => k_is); (case c20 => k_is); (case k20 => k_is); (case a21 => k_is); (case l21 => k_is); (case c21 => k_is); (case k21 => k_is); (case a22 => k_is); (case l22 => k_is); (case c22 => k_is); (case k22 => k_is); (case a23 => k_is); (case l23 => k_is); (case c23 => k_is); (case k23 => k_is); (case a24 => k_is); (case l24 => k_is); (case c24 => k_is); (case k24 => k_is); (case a25 => k_is); (case l25 => k_is); (case c25 => k_is); (case k25 => k_is); (case a26 => k_is); (case l26 => k_is); (case c26 => k_is); (case k26 => k_is); (case a27 => k_is); (case l27 => k_is); (case c27 => k_is); (case k27 => k_is); (case a28 => k_is); (case l28 => k_is); (case c28 => k_is); (case k28 => k_is); (case a29 => k_is); (case l29 => k_is); (case c29 => k_is); (case k29 => k_is); (case a30 => k_is); (case l30 => k_is); (case c30 => k_is); (case k30 => k_is); (case bga_MendedError => k_is); (case brd_MendedError => k_is); (case bfi_MendedError => k_is); (case xL_EditError => k_is); (case sa_EditError => k_is); (case ga_EditError => k_is); (case gg_EditError => k_is); (case kC_EditError => k_is); (case eC_EditError => k_is); (case tC_EditError => k_is); (case hd_EditError => k_is); (case ha_EditError => k_is); (case hm_EditError => k_is); (case sC_EditError => k_is); (case tI_EditError => k_is); (case n_EditError_index => k_is); (case hn => k_is); (case ht => k_is); (case pg_Carry => k_is); (case hdo_Carry => k_is); (case po_Carry => k_is); (case sao_Carry => k_is); (case mkC_Carry => k_is); (case kcC_Carry => k_is); (case ha_Carry => k_is); (case hm_Carry => k_is); (case sC_Carry => k_is); (case iC_Carry => k_is); (case tY_Carry => k_is); (case na_Carry_old => k_is); (case na_Carry_new => k_is); (case na_Carry_runs => k_is); (case if_Carry__init__ => k_is); (case if_Carry__add__ => k_is); (case if_Carry__iter__ => k_is); (case sf_Carry => k_is); (case nl_Carry => k_is); (case nh_Carry => k_is); (case s_EditError_MendedError => k_is); (case iC_MendedError => k_is); (case tY_MendedError => k_is); (case s_EditError_ValueError => k_is); (case s_EditError_Entangled => k_is); (case iC_Entangled => k_is); (case tY_Entangled => k_is); (case z0 => k_is); (case z1 => k_is); (case z2 => k_is); (case z3 => k_is); (case z4 => k_is); (case z5 => k_is); (case z6 => k_is); (case z7 => k_is); (case z8 => k_is); (case z9 => k_is); (case z10 => k_is); (case z11 => k_is); (case z12 => k_is); (case z13 => k_is); (case z14 => k_is)
