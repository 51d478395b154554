import PyProof.Rows.All
import PySem.Challenge.RW_mendedtree_k55_inverse
import HandS.ForMost
import HandS.ForExc
import HandS.IsInst
import HandS.Codes
import HandS.FStr
import HandS.FStrTup
import HandS.ExcInit
import HandS.ExcIs
import HandS.ExcField
import HandS.ClsMeth
import HandS.ExcValue
import HandS.Style
set_option Elab.async false
set_option linter.all false
set_option maxRecDepth 100000
set_option maxHeartbeats 4000000
namespace L2
open PySem PySem.Spec PyProof.Rows
/-- what the written part says of an own base class whose __init__ is ValueError's -/
structure BaseC (K : PySem.W.Frag) (C0 : Addr) : Prop where
  ga : PySem.W.specialIn K (.ref C0) "__getattribute__" = some (some (.builtin "type.__getattribute__"))
  rd : PySem.W.readsIn K C0 (.type "type") = true
  fi : PySem.W.findCls K (.ref C0) (.type "type") "__init__" = some (.val (.builtin "ValueError.__init__"))
section
variable {X : Cx} {e : Expr} {es : List Expr} {ta : TA} {p1 p2 pos : Pos} {x : Str} {C0 : Addr}
/-- Base.__init__(self, ..), Base an own class over ValueError without an __init__ of its own -/
theorem pe_baseInit {later : Sem Bool} (hg : Gl X x) (hm : X.mg x = some (.ref C0)) (B : BaseC X.K C0) (ha : PA X (e :: es) ta) (hdb : (x == ("__debug__" : Str)) = false := by decide)
    (told : eval (.Call (.Attribute (.Name x p1) "__init__" p2) (e :: es) [] pos) X.env = (do
      let cls ← eval (.Name x p1) X.env
      standAt p2.atName
      let (m, bound) ← holding [cls] (getMethod cls "__init__" later)
      callWith pos m bound (backTo pos (starEach (e :: es) X.env)) (backToKw pos (keywordEach [] X.env))) := by rfl)
    (one : starEach (e :: es) X.env = (false, eval e X.env) :: starEach es X.env := by rfl) (plain : (backTo pos (starEach es X.env)).any (·.1) = false := by rfl) :
    PE X (.Call (.Attribute (.Name x p1) "__init__" p2) (e :: es) [] pos) (tVeI X.K ta) := by
  constructor
  intro pins s σ H Q I h
  refine PySem.W.methodCall_KW (ld_glob I hg hm (PySem.W.method_cls I.kIn B.ga (PySem.W.cls_value I.kIn B.rd B.fi rfl ?_)) hdb) told
  refine PyProof.Rows.callWith_method1 (id := "ValueError.__init__") (thn (ha.run pos pins _ σ H _ (I.tok _) h) ?_) one plain
  rintro us s1 ⟨vs, H1, I1, r1, a, C, ws, rfl, few, T, here, q⟩
  cases r1 with
  | @cons _ u _ us' ra rw' =>
    have eu : u = Value.ref a := ra
    subst eu
    have n : us'.length ≤ sizeLine := by
      have := Paired.length rw'
      rw [sizeLine_eq]
      omega
    exact oinit_ok T I1 here n fun s2 I2 => ⟨.non, H1, I2, rfl, q⟩
end
end L2

namespace PySem.W
open PySem PySem.Spec PySem.Calls PyProof.Rows
section
variable {prog : Program} {w : World} {A : Around} {E : Value → Shared → Prop} {K : Frag} {D : Addr}
/-- what BaseException's reading of __class__ gives, asked of an error with or without a dict -/
theorem bexc_class {x : Addr} {ox : Obj} {od : Option Obj} {s : Shared} {tk : Tok} {R : Value → Shared → Prop} (C : L2.ExcC K D) (X : K.In s.heap) (I : InstAt s.heap x ox D od) (q : R (.ref D) s)
    (hf : findObj K D od "__class__" = some (.bind (.builtin "getset_descriptor.__get__") (.builtin "object.__class__"))) :
    wpAny (model prog w) A (call (.builtin "BaseException.__getattribute__") [.ref x, .str "__class__" tk]) R E s := by
  have ty := I.type (M := model prog w)
  have isExc : Looks (model prog w) s.heap (isInstance (.ref x) (.type "BaseException")) true := ty.andThen (looks_subIn X C.hs)
  refine wpAny_call (codeAny_call_builtin PySem.F.excAttr_ValueError.ga.plain PySem.F.entry_bexc_ga (@check_slot (model prog w) _ _ s "BaseException.__getattribute__" "BaseException" "__getattribute__" (.ref x) [.str "__class__" tk] [] _ (by decide +kernel) (by decide +kernel) isExc (PySem.F.args_bexc_ga (.ref x) (.str "__class__" tk)) ?_))
  unfold Builtin.«object.__getattribute__»
  refine wpAny_bind (wpAny_of_eq (a := ((Value.ref x : Value), [Value.str "__class__" tk])) (by first | rfl | (simp only [slotArgs]; rfl)) (wpAny_bind (wpAny_pure (wpAny_bind (ty.at (wpAny_bind ((looks_find (M := model prog w) X I hf).at ?_)))))))
  exact wpAny_bind (wpAny_holding (wpAny_call (class_get (ox := ox) (od := od) X I C.hm (wpAny_pure (by first | exact wpAny_pure q | exact q)))))
theorem if_no {b : Bool} {m n : Sem Value} {R : Value → Shared → Prop} {F : Value → Shared → Prop} {u : Shared} (e : b = false) (k : wpAny (model prog w) A n R F u) : wpAny (model prog w) A (if b = true then m else n) R F u := by
  subst e
  exact k
theorem class_of_err {x : Addr} {ox od : Obj} {s : Shared} {Q : Option Value → Shared → Prop} (C : L2.ExcC K D) (X : K.In s.heap) (I : InstAt s.heap x ox D (some od)) (q : Q (some (.ref D)) { s with toks := s.toks + 1 }) :
    wpAny (model prog w) A (getAttr? (.ref x) "__class__") Q E s := by
  have some_cls : (clsIn K D).isSome = true := by
    obtain ⟨c, e, _⟩ := any_some C.hd
    rw [e] <;> rfl
  have found := findObj_data (od := od) some_cls C.ha C.hn C.ht
  have other : (Value.builtin "BaseException.__getattribute__" == Value.builtin "object.__getattribute__") = false := by decide +kernel
  obtain ⟨hp, g, d, t, os⟩ := s
  have ty := I.type (M := model prog w)
  unfold getAttr? getAttrBy? getAttrBy
  refine wpAny_bind (wpAny_mkText (wpAny_bind (wpAny_attempt (wpAny_holding (wpAny_bind (ty.at (wpAny_bind ((looks_findIn (M := model prog w) X C.hg).at ?_))))))))
  refine if_no (by rw [other]; rfl) ?_
  unfold getAttrByItsOwn hookBefore
  refine wpAny_bind ?_
  rw [if_pos (by rfl : onTheHeap (Value.ref D) = true)]
  refine (looks_findIn (M := model prog w) X C.hk).at (wpAny_bind (wpAny_attempt (wpAny_holding ?_)))
  unfold callGetattribute
  refine if_no (by rfl) ?_
  unfold boundAndCalled
  rw [PySem.F.excAttr_ValueError.ga.bind (.ref x)]
  refine wpAny_bind (wpAny_pure (bexc_class C X I ?_ found))
  first
    | exact wpAny_pure (wpAny_pure q)
    | exact wpAny_bind (wpAny_pure (wpAny_pure q))
    | exact wpAny_pure q
    | exact wpAny_pure (wpAny_bind (wpAny_pure (wpAny_pure q)))
/-- isinstance of an error that has a dict -/
theorem own_kitx {x : Addr} {ox : Obj} (C : L2.ExcC K D) : KitX K (.ref x) (.ref D) (fun h => ∃ od, InstAt h x ox D (some od)) :=
  { ty := fun _ _ _ ⟨_, I⟩ => I.type
    it := fun M h X _ A' Q' E' s' k q => (mc_isType (s := s') (fun b o e => k b o (X b o e)) C.hd).at q
    ne := (handS_kitx_exc (x := x) (ox := ox) C.hg C.hk C.hs C.hd C.ha C.hn C.ht C.hm).ne
    ca := fun X ⟨_, I⟩ q => class_of_err C X I q }
end
end PySem.W
namespace L2
open PySem PySem.Spec PyProof.Rows
section
variable {X : Cx} {a D dd : Addr} {oe : Obj} {pn : List (Addr × Obj)}
theorem suite_inst {pins : List (Addr × Obj)} {σ : L2.St} {H : Hp} {s : Shared} {fs : List (Str × V)} (I : Inv (X.suite a ((a, oe) :: pn)) pins σ H s) (hz : Zc (.ref D) (some dd) oe) (hf : ∃ vs, oe.data = .fields vs) (hx : H dd = some (.xd fs)) :
    ∃ od, PySem.W.InstAt s.heap a oe D (some od) := by
  have here := (I.pin (a, oe) (by simp [Cx.suite])).1
  obtain ⟨vs, hv⟩ := hf
  have hdx : ObjOk X.prog X.w H s.heap dd (.xd fs) := I.hok dd _ hx
  obtain ⟨m, names, _⟩ := hdx
  obtain ⟨o, ho, _⟩ := lookIn_ns names
  refine ⟨o, here, hz.1, ?_, by rw [hz.2]; exact ho⟩
  unfold PySem.W.notCls
  rw [hv] <;> rfl
/-- isinstance(e, c), e the exception that the suite holds, with its dict at dd -/
def rIsD (K : PySem.W.Frag) (D a dd : Addr) : List V → Hp → VK → Prop := fun xs H Q => ∃ (c : V) (cv : Value) (b : Bool) (fs : List (Str × V)), xs = [.ref a, c] ∧ ClsV c cv ∧ H dd = some (.xd fs) ∧ PySem.W.kitOne K (.ref D) cv = some b ∧ Q (.bl b) H
theorem call_isD (C : ExcC X.K D) (hz : Zc (.ref D) (some dd) oe) (hf : ∃ vs, oe.data = .fields vs) : CallR (X.suite a ((a, oe) :: pn)) (.builtin "isinstance") (rIsD X.K D a dd) := by
  rintro pins s σ H xs us Q I r ⟨c, cv, b, fs, rfl, hcv, hx, e, q⟩
  obtain ⟨w1, w2, rfl, p1, p2⟩ := vals2 r
  have e1 : w1 = Value.ref a := p1
  have e2 := hcv.eq p2
  subst e1 e2
  exact PySem.W.kia_one (PySem.W.own_kitx C) I.kIn (suite_inst I hz hf hx) e nofun fun tk => ⟨.bl b, H, I.kept (t' := tk) fun _ _ z => z, rfl, q⟩
/-- isinstance(e, (c1, c2, ..)) -/
def rIsDT (K : PySem.W.Frag) (D a dd : Addr) : List V → Hp → VK → Prop := fun xs H Q => ∃ (tp : Addr) (cs : List V) (us : List Value) (b : Bool) (fs : List (Str × V)), xs = [.ref a, .ref tp] ∧ H tp = some (.tup cs) ∧ Paired ClsV cs us ∧ H dd = some (.xd fs) ∧ PySem.W.kitAny K (.ref D) us = some b ∧ Q (.bl b) H
theorem call_isDT (C : ExcC X.K D) (hz : Zc (.ref D) (some dd) oe) (hf : ∃ vs, oe.data = .fields vs) : CallR (X.suite a ((a, oe) :: pn)) (.builtin "isinstance") (rIsDT X.K D a dd) := by
  rintro pins s σ H xs us Q I r ⟨tp, cs, ws, b, fs, rfl, hT, k, hx, e, q⟩
  obtain ⟨w1, w2, rfl, p1, p2⟩ := vals2 r
  have e1 : w1 = Value.ref a := p1
  have e2 : w2 = Value.ref tp := p2
  subst e1 e2
  have hok : ObjOk X.prog X.w H s.heap tp (.tup cs) := I.hok tp _ hT
  obtain ⟨_, its, rv, ⟨oc, od, dt, sl⟩, g1, g2, n, g3⟩ := hok
  have e3 := ClsV.all k rv
  dsimp only at g2 g3
  subst e3 g2 g3
  exact PySem.W.kia_tup (PySem.W.own_kitx C) I.kIn (suite_inst I hz hf hx) g1 e nofun fun tk => ⟨.bl b, H, I.kept (t' := tk) fun _ _ z => z, rfl, q⟩
end
end L2

namespace L2
open PySem PySem.Spec PyProof.Rows
/-- an own error class (name) at C, with an __init__ of its own at fI -/
structure ErrK (K : PySem.W.Frag) (mg : Str → Option Value) (name : Str) (C fI : Addr) : Prop where
  g : mg name = some (.ref C)
  oex : OexC K C
  iC : PySem.W.findIn K (.ref C) "__init__" = some (some (.ref fI))
  tI : PySem.W.typeIn K (.ref fI) = some (.type "function")
  exc : ExcC K C
  xf : XfC K C
  self : PySem.W.exmOne K (.ref C) (.ref C) = some true
theorem errK_mk {K : PySem.W.Frag} {mg : Str → Option Value} {name : Str} {C fI : Addr}
    {nm q : Str} {N : Addr} {bs bm : List Value} {sn : List Str} {sub : List Value} {ab : Bool} {col : Option Bool} {dd : Option Addr} {m0 m1 m2 m3 m5 : Option Value}
    (g : mg name = some (.ref C)) (xL : K.lookup C = some (excClassObj nm q C N bs bm true sn sub ab col dd m0 m1 m2 m3 m5 "ValueError.__new__")) (hbm : PySem.HandSPX.refsVE bm = true)
    (sa : PySem.W.findIn K (.ref C) "__setattr__" = some (some (.builtin "object.__setattr__"))) (ga : PySem.W.findIn K (.ref C) "__getattribute__" = some (some (.builtin "BaseException.__getattribute__"))) (gg : PySem.W.findIn K (.ref C) "__getattr__" = some none)
    (iC : PySem.W.findIn K (.ref C) "__init__" = some (some (.ref fI))) (tI : PySem.W.typeIn K (.ref fI) = some (.type "function")) (kC : PySem.W.keepIn K (.ref C) = true) (eC : PySem.W.subIn K (.ref C) (.type "BaseException") = some true) (tC : PySem.W.typeIn K (.ref C) = some (.type "type"))
    (hd : PySem.W.hasDictIn K C = true) (ha : PySem.W.findIn K (.ref C) "__class__" = some (some (.builtin "object.__class__"))) (hn : PySem.W.specialIn K (.builtin "object.__class__") "__get__" = some (some (.builtin "getset_descriptor.__get__")))
    (ht : PySem.W.takesIn K (.builtin "object.__class__") = some true) (hm : PySem.W.mroIn K C (.type "object") = some true) (sC : PySem.W.subIn K (.ref C) (.ref C) = some true) : ErrK K mg name C fI :=
  { g := g, oex := ⟨⟨nm, q, N, bs, bm, sn, sub, ab, col, dd, m0, m1, m2, m3, m5, xL, hbm⟩, sa, eC, tC, kC⟩, iC := iC, tI := tI, exc := ⟨ga, gg, eC, hd, ha, hn, ht, hm⟩, xf := ⟨ga, gg, eC, hd⟩, self := PySem.W.exm_ref eC hd tC sC }
/-- what making such an error with one field leaves: an error whose dict holds the field, all else as it was -/
def spInit1 (f : Str) (C : Addr) (ok : V → Prop) : Sp := fun vs H Q _ => ∃ (a : Addr) (v : V), vs = [.ref a, v] ∧ ok v ∧ H a = some (exo a C none) ∧ ∀ dx, H dx = none → dx ≠ a → Q .non (upd (upd H dx (exd dx [(f, v)])) a (exo a C (some dx)))
theorem made1 {H : Hp} {a dx C : Addr} {f : Str} {v : V} {fs : List (Str × V)} (na : H a = none) (nd : (upd H a (exo a C none)) dx = none) (hne : dx ≠ a) :
    H dx = none ∧ Same H (upd (del (upd (upd (upd H a (exo a C none)) dx (exd dx fs)) a (exo a C (some dx))) a) dx (.xd fs)) ∧ (upd (del (upd (upd (upd H a (exo a C none)) dx (exd dx fs)) a (exo a C (some dx))) a) dx (.xd fs)) dx = some (.xd fs) := by
  have nd' : H dx = none := by
    rw [upd_ne hne] at nd
    exact nd
  refine ⟨nd', fun b o e => ?_, upd_same⟩
  have h1 : b ≠ dx := ne_of_none e nd'
  have h2 : b ≠ a := ne_of_none e na
  rw [upd_ne h1, del_ne h2, upd_ne h2, upd_ne h1, upd_ne h2]
  exact e
/-- the reading of C(e), from such a promise of __init__ -/
theorem mk1 {C : Addr} {f : Str} {ok : V → Prop} {ta : TA} {σ : L2.St} {H : Hp} {Q : XK} (h : ta σ H fun vs H1 => ∃ v, vs = [v] ∧ ok v ∧ ∀ d H', Same H1 H' → H1 d = none → H' d = some (.xd [(f, v)]) → Q (.ref C) (some d) H')
    (mono : ∀ Q1 Q2 : List V → Hp → Prop, (∀ vs H1, Q1 vs H1 → Q2 vs H1) → ta σ H Q1 → ta σ H Q2) : tMkO C (spInit1 f C ok) [] ta σ H Q := by
  refine mono _ _ (fun vs H1 h1 => ?_) h
  obtain ⟨v, rfl, hv, q⟩ := h1
  refine ⟨by show 1 ≤ 1000; decide, fun a na => ⟨a, v, rfl, hv, upd_same, fun dx nd hne => ⟨rfl, dx, [(f, v)], upd_same, ?_, ?_, ?_⟩⟩⟩
  · rw [upd_ne hne, upd_same]
  · exact (made1 (f := f) (v := v) (fs := [(f, v)]) na nd hne).1
  · obtain ⟨m1, m2, m3⟩ := made1 (f := f) (v := v) (fs := [(f, v)]) na nd hne
    exact q dx _ m2 m1 m3
end L2
namespace L2
open PySem PySem.Spec PyProof.Rows
theorem kit_refT {K : PySem.W.Frag} {C D : Addr} (h : PySem.W.subIn K (.ref C) (.ref D) = some true) (i : PySem.W.isClsIn K D = true) (t : PySem.W.typeIn K (.ref D) = some (.type "type")) : PySem.W.kitOne K (.ref C) (.ref D) = some true := by
  unfold PySem.W.kitOne
  split
  · rfl
  · show (if ((PySem.W.clsIn K D).isSome && PySem.W.typeIn K (.ref D) == some (.type "type")) = true then PySem.W.subIn K (.ref C) (.ref D) else none) = some true
    have i' : (PySem.W.clsIn K D).isSome = true := i
    rw [i', t, h]
    rfl
theorem kit_refF {K : PySem.W.Frag} {C D : Addr} (h0 : PySem.W.subIn K (.ref C) (.ref C) = some true) (h : PySem.W.subIn K (.ref C) (.ref D) = some false) (i : PySem.W.isClsIn K D = true) (t : PySem.W.typeIn K (.ref D) = some (.type "type")) : PySem.W.kitOne K (.ref C) (.ref D) = some false := by
  have hne : (Value.ref C == Value.ref D) = false := by
    rw [beq_eq_false_iff_ne]
    intro e
    have e' : C = D := Value.ref.inj e
    rw [← e', h0] at h
    cases h
  unfold PySem.W.kitOne
  rw [hne]
  show (if ((PySem.W.clsIn K D).isSome && PySem.W.typeIn K (.ref D) == some (.type "type")) = true then PySem.W.subIn K (.ref C) (.ref D) else none) = some false
  have i' : (PySem.W.clsIn K D).isSome = true := i
  rw [i', t, h]
  rfl
theorem kit_refTy {K : PySem.W.Frag} {C : Addr} {T : String} {b : Bool} (h : PySem.W.subIn K (.ref C) (.type T) = some b) (m : PySem.W.kitMeta T = true) : PySem.W.kitOne K (.ref C) (.type T) = some b := by
  unfold PySem.W.kitOne
  have hne : (Value.ref C == Value.type T) = false := by
    rw [beq_eq_false_iff_ne]
    intro e
    cases e
  rw [hne]
  show (if PySem.W.kitMeta T = true then PySem.W.subIn K (.ref C) (.type T) else none) = some b
  rw [if_pos m, h]
end L2

namespace L2
open PySem PySem.Spec PyProof.Rows
theorem passX0 {P : Program} {w : World} {X : Cx} (e1 : X.prog = P) (e2 : X.w = w) : Passes (L2.CX P w) X E0 := fun _ _ _ _ _ _ _ c => by
  obtain ⟨_, _, _, _, _, _, _, _, _, _, _, _, z⟩ := c
  exact z.elim
section
variable {X : Cx} {a : Addr} {oe : Obj} {pn : List (Addr × Obj)} {cls : Value} {d : Option Addr}
/-- isinstance(e, c) in the suite that holds e -/
def rIsX (K : PySem.W.Frag) (a : Addr) (cls : Value) (d : Option Addr) : List V → Hp → VK → Prop := fun xs H Q => ∃ (D dd : Addr), cls = .ref D ∧ d = some dd ∧ ExcC K D ∧ rIsD K D a dd xs H Q
theorem call_isX (hz : Zc cls d oe) (hf : ∃ vs, oe.data = .fields vs) : CallR (X.suite a ((a, oe) :: pn)) (.builtin "isinstance") (rIsX X.K a cls d) := by
  rintro pins s σ H xs us Q I r ⟨D, dd, rfl, rfl, C, h⟩
  exact call_isD C hz hf pins s σ H xs us Q I r h
/-- isinstance(e, (c1, ..)) -/
def rIsXT (K : PySem.W.Frag) (a : Addr) (cls : Value) (d : Option Addr) : List V → Hp → VK → Prop := fun xs H Q => ∃ (D dd : Addr), cls = .ref D ∧ d = some dd ∧ ExcC K D ∧ rIsDT K D a dd xs H Q
theorem call_isXT (hz : Zc cls d oe) (hf : ∃ vs, oe.data = .fields vs) : CallR (X.suite a ((a, oe) :: pn)) (.builtin "isinstance") (rIsXT X.K a cls d) := by
  rintro pins s σ H xs us Q I r ⟨D, dd, rfl, rfl, C, h⟩
  exact call_isDT C hz hf pins s σ H xs us Q I r h
end
end L2

namespace L2
open PySem PySem.Spec PyProof.Rows
/-- an error object of the own class at C, held as a value, its dict at d -/
def erv (a C : Addr) (d : Option Addr) : HO := .ext fun hp => ∃ (oe : Obj) (vs : Array Value), hp.get? a = some oe ∧ Zc (.ref C) d oe ∧ oe.data = .fields vs
section
variable {X : Cx} {pins : List (Addr × Obj)} {σ : L2.St} {H : Hp} {s : Shared} {a C dd : Addr} {fs : List (Str × V)}
theorem erv_ok {P : Program} {w : World} {hp : Heap} {d : Option Addr} {oe : Obj} {vs : Array Value} (h1 : hp.get? a = some oe) (h2 : Zc (.ref C) d oe) (h3 : oe.data = .fields vs) : ObjOk P w H hp a (erv a C d) :=
  ⟨⟨oe, vs, h1, h2, h3⟩, ⟨oe, h1⟩, fun _ _ ⟨o1, v1, k1, k2, k3⟩ more => ⟨o1, v1, more _ k1, k2, k3⟩⟩
/-- what makes an error also gives it as a value -/
theorem pe_ofMk {e : Expr} {t : L2.St → Hp → XK → Prop} (h : PMk X e t) :
    PE X e (fun σ H Q => t σ H fun cls d H1 => ∃ C, cls = .ref C ∧ ∀ a, H1 a = none → Q (.ref a) (upd H1 a (erv a C d))) := by
  constructor
  intro pins s σ H Q I hw
  refine thn (h pins s σ H _ I hw) ?_
  rintro u s1 ⟨a, oe, vs, sI, H1, cls, d, eu, I1, kp, n1, ho, hz, hd, _, n2, os, bare, _, C, ec, q⟩
  subst eu
  subst ec
  refine ⟨.ref a, upd H1 a (erv a C d), ?_, rfl, q a n2⟩
  exact I1.call' (ch := []) os (Un.laidN kp n1 n2) (I1.hok.laidN kp n2 (erv_ok ho hz hd)) bare (by simp)
/-- where the error and its dict stand -/
theorem erv_inst (I : Inv X pins σ H s) (ha : H a = some (erv a C (some dd))) (hx : H dd = some (.xd fs)) :
    ∃ (oe : Obj) (m : Str → Option Value) (od : Option Obj), PySem.W.InstAt s.heap a oe C od ∧ (∃ o, od = some o) ∧ (∀ n, PySem.W.lookIn n (od.getD oe) = some (m n)) ∧ ∀ f, RelO (fs.lookup f) (m f) := by
  have k1 : ObjOk X.prog X.w H s.heap a (.ext fun hp => ∃ (oe : Obj) (vs : Array Value), hp.get? a = some oe ∧ Zc (.ref C) (some dd) oe ∧ oe.data = .fields vs) := I.hok a _ ha
  obtain ⟨⟨oe, vs, g1, g2, g3⟩, _⟩ := k1
  have k2 : ObjOk X.prog X.w H s.heap dd (.xd fs) := I.hok dd _ hx
  obtain ⟨m, k3, k4⟩ := k2
  obtain ⟨o, k5, k6⟩ := lookIn_ns k3
  refine ⟨oe, m, some o, ⟨g1, g2.1, ?_, ?_⟩, ⟨o, rfl⟩, k6, k4⟩
  · unfold PySem.W.notCls
    rw [g3] <;> rfl
  · rw [g2.2]
    exact k5
/-- isinstance(x, c), x an error that is held as a value -/
def rIsV (K : PySem.W.Frag) : List V → Hp → VK → Prop := fun xs H Q => ∃ (a C dd : Addr) (fs : List (Str × V)) (c : V) (cv : Value) (b : Bool), xs = [.ref a, c] ∧ H a = some (erv a C (some dd)) ∧ H dd = some (.xd fs) ∧ ExcC K C ∧ ClsV c cv ∧ PySem.W.kitOne K (.ref C) cv = some b ∧ Q (.bl b) H
theorem call_isV : CallR X (.builtin "isinstance") (rIsV X.K) := by
  rintro pins s σ H xs us Q I r ⟨a, C, dd, fs, c, cv, b, rfl, ha, hx, T, hcv, e, q⟩
  obtain ⟨w1, w2, rfl, p1, p2⟩ := vals2 r
  have e1 : w1 = Value.ref a := p1
  have e2 := hcv.eq p2
  subst e1 e2
  obtain ⟨oe, m, od, J, ⟨o, eo⟩, _⟩ := erv_inst I ha hx
  subst eo
  exact PySem.W.kia_one (PySem.W.own_kitx T) I.kIn ⟨o, J⟩ e nofun fun tk => ⟨.bl b, H, I.kept (t' := tk) fun _ _ z => z, rfl, q⟩
/-- x.f, x an error that is held as a value -/
def tFxE (K : PySem.W.Frag) (f : Str) (te : TE) : TE := fun σ H Q => te σ H fun x H1 => ∃ (a C dd : Addr) (fs : List (Str × V)) (v : V), x = .ref a ∧ XfC K C ∧ PySem.W.findIn K (.ref C) f = some none ∧ H1 a = some (erv a C (some dd)) ∧ H1 dd = some (.xd fs) ∧ fs.lookup f = some v ∧ Q v H1
theorem pe_fxE {e : Expr} {te : TE} {pos : Pos} {n : Str} (he : PE X e te) (hb : attributeBase e n X.env (eval e X.env) = eval e X.env := by rfl) : PE X (.Attribute e n pos) (tFxE X.K n te) := by
  constructor
  intro pins s σ H Q I h
  refine attr_of hb (thn (he.run pins s σ H _ I h) ?_)
  rintro y s1 ⟨x, H1, I1, rx, a, C, dd, fs, v, ex, T, hno, ha, hx, l, q⟩
  subst ex
  have ey : y = Value.ref a := rx
  subst ey
  obtain ⟨oe, m, od, J, ⟨o, eo⟩, k1, k2⟩ := erv_inst I1 ha hx
  subst eo
  have k3 := k2 n
  rw [l] at k3
  obtain ⟨val, k4, k5⟩ := RelO.some_of k3
  have k6 : PySem.W.lookIn n o = some (some val) := by
    rw [← k4]
    exact k1 n
  exact HandSPX.exc_get I1.kIn J T.ga T.gg T.exC (PySem.W.findObj_own T.hdC hno rfl k6) (handed_of k5) ⟨v, H1, I1.tok _, k5, q⟩
end
end L2

namespace L2
open PySem PySem.Spec PyProof.Rows
/-- a flat item as repr tells it -/
def sText : V → Str
  | .int i => toString i
  | .str y => reprText y
  | _ => Str.empty
def sOk : V → Prop
  | .int i => i.natAbs.log2 < 1920
  | .str y => ∀ c ∈ y.cps.toList, c < 16 ^ 8
  | _ => False
def sCost : V → Nat
  | .int _ => 1925
  | .str y => 10 * y.length + 4
  | _ => 0
theorem sText_len {v : V} (h : sOk v) : (sText v).length + 2 ≤ sCost v := by
  cases v with
  | int i =>
    have := PyProof.Rows.int_text_len_1921 (i := i) h
    show (Str.ofString (toString i)).length + 2 ≤ 1925
    omega
  | str y =>
    have := StrLaws.reprText_len y h
    show (reprText y).length + 2 ≤ 10 * y.length + 4
    omega
  | _ => exact False.elim h
def sCosts (l : List V) : Nat := (l.map sCost).sum
theorem sCosts_cons (v : V) (l : List V) : sCosts (v :: l) = sCost v + sCosts l := by
  unfold sCosts
  rw [List.map_cons, List.sum_cons]
theorem s_piled : ∀ l : List V, (∀ v ∈ l, sOk v) → piled (l.map sText) ≤ sCosts l
  | [], _ => Nat.zero_le _
  | v :: l, h => by
    have h1 := sText_len (h v List.mem_cons_self)
    have h2 := s_piled l fun x hx => h x (List.mem_cons_of_mem _ hx)
    rw [List.map_cons, piled_cons, sCosts_cons]
    omega
theorem repr_allS {prog : Program} {w : World} : ∀ {l : List V} {its : List Value}, Vals l its → (∀ v ∈ l, sOk v) → sCosts l ≤ sizeLine → ReprAll prog w its (l.map sText)
  | [], _, r, _, _ => by
    cases r
    exact .nil
  | v :: l, _, r, h, hz => by
    cases r with
    | @cons _ u _ us r1 r2 =>
      have h1 := h v List.mem_cons_self
      have hl := sText_len h1
      rw [sCosts_cons] at hz
      have k : ReprIs prog w u (sText v) := by
        cases v with
        | int i =>
          obtain ⟨t, rfl⟩ := r1
          exact ReprIs.int t h1
        | str y =>
          obtain ⟨t, rfl⟩ := r1
          exact ReprIs.str y t (by have : (reprText y).length + 2 ≤ sCost (.str y) := hl; omega)
        | _ => exact False.elim h1
      exact .cons k (repr_allS r2 (fun x hx => h x (List.mem_cons_of_mem _ hx)) (by omega))
section
variable {X : Cx}
/-- {t}, t a tuple of ints and texts: some text -/
def tFmtS (K : PySem.W.Frag) (te : TE) : TE := fun σ H Q => te σ H fun x H1 => ∃ (a : Addr) (l : List V), x = .ref a ∧ SqT K H1 a l ∧ (∀ v ∈ l, sOk v) ∧ sCosts l + 7 ≤ sizeLine ∧ ∀ m : Str, m.length ≤ sCosts l + 7 → Q (.str m) H1
theorem pe_fmtS {e : Expr} {te : TE} {pos : Pos} {k : Nat} (hr : Room k X.A) (he : PE X e te) : PE X (.FormattedValue e (-1) none pos) (tFmtS X.K te) := by
  refine ⟨fun pins s σ H Q I h => ?_⟩
  refine wpAny_FormattedValue_plain (thn (he.run pins s σ H _ I h) fun v s1 hv => ?_)
  obtain ⟨x, H1, I1, r1, a, l, rfl, ht, hc, hz, q⟩ := hv
  cases r1
  obtain ⟨its, rv, ⟨o, ho, hcl, n, hd⟩, _⟩ := I1.tuple ht
  have hp := s_piled l hc
  have htx := fmt_text (l.map sText)
  have hu := hr.units
  exact fmt_tuple (ts := l.map sText) (by omega) ho hcl hd (repr_allS rv hc (by omega)) (by omega) fun m u tk hm => ⟨.str m, H1, I1.tok _, ⟨u, rfl⟩, q m (by omega)⟩
end
/-- x = e and what follows, e's reading first -/
theorem seq_asg {te : TE} {g : TG} {b : TS} {D : Ends} {σ : L2.St} {H : Hp} (h : te σ H fun x H1 => g x σ H1 fun σ2 H2 => b D σ2 H2) : tSeq (tAsg te g) b D σ H := h
/-- what making an error leaves: an error whose dict holds the fields fs, all else as it was -/
def spInitN (C : Addr) (n : Nat) (ok : Hp → List V → Prop) (fs : List V → List (Str × V)) : Sp := fun vs H Q _ => ∃ (a : Addr) (ws : List V), vs = .ref a :: ws ∧ ws.length = n ∧ ok H ws ∧ H a = some (exo a C none) ∧
  ∀ dx H', H dx = none → dx ≠ a → H' a = some (exo a C (some dx)) → H' dx = some (exd dx (fs ws)) → (∀ b, b ≠ a → b ≠ dx → H' b = H b) → Q .non H'
theorem mkN {C : Addr} {n : Nat} {ok : Hp → List V → Prop} {fs : List V → List (Str × V)} {ta : TA} {σ : L2.St} {H : Hp} {Q : XK}
    (h : ta σ H fun ws H1 => ws.length = n ∧ ws.length ≤ 1000 ∧ (∀ a, H1 a = none → ok (upd H1 a (exo a C none)) ws) ∧ ∀ d H', Same H1 H' → H1 d = none → H' d = some (.xd (fs ws)) → Q (.ref C) (some d) H')
    (mono : ∀ Q1 Q2 : List V → Hp → Prop, (∀ vs H1, Q1 vs H1 → Q2 vs H1) → ta σ H Q1 → ta σ H Q2) : tMkO C (spInitN C n ok fs) [] ta σ H Q := by
  refine mono _ _ (fun ws H1 h1 => ?_) h
  obtain ⟨hn, hz, hk, q⟩ := h1
  refine ⟨hz, fun a na => ⟨a, ws, by rw [List.append_nil], hn, hk a na, upd_same, fun dx H' nd hne ha hd hb => ⟨rfl, dx, fs ws, ha, hd, ?_, ?_⟩⟩⟩
  · rw [upd_ne hne] at nd
    exact nd
  · rw [upd_ne hne] at nd
    refine q dx _ (fun b o e => ?_) nd upd_same
    have h1 : b ≠ a := ne_of_none e na
    have h2 : b ≠ dx := ne_of_none e nd
    rw [upd_ne h2, del_ne h1, hb b h1 h2, upd_ne h1]
    exact e
end L2

namespace M
open PySem PySem.Spec PyProof.Rows L2
def topS (i : Nat) : Stmt := PySem.Challenge.pw_mendedtree_k55_inverse.main.body.getD i (.Pass ⟨0, 0, 0, 0⟩)
abbrev s_EditError_init : Stmt := inClass (topS 2) 0
theorem sc_EditError_init : FnScope ["self", "index"] ["self", "index"] (defScope s_EditError_init) := ⟨rfl, rfl, rfl, by decide +kernel, rfl, by decide +kernel, by decide +kernel⟩
abbrev s_first_misfit : Stmt := topS 5
theorem sc_first_misfit : FnScope ["length", "edits", "index", "start", "end", "new"] ["length", "edits"] (defScope s_first_misfit) := ⟨rfl, rfl, rfl, by decide +kernel, rfl, by decide +kernel, by decide +kernel⟩
abbrev s_check_fits : Stmt := topS 6
theorem sc_check_fits : FnScope ["length", "edits", "index"] ["length", "edits"] (defScope s_check_fits) := ⟨rfl, rfl, rfl, by decide +kernel, rfl, by decide +kernel, by decide +kernel⟩
abbrev s_apply : Stmt := topS 7
theorem sc_apply : FnScope ["text", "edits", "start", "end", "new"] ["text", "edits"] (defScope s_apply) := ⟨rfl, rfl, rfl, by decide +kernel, rfl, by decide +kernel, by decide +kernel⟩
abbrev s_inverse : Stmt := topS 8
theorem sc_inverse : FnScope ["text", "edits", "back", "start", "end", "new"] ["text", "edits"] (defScope s_inverse) := ⟨rfl, rfl, rfl, by decide +kernel, rfl, by decide +kernel, by decide +kernel⟩
abbrev s_law_reel : Stmt := topS 10
theorem sc_law_reel : FnScope ["script", "reel", "k", "cell", "rest", "turn", "mixed"] ["script"] (defScope s_law_reel) := ⟨rfl, rfl, rfl, by decide +kernel, rfl, by decide +kernel, by decide +kernel⟩
abbrev s_law_draw : Stmt := topS 11
theorem sc_law_draw : FnScope ["reel", "size", "count", "at"] ["reel", "size"] (defScope s_law_draw) := ⟨rfl, rfl, rfl, by decide +kernel, rfl, by decide +kernel, by decide +kernel⟩
abbrev s_law_pick : Stmt := topS 12
theorem sc_law_pick : FnScope ["reel", "row"] ["reel", "row"] (defScope s_law_pick) := ⟨rfl, rfl, rfl, by decide +kernel, rfl, by decide +kernel, by decide +kernel⟩
abbrev s_law_word : Stmt := topS 13
theorem sc_law_word : FnScope ["reel", "letters", "least", "most", "k"] ["reel", "letters", "least", "most"] (defScope s_law_word) := ⟨rfl, rfl, rfl, by decide +kernel, rfl, by decide +kernel, by decide +kernel⟩
abbrev s_law_number : Stmt := topS 14
theorem sc_law_number : FnScope ["value"] ["value"] (defScope s_law_number) := ⟨rfl, rfl, rfl, by decide +kernel, rfl, by decide +kernel, by decide +kernel⟩
abbrev s_law_signs : Stmt := topS 15
theorem sc_law_signs : FnScope ["signs"] [] (defScope s_law_signs) := ⟨rfl, rfl, rfl, by decide +kernel, rfl, by decide +kernel, by decide +kernel⟩
abbrev s_law_stepped : Stmt := topS 16
theorem sc_law_stepped : FnScope ["reel", "size", "letters", "first", "step", "k"] ["reel", "size"] (defScope s_law_stepped) := ⟨rfl, rfl, rfl, by decide +kernel, rfl, by decide +kernel, by decide +kernel⟩
abbrev s_law_text : Stmt := topS 17
theorem sc_law_text : FnScope ["reel", "form", "size"] ["reel"] (defScope s_law_text) := ⟨rfl, rfl, rfl, by decide +kernel, rfl, by decide +kernel, by decide +kernel⟩
abbrev s_law_new : Stmt := topS 18
theorem sc_law_new : FnScope ["reel", "size"] ["reel"] (defScope s_law_new) := ⟨rfl, rfl, rfl, by decide +kernel, rfl, by decide +kernel, by decide +kernel⟩
abbrev s_law_edit_row : Stmt := topS 19
theorem sc_law_edit_row : FnScope ["reel", "text", "count", "edits", "now", "near", "turn", "form", "start", "end", "new"] ["reel", "text", "count"] (defScope s_law_edit_row) := ⟨rfl, rfl, rfl, by decide +kernel, rfl, by decide +kernel, by decide +kernel⟩
abbrev s_law_unfit : Stmt := topS 20
theorem sc_law_unfit : FnScope ["reel", "size", "much", "new", "place", "form"] ["reel", "size"] (defScope s_law_unfit) := ⟨rfl, rfl, rfl, by decide +kernel, rfl, by decide +kernel, by decide +kernel⟩
abbrev s_law_planted : Stmt := topS 21
theorem sc_law_planted : FnScope ["reel", "text", "edits", "many", "sizes", "edit", "rows", "turn", "at"] ["reel", "text", "edits", "many"] (defScope s_law_planted) := ⟨rfl, rfl, rfl, by decide +kernel, rfl, by decide +kernel, by decide +kernel⟩
abbrev s_law_splice : Stmt := topS 22
theorem sc_law_splice : FnScope ["text", "edits", "now", "edit"] ["text", "edits"] (defScope s_law_splice) := ⟨rfl, rfl, rfl, by decide +kernel, rfl, by decide +kernel, by decide +kernel⟩
abbrev s_law_first_unfit : Stmt := topS 23
theorem sc_law_first_unfit : FnScope ["size", "edits", "now", "k", "start", "end"] ["size", "edits"] (defScope s_law_first_unfit) := ⟨rfl, rfl, rfl, by decide +kernel, rfl, by decide +kernel, by decide +kernel⟩
abbrev s_law_same_edit : Stmt := topS 24
theorem sc_law_same_edit : FnScope ["told", "due"] ["told", "due"] (defScope s_law_same_edit) := ⟨rfl, rfl, rfl, by decide +kernel, rfl, by decide +kernel, by decide +kernel⟩
abbrev s_law_same_edits : Stmt := topS 25
theorem sc_law_same_edits : FnScope ["told", "due", "k"] ["told", "due"] (defScope s_law_same_edits) := ⟨rfl, rfl, rfl, by decide +kernel, rfl, by decide +kernel, by decide +kernel⟩
abbrev s_law_back : Stmt := topS 26
theorem sc_law_back : FnScope ["text", "edits", "now", "back", "edit"] ["text", "edits"] (defScope s_law_back) := ⟨rfl, rfl, rfl, by decide +kernel, rfl, by decide +kernel, by decide +kernel⟩
abbrev s_law_refused : Stmt := topS 27
theorem sc_law_refused : FnScope ["text", "edits", "e"] ["text", "edits"] (defScope s_law_refused) := ⟨rfl, rfl, rfl, by decide +kernel, rfl, by decide +kernel, by decide +kernel⟩
abbrev s_law_led_back : Stmt := topS 28
theorem sc_law_led_back : FnScope ["text", "edits", "back", "after", "k", "told"] ["text", "edits", "back"] (defScope s_law_led_back) := ⟨rfl, rfl, rfl, by decide +kernel, rfl, by decide +kernel, by decide +kernel⟩
abbrev s_law_good : Stmt := topS 29
theorem sc_law_good : FnScope ["text", "edits", "handed", "due", "told"] ["text", "edits"] (defScope s_law_good) := ⟨rfl, rfl, rfl, by decide +kernel, rfl, by decide +kernel, by decide +kernel⟩
abbrev s_law : Stmt := topS 30
theorem sc_law : FnScope ["script", "reel", "many", "count", "text", "edits", "first", "handed", "told"] ["script"] (defScope s_law) := ⟨rfl, rfl, rfl, by decide +kernel, rfl, by decide +kernel, by decide +kernel⟩
structure Txt (K : PySem.W.Frag) (mg : Str → Option Value) where
  a_EditError_init : Addr
  fd_EditError_init : FuncData
  F_EditError_init : Fun K "__init__" "EditError.__init__" s_EditError_init a_EditError_init fd_EditError_init
  b_EditError_init : Binds K fd_EditError_init ["self", "index"] []
  a_first_misfit : Addr
  fd_first_misfit : FuncData
  F_first_misfit : Fun K "_first_misfit" "_first_misfit" s_first_misfit a_first_misfit fd_first_misfit
  b_first_misfit : Binds K fd_first_misfit ["length", "edits"] []
  g_first_misfit : mg "_first_misfit" = some (.ref a_first_misfit)
  a_check_fits : Addr
  fd_check_fits : FuncData
  F_check_fits : Fun K "check_fits" "check_fits" s_check_fits a_check_fits fd_check_fits
  b_check_fits : Binds K fd_check_fits ["length", "edits"] []
  g_check_fits : mg "check_fits" = some (.ref a_check_fits)
  a_apply : Addr
  fd_apply : FuncData
  F_apply : Fun K "apply" "apply" s_apply a_apply fd_apply
  b_apply : Binds K fd_apply ["text", "edits"] []
  g_apply : mg "apply" = some (.ref a_apply)
  a_inverse : Addr
  fd_inverse : FuncData
  F_inverse : Fun K "inverse" "inverse" s_inverse a_inverse fd_inverse
  b_inverse : Binds K fd_inverse ["text", "edits"] []
  g_inverse : mg "inverse" = some (.ref a_inverse)
  a_law_reel : Addr
  fd_law_reel : FuncData
  F_law_reel : Fun K "_law_reel" "_law_reel" s_law_reel a_law_reel fd_law_reel
  b_law_reel : Binds K fd_law_reel ["script"] []
  g_law_reel : mg "_law_reel" = some (.ref a_law_reel)
  a_law_draw : Addr
  fd_law_draw : FuncData
  F_law_draw : Fun K "_law_draw" "_law_draw" s_law_draw a_law_draw fd_law_draw
  b_law_draw : Binds K fd_law_draw ["reel", "size"] []
  g_law_draw : mg "_law_draw" = some (.ref a_law_draw)
  a_law_pick : Addr
  fd_law_pick : FuncData
  F_law_pick : Fun K "_law_pick" "_law_pick" s_law_pick a_law_pick fd_law_pick
  b_law_pick : Binds K fd_law_pick ["reel", "row"] []
  g_law_pick : mg "_law_pick" = some (.ref a_law_pick)
  a_law_word : Addr
  fd_law_word : FuncData
  F_law_word : Fun K "_law_word" "_law_word" s_law_word a_law_word fd_law_word
  b_law_word : Binds K fd_law_word ["reel", "letters", "least", "most"] []
  g_law_word : mg "_law_word" = some (.ref a_law_word)
  a_law_number : Addr
  fd_law_number : FuncData
  F_law_number : Fun K "_law_number" "_law_number" s_law_number a_law_number fd_law_number
  b_law_number : Binds K fd_law_number ["value"] []
  g_law_number : mg "_law_number" = some (.ref a_law_number)
  a_law_signs : Addr
  fd_law_signs : FuncData
  F_law_signs : Fun K "_law_signs" "_law_signs" s_law_signs a_law_signs fd_law_signs
  b_law_signs : Binds K fd_law_signs [] []
  g_law_signs : mg "_law_signs" = some (.ref a_law_signs)
  a_law_stepped : Addr
  fd_law_stepped : FuncData
  F_law_stepped : Fun K "_law_stepped" "_law_stepped" s_law_stepped a_law_stepped fd_law_stepped
  b_law_stepped : Binds K fd_law_stepped ["reel", "size"] []
  g_law_stepped : mg "_law_stepped" = some (.ref a_law_stepped)
  a_law_text : Addr
  fd_law_text : FuncData
  F_law_text : Fun K "_law_text" "_law_text" s_law_text a_law_text fd_law_text
  b_law_text : Binds K fd_law_text ["reel"] []
  g_law_text : mg "_law_text" = some (.ref a_law_text)
  a_law_new : Addr
  fd_law_new : FuncData
  F_law_new : Fun K "_law_new" "_law_new" s_law_new a_law_new fd_law_new
  b_law_new : Binds K fd_law_new ["reel"] []
  g_law_new : mg "_law_new" = some (.ref a_law_new)
  a_law_edit_row : Addr
  fd_law_edit_row : FuncData
  F_law_edit_row : Fun K "_law_edit_row" "_law_edit_row" s_law_edit_row a_law_edit_row fd_law_edit_row
  b_law_edit_row : Binds K fd_law_edit_row ["reel", "text", "count"] []
  g_law_edit_row : mg "_law_edit_row" = some (.ref a_law_edit_row)
  a_law_unfit : Addr
  fd_law_unfit : FuncData
  F_law_unfit : Fun K "_law_unfit" "_law_unfit" s_law_unfit a_law_unfit fd_law_unfit
  b_law_unfit : Binds K fd_law_unfit ["reel", "size"] []
  g_law_unfit : mg "_law_unfit" = some (.ref a_law_unfit)
  a_law_planted : Addr
  fd_law_planted : FuncData
  F_law_planted : Fun K "_law_planted" "_law_planted" s_law_planted a_law_planted fd_law_planted
  b_law_planted : Binds K fd_law_planted ["reel", "text", "edits", "many"] []
  g_law_planted : mg "_law_planted" = some (.ref a_law_planted)
  a_law_splice : Addr
  fd_law_splice : FuncData
  F_law_splice : Fun K "_law_splice" "_law_splice" s_law_splice a_law_splice fd_law_splice
  b_law_splice : Binds K fd_law_splice ["text", "edits"] []
  g_law_splice : mg "_law_splice" = some (.ref a_law_splice)
  a_law_first_unfit : Addr
  fd_law_first_unfit : FuncData
  F_law_first_unfit : Fun K "_law_first_unfit" "_law_first_unfit" s_law_first_unfit a_law_first_unfit fd_law_first_unfit
  b_law_first_unfit : Binds K fd_law_first_unfit ["size", "edits"] []
  g_law_first_unfit : mg "_law_first_unfit" = some (.ref a_law_first_unfit)
  a_law_same_edit : Addr
  fd_law_same_edit : FuncData
  F_law_same_edit : Fun K "_law_same_edit" "_law_same_edit" s_law_same_edit a_law_same_edit fd_law_same_edit
  b_law_same_edit : Binds K fd_law_same_edit ["told", "due"] []
  g_law_same_edit : mg "_law_same_edit" = some (.ref a_law_same_edit)
  a_law_same_edits : Addr
  fd_law_same_edits : FuncData
  F_law_same_edits : Fun K "_law_same_edits" "_law_same_edits" s_law_same_edits a_law_same_edits fd_law_same_edits
  b_law_same_edits : Binds K fd_law_same_edits ["told", "due"] []
  g_law_same_edits : mg "_law_same_edits" = some (.ref a_law_same_edits)
  a_law_back : Addr
  fd_law_back : FuncData
  F_law_back : Fun K "_law_back" "_law_back" s_law_back a_law_back fd_law_back
  b_law_back : Binds K fd_law_back ["text", "edits"] []
  g_law_back : mg "_law_back" = some (.ref a_law_back)
  a_law_refused : Addr
  fd_law_refused : FuncData
  F_law_refused : Fun K "_law_refused" "_law_refused" s_law_refused a_law_refused fd_law_refused
  b_law_refused : Binds K fd_law_refused ["text", "edits"] []
  g_law_refused : mg "_law_refused" = some (.ref a_law_refused)
  a_law_led_back : Addr
  fd_law_led_back : FuncData
  F_law_led_back : Fun K "_law_led_back" "_law_led_back" s_law_led_back a_law_led_back fd_law_led_back
  b_law_led_back : Binds K fd_law_led_back ["text", "edits", "back"] []
  g_law_led_back : mg "_law_led_back" = some (.ref a_law_led_back)
  a_law_good : Addr
  fd_law_good : FuncData
  F_law_good : Fun K "_law_good" "_law_good" s_law_good a_law_good fd_law_good
  b_law_good : Binds K fd_law_good ["text", "edits"] []
  g_law_good : mg "_law_good" = some (.ref a_law_good)
  a_law : Addr
  fd_law : FuncData
  F_law : Fun K "law" "law" s_law a_law fd_law
  b_law : Binds K fd_law ["script"] []
  g_law : mg "law" = some (.ref a_law)
  m_range : mg "range" = none
  m_min : mg "min" = none
  m_max : mg "max" = none
  m_len : mg "len" = none
  m_abs : mg "abs" = none
  m_int : mg "int" = none
  m_sum : mg "sum" = none
  m_isinstance : mg "isinstance" = none
  m_bool : mg "bool" = none
  m_list : mg "list" = none
  m_tuple : mg "tuple" = none
  m_str : mg "str" = none
  m_enumerate : mg "enumerate" = none
  m_ValueError : mg "ValueError" = none
  C_MendedError : Addr
  G_MendedError : mg "MendedError" = some (.ref C_MendedError)
  C_EditError : Addr
  G_EditError : mg "EditError" = some (.ref C_EditError)
  C_Entangled : Addr
  G_Entangled : mg "Entangled" = some (.ref C_Entangled)
  B_MendedError : BaseC K C_MendedError
  E_EditError : ErrK K mg "EditError" C_EditError a_EditError_init
  n_EditError_index : PySem.W.findIn K (.ref C_EditError) "index" = some none
  k_EditError_MendedError : PySem.W.kitOne K (.ref C_EditError) (.ref C_MendedError) = some true
  k_EditError_ValueError : PySem.W.kitOne K (.ref C_EditError) (.type "ValueError") = some true
  k_EditError_Entangled : PySem.W.kitOne K (.ref C_EditError) (.ref C_Entangled) = some false
/-! ### heaps: what a def leaves as it was -/
/-- all that was tracked but at r stands as it was -/
def But (r : Addr) (H H' : Hp) : Prop := ∀ b o, b ≠ r → H b = some o → H' b = some o
theorem But.refl (r : Addr) (H : Hp) : But r H H := fun _ _ _ h => h
theorem But.trans {r : Addr} {H H1 H2 : Hp} (a : But r H H1) (b : But r H1 H2) : But r H H2 := fun c o n h => b c o n (a c o n h)
theorem But.of {r : Addr} {H H' : Hp} (e : Same H H') : But r H H' := fun b o _ h => e b o h
theorem But.set {r : Addr} {H : Hp} {o : HO} : But r H (upd H r o) := fun b u n h => by rw [upd_ne n]; exact h
theorem But.new {r p : Addr} {H : Hp} {o : HO} (h : H p = none) : But r H (upd H p o) := fun b u _ e => by rw [upd_ne (ne_of_none e h)]; exact e
theorem same_upd {H : Hp} {p : Addr} {o : HO} (h : H p = none) : Same H (upd H p o) := fun b x e => by rw [upd_ne (ne_of_none e h)]; exact e
/-- the list that the drawing goes along: a place, then numbers -/
def ReelAt (H : Hp) (r : Addr) : Prop := ∃ (z : Int) (c : List Int), H r = some (.lst (.int z :: c.map V.int)) ∧ 1 ≤ c.length ∧ c.length ≤ 100000
theorem ReelAt.new {H : Hp} {r p : Addr} {o : HO} (h : ReelAt H r) (n : H p = none) : ReelAt (upd H p o) r := by
  obtain ⟨z, c, h1, h2⟩ := h
  exact ⟨z, c, by rw [upd_ne (ne_of_none h1 n)]; exact h1, h2⟩
theorem ReelAt.ne {H : Hp} {r p : Addr} (h : ReelAt H r) (n : H p = none) : r ≠ p := by
  obtain ⟨z, c, h1, h2⟩ := h
  exact ne_of_none h1 n
theorem atI_lt {xs : List V} {z : Int} (h0 : 0 ≤ z) (h : z.toNat < xs.length) : atI xs z = some (xs[z.toNat]'h) :=
  at_of (j := z.toNat) (by omega) (List.getElem?_eq_getElem h)
theorem at_of' {α : Type} {xs : List α} {z : Int} {c : α} (h0 : 0 ≤ z) (h : xs[z.toNat]? = some c) : atI xs z = some c := by
  have e : z = ((z.toNat : Nat) : Int) := by omega
  rw [e]
  exact atI_nat h
theorem fmod_range (a : Int) {n : Int} (h : 0 < n) : 0 ≤ a.fmod n ∧ a.fmod n < n := ⟨Int.fmod_nonneg_of_pos a h, Int.fmod_lt_of_pos a h⟩
theorem sz1 {n : Nat} (h : n ≤ 100000) : n ≤ sizeLine := Nat.le_trans h (by decide)
theorem sz2 {n : Nat} (h : n < 100000) : n < sizeLine := Nat.lt_of_lt_of_le h (by decide)
/-- a text's signs -/
abbrev cs (x : Str) : List Nat := x.cps.toList
theorem len_cs (x : Str) : x.length = (cs x).length := by
  show x.cps.size = x.cps.toList.length
  rw [Array.length_toList]
theorem cs_mk (l : List Nat) : cs ⟨l.toArray⟩ = l := rfl
theorem cs_inj {x y : Str} (h : cs x = cs y) : x = y := by
  cases x with
  | mk a =>
    cases y with
    | mk b =>
      have e : a = b := Array.toList_inj.mp h
      rw [e]
theorem cs_app (x y : Str) : cs (x ++ y) = cs x ++ cs y := by
  show (x.cps ++ y.cps).toList = _
  rw [Array.toList_append]
theorem cs_join {e : Str} (he : cs e = []) : ∀ ys : List Str, cs (Str.join e ys) = (ys.map cs).flatten
  | [] => rfl
  | [x] => by
    show cs x = ([x].map cs).flatten
    simp
  | x :: y :: r => by
    show cs (x ++ e ++ Str.join e (y :: r)) = _
    rw [cs_app, cs_app, he, List.append_nil, cs_join he (y :: r)]
    rfl
theorem cs_joinT {e : Str} (he : cs e = []) (ys : List Str) : cs (Txt.join e ys) = (ys.map cs).flatten := by rw [TL.join_eq]; exact cs_join he ys
/-- the text of one sign -/
abbrev sg (c : Nat) : Str := ⟨#[c]⟩
theorem sg_flat : ∀ l : List Nat, ((l.map sg).map cs).flatten = l
  | [] => rfl
  | c :: r => by
    show [c] ++ ((r.map sg).map cs).flatten = c :: r
    rw [sg_flat r]
    rfl
theorem sg_lens : ∀ l : List Nat, ((l.map sg).map (·.length)).sum = l.length
  | [] => rfl
  | c :: r => by
    show 1 + ((r.map sg).map (·.length)).sum = r.length + 1
    rw [sg_lens r]
    omega
theorem join_sg {e : Str} (he : cs e = []) (l : List Nat) : Txt.join e (l.map sg) = ⟨l.toArray⟩ := cs_inj (by rw [cs_joinT he, sg_flat])
theorem But.seq {r : Addr} {K : PySem.W.Frag} {H H' : Hp} {a : Addr} {xs : List V} (e : But r H H') (n : a ≠ r) (h : SqL K H a xs) : SqL K H' a xs := by
  rcases h with (h | ⟨o, h⟩) | h
  · exact .inl (.inl (e _ _ n h))
  · exact .inl (.inr ⟨o, e _ _ n h⟩)
  · exact .inr h
theorem But.free {r : Addr} {H H' : Hp} (e : But r H H') {l : Addr} (n : l ≠ r) (h : H' l = none) : H l = none := by
  cases q : H l with
  | none => rfl
  | some o =>
    rw [e l o n q] at h
    cases h
/-- a text whose signs are signs -/
def TOk (x : Str) : Prop := ∀ c ∈ cs x, c < 1114112
def tokB (x : Str) : Bool := x.cps.toList.all fun c => decide (c < 1114112)
theorem tok_of {x : Str} (h : tokB x = true) : TOk x := fun c hc => of_decide_eq_true (List.all_eq_true.mp h c hc)

section
variable {P : Program} {w : World} {K : PySem.W.Frag} {mg : Str → Option Value} {base : Heap}
/-! ### the reel -/
def spReel (K : PySem.W.Frag) : Sp := fun vs H Q _ => ∃ (a : Addr) (ns : List Int), vs = [.ref a] ∧ SqL K H a (ns.map V.int) ∧
  ∀ H' p, Same H H' → H p = none → ReelAt H' p → Q (.ref p) H'
def spDraw : Sp := fun vs H Q _ => ∃ (r : Addr) (n : Int), vs = [.ref r, .int n] ∧ ReelAt H r ∧ 0 < n ∧
  ∀ (v : Int) H', 0 ≤ v → v < n → But r H H' → ReelAt H' r → Q (.int v) H'
theorem ok_draw (T : Txt K mg) : FnOk P w K mg base CX0 1 T.a_law_draw T.fd_law_draw ["reel", "size"] spDraw := by
  refine T.F_law_draw.ok sc_law_draw (fun vs H Q E h => ?_) (fun cdv A outer s H vs Q E hr h => ?_)
  · obtain ⟨r, n, rfl, _⟩ := h
    rfl
  · obtain ⟨r, n, rfl, ⟨z, c, hr0, hc, hc2⟩, hn, q⟩ := h
    refine ⟨_, (pss_cons (ps_set (i := 2) sc_law_draw.nd rfl (.inl rfl) (pe_op op_sub (pe_callB call_len_seq (by rfl) T.m_len PySem.boot_len (pa_cons (pv 0) pa_nil)) pe_int))
      (pss_cons (ps_set (i := 3) sc_law_draw.nd rfl (.inl rfl) (pe_ix ix_list (pv 0) pe_int (fun _ _ => rfl)))
      (pss_cons (ps_asg (pe_op op_add (pv 3) pe_int) (pg_sub (pv 0) pe_int set_list))
      (pss_one (ps_ret (pe_op op_modN (pe_callTy call_int1 (by rfl) T.m_int (by decide +kernel) (pa_cons (pe_op op_add (pe_ix ix_list (pv 0) (pe_op op_add pe_int (pe_op op_modN (pe_callTy call_int1 (by rfl) T.m_int (by decide +kernel) (pa_cons (pv 3) pa_nil)) (pv 2))) (fun _ _ => rfl)) (pe_op op_mul (pe_op op_fdivN (pv 3) (pv 2)) pe_int)) pa_nil)) (pv 1))))))), ?_⟩
    have hl : (V.int z :: c.map V.int).length = c.length + 1 := by rw [List.length_cons, List.length_map]
    -- count = len(reel) - 1
    refine ⟨.ref r, rfl, r, _, rfl, .inl (SqL.of hr0), _, _, rfl, rfl, ?_⟩
    -- at = reel[0]
    refine ⟨.ref r, rfl, r, _, 0, .int z, rfl, rfl, SqL.of hr0, atI_nat (j := 0) rfl, ?_⟩
    -- reel[0] = at + 1
    refine ⟨_, rfl, z, 1, rfl, rfl, .ref r, rfl, r, _, 0, 0, rfl, rfl, hr0, by rw [hl]; unfold ixN; rw [if_pos (by omega), if_pos (by omega)]; rfl, ?_⟩
    have e1 : (V.int z :: c.map V.int).set 0 (.int (z + 1)) = .int (z + 1) :: c.map V.int := rfl
    rw [e1]
    have hc0 : (0 : Int) < ((V.int z :: c.map V.int).length : Int) - 1 := by rw [hl]; omega
    have fm := fmod_range z hc0
    have hat : 0 ≤ 1 + z.fmod (((V.int z :: c.map V.int).length : Int) - 1) := by omega
    have hat2 : (1 + z.fmod (((V.int z :: c.map V.int).length : Int) - 1)).toNat < (V.int (z + 1) :: c.map V.int).length := by
      have e2 : (V.int (z + 1) :: c.map V.int).length = c.length + 1 := by rw [List.length_cons, List.length_map]
      rw [hl] at fm ⊢
      rw [e2]
      omega
    obtain ⟨y, hy⟩ : ∃ y, atI (V.int (z + 1) :: c.map V.int) (1 + z.fmod (((V.int z :: c.map V.int).length : Int) - 1)) = some (.int y) := by
      have e := atI_lt hat hat2
      have e2 : (V.int (z + 1) :: c.map V.int) = ((z + 1) :: c).map V.int := rfl
      refine ⟨((z + 1) :: c)[(1 + z.fmod (((V.int z :: c.map V.int).length : Int) - 1)).toNat]'(by rw [e2, List.length_map] at hat2; exact hat2), ?_⟩
      rw [e]
      congr 1
      simp only [e2, List.getElem_map]
    -- return int(reel[1 + int(at) % count] + at // count * 389) % size
    refine ⟨.ref r, rfl, _, rfl, .inl ⟨z, rfl, ?_⟩⟩
    refine ⟨_, rfl, z, _, rfl, rfl, by omega, 1, _, rfl, rfl, r, _, _, .int y, rfl, rfl, SqL.of upd_same, hy, ?_⟩
    refine ⟨_, rfl, _, rfl, z, _, rfl, rfl, ⟨by omega, by rw [hl]; omega⟩, _, 389, rfl, rfl, .inr ⟨by decide, by decide⟩, _, _, rfl, rfl, .inl ⟨_, rfl, ?_⟩⟩
    refine ⟨_, rfl, _, n, rfl, rfl, by omega, ?_⟩
    exact q _ _ (fmod_range _ hn).1 (fmod_range _ hn).2 But.set ⟨z + 1, c, upd_same, hc, hc2⟩
/-- the words in which a turn of the reel's making is told -/
def Making (a o : Addr) (H : Hp) (n : Nat) (σ : L2.St) (H' : Hp) : Prop := ∃ y2 y3 y4 y5 y6, σ = [some (.ref a), some (.ref o), y2, y3, y4, y5, y6] ∧ Same H H' ∧ ∃ c : List Int, H' o = some (.lst (.int 0 :: c.map V.int)) ∧ c.length ≤ n
theorem ints_snoc (c : List Int) (x : Int) : (V.int 0 :: c.map V.int) ++ [V.int x] = .int 0 :: (c ++ [x]).map V.int := by
  rw [List.map_append]
  rfl
theorem same_mut {H H' : Hp} {p : Addr} {o : HO} (e : Same H H') (h : H p = none) : Same H (upd H' p o) := fun b x q => by
  rw [upd_ne (ne_of_none q h)]
  exact e b x q
theorem ok_reel (T : Txt K mg) : FnOk P w K mg base CX0 1 T.a_law_reel T.fd_law_reel ["script"] (spReel K) := by
  refine T.F_law_reel.ok sc_law_reel (fun vs H Q E h => ?_) (fun cdv A outer s H vs Q E hr h => ?_)
  · obtain ⟨a, ns, rfl, _⟩ := h
    rfl
  · obtain ⟨a, ns, rfl, hS, q⟩ := h
    refine ⟨_, (pss_cons (ps_set (i := 1) sc_law_reel.nd rfl (.inl rfl) (pe_lst (pa_cons pe_int pa_nil)))
      (pss_cons (ps_for PassesOwn.never rfl (pi_range1 (by rfl) T.m_range (pa_cons (pe_callB (call_min2 rfl) (by rfl) T.m_min (by decide +kernel) (pa_cons (pe_callB call_len_seq (by rfl) T.m_len PySem.boot_len (pa_cons (pv 0) pa_nil)) (pa_cons pe_int pa_nil))) pa_nil)) (pg_name (i := 2) sc_law_reel.nd rfl (.inl rfl)) (pss_cons (ps_set (i := 3) sc_law_reel.nd rfl (.inl rfl) (pe_ix ix_list (pv 0) (pv 2) (fun _ _ => rfl)))
      (pss_one (ps_if (pt_cmpR op_ge (pe_callB call_abs (by rfl) T.m_abs (by decide +kernel) (pa_cons (pv 3) pa_nil)) (pe_op op_pow pe_int pe_int) (nomark _)) (pss_cons (ps_set (i := 4) sc_law_reel.nd rfl (.inl rfl) (pe_callB call_abs (by rfl) T.m_abs (by decide +kernel) (pa_cons (pv 3) pa_nil)))
      (pss_one (ps_for PassesOwn.never rfl (pi_range1 (by rfl) T.m_range (pa_cons pe_int pa_nil)) (pg_name (i := 5) sc_law_reel.nd rfl (.inl rfl)) (pss_one (ps_if (pt_cmpR op_gt (pv 4) pe_int (nomark _)) (pss_cons (ps_expr (pe_bm PySem.F.plainAttrs_list PySem.F.slot_list_append PySem.F.type_list_append mt_append (pv 1) (pa_cons (pe_op op_mod (pe_callTy call_int1 (by rfl) T.m_int (by decide +kernel) (pa_cons (pv 4) pa_nil)) pe_int) pa_nil)))
      (pss_one (ps_set (i := 4) sc_law_reel.nd rfl (.inl rfl) (pe_op op_fdiv (pv 4) pe_int)))) pss_nil))))) (pss_cons (ps_set (i := 6) sc_law_reel.nd rfl (.inl rfl) (pe_op op_mod (pe_callTy call_int1 (by rfl) T.m_int (by decide +kernel) (pa_cons (pe_op op_add (pe_op op_add (pe_op op_mul (pv 3) pe_int) (pe_op op_mul (pv 2) pe_int)) pe_int) pa_nil)) pe_int))
      (pss_one (ps_for PassesOwn.never rfl (pi_range1 (by rfl) T.m_range (pa_cons pe_int pa_nil)) (pg_name (i := 5) sc_law_reel.nd rfl (.inl rfl)) (pss_cons (ps_set (i := 6) sc_law_reel.nd rfl (.inl rfl) (pe_op op_mod (pe_callTy call_int1 (by rfl) T.m_int (by decide +kernel) (pa_cons (pe_op op_add (pe_op op_add (pe_op op_mul (pv 6) pe_int) (pe_op op_mul (pv 5) pe_int)) pe_int) pa_nil)) pe_int))
      (pss_one (ps_expr (pe_bm PySem.F.plainAttrs_list PySem.F.slot_list_append PySem.F.type_list_append mt_append (pv 1) (pa_cons (pe_op op_mod (pe_callTy call_int1 (by rfl) T.m_int (by decide +kernel) (pa_cons (pe_op op_fdiv (pv 6) pe_int) pa_nil)) pe_int) pa_nil))))))))))))
      (pss_cons (ps_set (i := 6) sc_law_reel.nd rfl (.inl rfl) (pe_op op_mod (pe_callTy call_int1 (by rfl) T.m_int (by decide +kernel) (pa_cons (pe_op op_add (pe_op op_add (pe_op op_mul (pe_callB (cr_sum rfl) (by rfl) T.m_sum (by decide +kernel) (pa_cons (pv 1) pa_nil)) pe_int) (pe_op op_mul (pe_callB call_len_seq (by rfl) T.m_len PySem.boot_len (pa_cons (pv 1) pa_nil)) pe_int)) pe_int) pa_nil)) pe_int))
      (pss_cons (ps_for PassesOwn.never rfl (pi_range1 (by rfl) T.m_range (pa_cons pe_int pa_nil)) (pg_name (i := 5) sc_law_reel.nd rfl (.inl rfl)) (pss_cons (ps_set (i := 6) sc_law_reel.nd rfl (.inl rfl) (pe_op op_mod (pe_callTy call_int1 (by rfl) T.m_int (by decide +kernel) (pa_cons (pe_op op_add (pe_op op_add (pe_op op_mul (pv 6) pe_int) (pe_op op_mul (pv 5) pe_int)) pe_int) pa_nil)) pe_int))
      (pss_one (ps_expr (pe_bm PySem.F.plainAttrs_list PySem.F.slot_list_append PySem.F.type_list_append mt_append (pv 1) (pa_cons (pe_op op_mod (pe_callTy call_int1 (by rfl) T.m_int (by decide +kernel) (pa_cons (pe_op op_fdiv (pv 6) pe_int) pa_nil)) pe_int) pa_nil))))))
      (pss_one (ps_ret (pv 1))))))), ?_⟩
    -- reel = [0]
    refine ⟨by show 1 ≤ sizeLine; decide, fun o no => ?_⟩
    have s1 : Same H (upd H o (.lst [.int 0])) := same_upd no
    -- for k in range(min(len(script), 63))
    refine ⟨.ref a, rfl, a, _, rfl, .inl (s1.seq hS), _, _, rfl, _, rfl, by split <;> omega, by split <;> omega, ?_⟩
    refine for_range (lo := 0) (fun i σ H' => Making a o H (60 * i) σ H' ∧ i ≤ 63) ⟨⟨none, none, none, none, none, rfl, s1, [], upd_same, Nat.zero_le _⟩, Nat.zero_le _⟩ ?_ ?_
    · rintro i σ H3 hi ⟨⟨y2, y3, y4, y5, y6, rfl, s3, c, ho, hc⟩, hi63⟩
      have hi' : i < ns.length ∧ i < 63 := by
        rw [List.length_map] at hi
        split at hi <;> omega
      obtain ⟨x, hx⟩ : ∃ x, ns[i]? = some x := ⟨_, List.getElem?_eq_getElem hi'.1⟩
      -- cell = script[k]
      refine ⟨.ref a, rfl, _, rfl, a, _, _, .int x, rfl, rfl, s3.seq hS, at_of (j := i) (by omega) (by rw [List.getElem?_map, hx]; rfl), ?_⟩
      -- if abs(cell) >= 10 ** 18
      refine ⟨_, rfl, x, rfl, 10, 18, rfl, rfl, ⟨by decide, by decide, by decide⟩, _, _, rfl, rfl, _, rfl, ite2 (fun e => ?_) (fun e => ?_)⟩
      · -- rest = abs(cell); for turn in range(60)
        refine ⟨_, rfl, x, rfl, 60, rfl, by decide, by decide, ?_⟩
        refine for_range (lo := 0) (n := 60) (fun j σ H' => (∃ z : Int, σ[4]? = some (some (.int z))) ∧ Making a o H (60 * i + j) σ H') ⟨⟨_, rfl⟩, _, _, _, _, _, rfl, s3, c, ho, hc⟩ ?_ ?_
        · rintro j σ H4 hj ⟨⟨z, hz⟩, y2, y3, y4, y5, y6, rfl, s4, c, ho, hc⟩
          have hz' : y4 = some (.int z) := Option.some.inj hz
          subst hz'
          refine ⟨_, rfl, z, 0, rfl, rfl, _, rfl, ite2 (fun e => ?_) (fun e => ?_)⟩
          · refine ⟨.ref o, rfl, .inl ⟨rfl, _, SqL.of ho⟩, _, rfl, .inl ⟨z, rfl, z, 1009, rfl, rfl, (by show (0 : Int) < 1009; decide), o, _, _, rfl, rfl, ho, ?_, ?_⟩⟩
            · rw [List.length_cons, List.length_map]
              exact sz2 (by omega)
            · refine ⟨_, rfl, z, 1009, rfl, rfl, ⟨by decide, by decide⟩, ⟨_, rfl⟩, _, _, _, _, _, rfl, same_mut s4 no, c ++ [z % 1009], ?_, ?_⟩
              · rw [upd_same, ints_snoc]
              · rw [List.length_append]
                show c.length + 1 ≤ _
                omega
          · exact ⟨⟨z, rfl⟩, _, _, _, _, _, rfl, s4, c, ho, by omega⟩
        · rintro σ H4 ⟨_, y2, y3, y4, y5, y6, rfl, s4, c, ho, hc⟩
          exact ⟨⟨_, _, _, _, _, rfl, s4, c, ho, by omega⟩, by omega⟩
      · -- mixed = ..; for turn in range(4)
        refine ⟨_, rfl, x, 48271, rfl, rfl, .inr ⟨by decide, by decide⟩, _, rfl, _, 69621, rfl, rfl, .inr ⟨by decide, by decide⟩, _, _, rfl, rfl, _, 4099, rfl, rfl, .inl ⟨_, rfl, _, _, rfl, rfl, (by show (0 : Int) < 2147483647; decide), ?_⟩⟩
        refine ⟨4, rfl, by decide, by decide, ?_⟩
        refine for_range (lo := 0) (n := 4) (fun j σ H' => (∃ z : Int, σ[6]? = some (some (.int z))) ∧ Making a o H (60 * i + j) σ H') ⟨⟨_, rfl⟩, _, _, _, _, _, rfl, s3, c, ho, hc⟩ ?_ ?_
        · rintro j σ H4 hj ⟨⟨z, hz⟩, y2, y3, y4, y5, y6, rfl, s4, c, ho, hc⟩
          have hz' : y6 = some (.int z) := Option.some.inj hz
          subst hz'
          refine ⟨_, rfl, z, 16807, rfl, rfl, .inr ⟨by decide, by decide⟩, _, rfl, _, 7919, rfl, rfl, .inr ⟨by decide, by decide⟩, _, _, rfl, rfl, _, 101, rfl, rfl, .inl ⟨_, rfl, _, _, rfl, rfl, (by show (0 : Int) < 2147483629; decide), ?_⟩⟩
          refine ⟨.ref o, rfl, .inl ⟨rfl, _, SqL.of ho⟩, _, rfl, _, 2111, rfl, rfl, ⟨by decide, by decide⟩, .inl ⟨_, rfl, _, 1009, rfl, rfl, (by show (0 : Int) < 1009; decide), o, _, _, rfl, rfl, ho, ?_, ?_⟩⟩
          · rw [List.length_cons, List.length_map]
            exact sz2 (by omega)
          · refine ⟨⟨_, rfl⟩, _, _, _, _, _, rfl, same_mut s4 no, c ++ [((z * 16807 + (0 + (j : Int)) * 7919 + 101) % 2147483629 / 2111) % 1009], ?_, ?_⟩
            · rw [upd_same]
              exact congrArg (fun l => some (HO.lst l)) (ints_snoc c _)
            · rw [List.length_append]
              show c.length + 1 ≤ _
              omega
        · rintro σ H4 ⟨_, y2, y3, y4, y5, y6, rfl, s4, c, ho, hc⟩
          exact ⟨⟨_, _, _, _, _, rfl, s4, c, ho, by omega⟩, by omega⟩
    · rintro σ H3 ⟨⟨y2, y3, y4, y5, y6, rfl, s3, c, ho, hc⟩, hi63⟩
      have e0 : (V.int 0 :: c.map V.int) = ((0 : Int) :: c).map V.int := rfl
      have ho' : SqL K H3 o (((0 : Int) :: c).map V.int) := SqL.of ho
      refine ⟨.ref o, rfl, o, (0 : Int) :: c, rfl, ho', _, 69621, rfl, rfl, .inr ⟨by decide, by decide⟩, .ref o, rfl, o, _, rfl, .inl ho', _, 48271, rfl, rfl, .inr ⟨by decide, by decide⟩, _, _, rfl, rfl, _, 977, rfl, rfl, .inl ⟨_, rfl, _, _, rfl, rfl, (by show (0 : Int) < 2147483647; decide), ?_⟩⟩
      refine ⟨40, rfl, by decide, by decide, ?_⟩
      refine for_range (lo := 0) (n := 40) (fun j σ H' => (∃ z : Int, σ[6]? = some (some (.int z))) ∧ ∃ y2 y3 y4 y5 y6, σ = [some (.ref a), some (.ref o), y2, y3, y4, y5, y6] ∧ Same H H' ∧ ∃ c : List Int, H' o = some (.lst (.int 0 :: c.map V.int)) ∧ j ≤ c.length ∧ c.length ≤ 4000 + j) ⟨⟨_, rfl⟩, _, _, _, _, _, rfl, s3, c, ho, Nat.zero_le _, ?_⟩ ?_ ?_
      · have : (min' : Nat) → min' ≤ 63 → c.length ≤ 60 * min' → c.length ≤ 4000 + 0 := fun m h1 h2 => by omega
        exact this _ hi63 hc
      · rintro j σ H4 hj ⟨⟨z, hz⟩, y2, y3, y4, y5, y6, rfl, s4, c, ho, hc1, hc⟩
        have hz' : y6 = some (.int z) := Option.some.inj hz
        subst hz'
        refine ⟨_, rfl, z, 16807, rfl, rfl, .inr ⟨by decide, by decide⟩, _, rfl, _, 7919, rfl, rfl, .inr ⟨by decide, by decide⟩, _, _, rfl, rfl, _, 101, rfl, rfl, .inl ⟨_, rfl, _, _, rfl, rfl, (by show (0 : Int) < 2147483629; decide), ?_⟩⟩
        refine ⟨.ref o, rfl, .inl ⟨rfl, _, SqL.of ho⟩, _, rfl, _, 2111, rfl, rfl, ⟨by decide, by decide⟩, .inl ⟨_, rfl, _, 1009, rfl, rfl, (by show (0 : Int) < 1009; decide), o, _, _, rfl, rfl, ho, ?_, ?_⟩⟩
        · rw [List.length_cons, List.length_map]
          exact sz2 (by omega)
        · refine ⟨⟨_, rfl⟩, _, _, _, _, _, rfl, same_mut s4 no, c ++ [((z * 16807 + (0 + (j : Int)) * 7919 + 101) % 2147483629 / 2111) % 1009], ?_, ?_, ?_⟩
          · rw [upd_same]
            exact congrArg (fun l => some (HO.lst l)) (ints_snoc c _)
          · rw [List.length_append]
            show _ ≤ c.length + 1
            omega
          · rw [List.length_append]
            show c.length + 1 ≤ _
            omega
      · rintro σ H4 ⟨_, y2, y3, y4, y5, y6, rfl, s4, c, ho, hc1, hc⟩
        refine ⟨.ref o, rfl, q H4 o s4 no ⟨0, c, ho, by omega, by omega⟩⟩

/-! ### a drawn item, a drawn word -/
theorem But.seqT {r : Addr} {K : PySem.W.Frag} {H H' : Hp} {a : Addr} {xs : List V} (e : But r H H') (n : a ≠ r) (h : SqT K H a xs) : SqT K H' a xs := by
  rcases h with (h | ⟨o, h⟩) | h
  · exact .inl (.inl (e _ _ n h))
  · exact .inl (.inr ⟨o, e _ _ n h⟩)
  · exact .inr h
def spPick (K : PySem.W.Frag) : Sp := fun vs H Q _ => ∃ (r : Addr) (row : V), vs = [.ref r, row] ∧ ReelAt H r ∧
  ((∃ z, row = .str z ∧ 0 < (cs z).length ∧ (cs z).length ≤ 100000 ∧ ∀ c H', c ∈ cs z → But r H H' → ReelAt H' r → Q (.str (sg c)) H') ∨
   (∃ p xs, row = .ref p ∧ p ≠ r ∧ SqL K H p xs ∧ 0 < xs.length ∧ ∀ v H', v ∈ xs → But r H H' → ReelAt H' r → Q v H'))
theorem ok_pick (T : Txt K mg) : FnOk P w K mg base CX0 2 T.a_law_pick T.fd_law_pick ["reel", "row"] (spPick K) := by
  have G_law_draw : FnOk P w K mg base CX0 1 T.a_law_draw T.fd_law_draw ["reel", "size"] spDraw := ok_draw T
  refine T.F_law_pick.ok sc_law_pick (fun vs H Q E h => ?_) (fun cdv A outer s H vs Q E hr h => ?_)
  · obtain ⟨r, n, rfl, _⟩ := h
    rfl
  · have hr_law_draw : Room 1 _ := hr
    obtain ⟨r, row, rfl, hr0, ⟨z, rfl, hz, hz2, q⟩ | ⟨p, xs, rfl, hp, hS, hx, q⟩⟩ := h
    · refine ⟨_, (pss_one (ps_ret (pe_ix ix_seq (pv 1) (pe_call G_law_draw hr_law_draw (by rfl) T.g_law_draw T.F_law_draw.kp T.b_law_draw .nil pass0 (pa_cons (pv 0) (pa_cons (pe_callB call_len (by rfl) T.m_len PySem.boot_len (pa_cons (pv 1) pa_nil)) pa_nil))) (fun _ _ => rfl)))), ?_⟩
      have hl := len_cs z
      refine ⟨_, rfl, _, rfl, _, rfl, _, z.length, rfl, ⟨sz1 (by omega), rfl⟩, r, _, rfl, hr0, by omega, fun v H' h0 h1 hb hR => ?_⟩
      have hv : v.toNat < (cs z).length := by omega
      exact .inr (.inr ⟨z, v, (cs z)[v.toNat], rfl, rfl, sz1 (by omega), at_of' h0 (List.getElem?_eq_getElem hv), q _ _ (List.getElem_mem hv) hb hR⟩)
    · refine ⟨_, (pss_one (ps_ret (pe_ix ix_seq (pv 1) (pe_call G_law_draw hr_law_draw (by rfl) T.g_law_draw T.F_law_draw.kp T.b_law_draw .nil pass0 (pa_cons (pv 0) (pa_cons (pe_callB call_len (by rfl) T.m_len PySem.boot_len (pa_cons (pv 1) pa_nil)) pa_nil))) (fun _ _ => rfl)))), ?_⟩
      refine ⟨_, rfl, _, rfl, _, rfl, _, xs.length, rfl, .inl ⟨xs, hS, rfl⟩, r, _, rfl, hr0, by omega, fun v H' h0 h1 hb hR => ?_⟩
      have hv : v.toNat < xs.length := by omega
      exact .inl ⟨p, xs, v, xs[v.toNat], rfl, rfl, hb.seq hp hS, at_of (j := v.toNat) (by omega) (List.getElem?_eq_getElem hv), q _ _ (List.getElem_mem hv) hb hR⟩
def spWord : Sp := fun vs H Q _ => ∃ (r : Addr) (z : Str) (a b : Int), vs = [.ref r, .str z, .int a, .int b] ∧ ReelAt H r ∧ 0 < (cs z).length ∧ (cs z).length ≤ 100000 ∧ 0 ≤ a ∧ a ≤ b ∧ b ≤ 50000 ∧
  ∀ (x : Str) H', a ≤ ((cs x).length : Int) → ((cs x).length : Int) ≤ b → (∀ c ∈ cs x, c ∈ cs z) → But r H H' → ReelAt H' r → Q (.str x) H'
theorem map_snoc (l : List Nat) (c : Nat) : ((l.map sg).map V.str) ++ [V.str (sg c)] = ((l ++ [c]).map sg).map V.str := by
  rw [List.map_append, List.map_append]
  rfl
theorem ok_word (T : Txt K mg) : FnOk P w K mg base CX0 3 T.a_law_word T.fd_law_word ["reel", "letters", "least", "most"] spWord := by
  have G_law_draw : FnOk P w K mg base CX0 1 T.a_law_draw T.fd_law_draw ["reel", "size"] spDraw := ok_draw T
  have G_law_pick : FnOk P w K mg base CX0 2 T.a_law_pick T.fd_law_pick ["reel", "row"] (spPick K) := ok_pick T
  refine T.F_law_word.ok sc_law_word (fun vs H Q E h => ?_) (fun cdv A outer s H vs Q E hr h => ?_)
  · obtain ⟨r, z, a, b, rfl, _⟩ := h
    rfl
  · have hr_law_draw : Room 1 _ := hr.mono (by decide)
    have hr_law_pick : Room 2 _ := hr
    obtain ⟨r, z, a, b, rfl, hr0, hz, hz2, h0, h1, h2, q⟩ := h
    refine ⟨_, (pss_one (ps_ret (pe_join pe_str (pe_lc (own := [("k", 4)]) (g := gName 4) (by rfl) sc_law_word.nd (pi_range1 (by rfl) T.m_range (pa_cons (pe_op op_add (pv 2) (pe_call G_law_draw hr_law_draw (by rfl) T.g_law_draw T.F_law_draw.kp T.b_law_draw .nil pass0 (pa_cons (pv 0) (pa_cons (pe_op op_add (pe_op op_sub (pv 3) (pv 2)) pe_int) pa_nil)))) pa_nil)) (blkOk_by (own := [("k", 4)]) (N := ["reel", "letters", "least", "most", "k"]) (sc := defScope s_law_word) (by decide +kernel)) (fun _ _ _ _ _ => pg_name (i := 4) sc_law_word.nd rfl (Or.inl rfl)) (fun _ _ _ _ _ => pts_nil) (fun _ _ _ _ _ => (pe_call G_law_pick hr_law_pick (by rfl) T.g_law_pick T.F_law_pick.kp T.b_law_pick .nil pass0 (pa_cons (pv 0) (pa_cons (pv 1) pa_nil)))))))), ?_⟩
    refine ⟨⟨_, rfl⟩, _, rfl, _, rfl, _, rfl, _, rfl, _, _, rfl, rfl, _, 1, rfl, rfl, r, _, rfl, hr0, by omega, fun v H1 v0 v1 hb1 hR1 => ?_⟩
    refine ⟨_, _, rfl, rfl, _, rfl, by omega, by omega, fun D nD => ?_⟩
    refine lc_range (lo := 0) (n := (a + v).toNat) (fun i H' => ∃ l : List Nat, H' D = some (.lst ((l.map sg).map V.str)) ∧ l.length = i ∧ (∀ c ∈ l, c ∈ cs z) ∧ But r H1 H' ∧ ReelAt H' r)
      ⟨[], upd_same, rfl, (fun c hc => absurd hc List.not_mem_nil), But.new nD, hR1.new nD⟩ ?_ ?_
    · rintro i H' hi ⟨l, hD, hl, hm, hb, hR⟩
      refine ⟨rfl, _, rfl, _, rfl, r, _, rfl, hR, .inl ⟨z, rfl, hz, hz2, fun c H2 hc hb2 hR2 => ?_⟩⟩
      have hDr : D ≠ r := (hR1.ne nD).symm
      have hD2 := hb2 D _ hDr hD
      refine ⟨_, hD2, sz2 (by rw [List.length_map, List.length_map]; omega), l ++ [c], ?_, ?_, ?_, ?_, ?_⟩
      · rw [upd_same, map_snoc]
      · rw [List.length_append, hl]
        rfl
      · intro x hx
        rcases List.mem_append.mp hx with hx | hx
        · exact hm x hx
        · rw [List.mem_singleton.mp hx]
          exact hc
      · exact fun b o n e => by
          rw [upd_ne (ne_of_none e nD)]
          exact hb2 b o n (hb b o n e)
      · obtain ⟨z1, c1, e1, e2⟩ := hR2
        exact ⟨z1, c1, by rw [upd_ne hDr.symm]; exact e1, e2⟩
    · rintro H' ⟨l, hD, hl, hm, hb, hR⟩
      refine ⟨_, _, _, rfl, rfl, .inl (SqL.of hD), ?_, ?_⟩
      · rw [sg_lens, List.length_map]
        show l.length + l.length * 0 ≤ _
        omega
      · rw [join_sg rfl]
        exact q _ _ (by show a ≤ (l.length : Int); omega) (by show (l.length : Int) ≤ b; omega) hm (hb1.trans hb) hR

/-! ### drawn texts -/
def spNumber : Sp := fun vs H Q _ => ∃ i, vs = [.int i] ∧ Q (.bl true) H
theorem ok_number (T : Txt K mg) : FnOk P w K mg base CX0 1 T.a_law_number T.fd_law_number ["value"] spNumber := by
  refine T.F_law_number.ok sc_law_number (fun vs H Q E h => ?_) (fun cdv A outer s H vs Q E hr h => ?_)
  · obtain ⟨i, rfl, _⟩ := h
    rfl
  · obtain ⟨i, rfl, q⟩ := h
    refine ⟨_, (pss_one (ps_ret (pe_and (pe_callB call_isi (by rfl) T.m_isinstance (by decide +kernel) (pa_cons (pv 0) (pa_cons (pe_bltn (v := .ty "int") (by rfl) T.m_int (by decide +kernel) rfl) pa_nil))) (pe_one (pe_not (pe_callB call_isi (by rfl) T.m_isinstance (by decide +kernel) (pa_cons (pv 0) (pa_cons (pe_bltn (v := .ty "bool") (by rfl) T.m_bool (by decide +kernel) rfl) pa_nil)))))))), ?_⟩
    refine ⟨_, rfl, _, _, _, _, true, rfl, .ty _, .base (.int i), kit_ty (by decide +kernel), true, rfl, iteT ⟨_, rfl, _, _, _, _, false, rfl, .ty _, .base (.int i), kit_ty (by decide +kernel), false, rfl, q⟩⟩
def spSigns : Sp := fun vs H Q _ => vs = [] ∧ ∀ z : Str, (cs z).length = 96 → TOk z → Q (.str z) H
theorem ok_signs (T : Txt K mg) : FnOk P w K mg base CX0 1 T.a_law_signs T.fd_law_signs [] spSigns := by
  refine T.F_law_signs.ok sc_law_signs (fun vs H Q E h => ?_) (fun cdv A outer s H vs Q E hr h => ?_)
  · obtain ⟨rfl, _⟩ := h
    rfl
  · obtain ⟨rfl, q⟩ := h
    refine ⟨_, (pss_cons (ps_set (i := 0) sc_law_signs.nd rfl (.inl rfl) pe_str)
      (pss_one (ps_ret (pe_op op_add_str (pv 0) pe_str)))), ?_⟩
    refine ⟨_, rfl, _, _, rfl, rfl, by decide +kernel, ?_⟩
    exact q _ (by decide +kernel) (tok_of (by decide +kernel))
/-- every item of a written list of ints -/
theorem ints_of {vs : List V} {lo hi : Int} (h : ∀ v ∈ vs, ∃ i, v = V.int i ∧ lo ≤ i ∧ i ≤ hi) {v : V} (m : v ∈ vs) : ∃ i, v = V.int i ∧ lo ≤ i ∧ i ≤ hi := h v m
def intsIn (lo hi : Int) : List V → Bool
  | [] => true
  | .int i :: r => decide (lo ≤ i) && decide (i ≤ hi) && intsIn lo hi r
  | _ :: _ => false
theorem intsIn_mem {lo hi : Int} : ∀ {vs : List V}, intsIn lo hi vs = true → ∀ v ∈ vs, ∃ i, v = V.int i ∧ lo ≤ i ∧ i ≤ hi
  | [], _, v, m => absurd m List.not_mem_nil
  | .int i :: r, h, v, m => by
    unfold intsIn at h
    simp only [Bool.and_eq_true, decide_eq_true_eq] at h
    rcases List.mem_cons.mp m with rfl | m
    · exact ⟨i, rfl, h.1.1, h.1.2⟩
    · exact intsIn_mem h.2 v m
  | .non :: _, h, _, _ => by cases h
  | .bl _ :: _, h, _, _ => by cases h
  | .str _ :: _, h, _, _ => by cases h
  | .byt _ :: _, h, _, _ => by cases h
  | .flt _ :: _, h, _, _ => by cases h
  | .ref _ :: _, h, _, _ => by cases h
  | .ty _ :: _, h, _, _ => by cases h
def strsIn (lo hi : Nat) : List V → Bool
  | [] => true
  | .str z :: r => decide (lo ≤ z.cps.size) && decide (z.cps.size ≤ hi) && tokB z && strsIn lo hi r
  | _ :: _ => false
theorem strsIn_mem {lo hi : Nat} : ∀ {vs : List V}, strsIn lo hi vs = true → ∀ v ∈ vs, ∃ z, v = V.str z ∧ lo ≤ (cs z).length ∧ (cs z).length ≤ hi ∧ TOk z
  | [], _, v, m => absurd m List.not_mem_nil
  | .str z :: r, h, v, m => by
    unfold strsIn at h
    simp only [Bool.and_eq_true, decide_eq_true_eq] at h
    rcases List.mem_cons.mp m with rfl | m
    · have e : (cs z).length = z.cps.size := by
        show z.cps.toList.length = _
        rw [Array.length_toList]
      exact ⟨z, rfl, by omega, by omega, tok_of h.1.2⟩
    · exact strsIn_mem h.2 v m
  | .non :: _, h, _, _ => by cases h
  | .bl _ :: _, h, _, _ => by cases h
  | .int _ :: _, h, _, _ => by cases h
  | .byt _ :: _, h, _, _ => by cases h
  | .flt _ :: _, h, _, _ => by cases h
  | .ref _ :: _, h, _, _ => by cases h
  | .ty _ :: _, h, _, _ => by cases h
theorem strs4 {z1 z2 : Str} {a b : Str} (h1 : (cs z1).length = 96) (h2 : (cs z2).length = 96) (o1 : TOk z1) (o2 : TOk z2) (ha : strsIn 1 96 [.str a, .str b] = true) {v : V} (m : v ∈ [V.str z1, V.str z2, V.str a, V.str b]) :
    ∃ z, v = V.str z ∧ 0 < (cs z).length ∧ (cs z).length ≤ 96 ∧ TOk z := by
  rcases List.mem_cons.mp m with rfl | m
  · exact ⟨z1, rfl, by omega, by omega, o1⟩
  rcases List.mem_cons.mp m with rfl | m
  · exact ⟨z2, rfl, by omega, by omega, o2⟩
  obtain ⟨z, e, h3, h4, h5⟩ := strsIn_mem ha v m
  exact ⟨z, e, by omega, h4, h5⟩
def spStepped : Sp := fun vs H Q _ => ∃ (r : Addr) (n : Int), vs = [.ref r, .int n] ∧ ReelAt H r ∧ 0 ≤ n ∧ n ≤ 50000 ∧ ∀ (x : Str) H', ((cs x).length : Int) = n → TOk x → But r H H' → ReelAt H' r → Q (.str x) H'
theorem ok_stepped (T : Txt K mg) : FnOk P w K mg base CX0 3 T.a_law_stepped T.fd_law_stepped ["reel", "size"] spStepped := by
  have G_law_draw : FnOk P w K mg base CX0 1 T.a_law_draw T.fd_law_draw ["reel", "size"] spDraw := ok_draw T
  have G_law_pick : FnOk P w K mg base CX0 2 T.a_law_pick T.fd_law_pick ["reel", "row"] (spPick K) := ok_pick T
  have G_law_signs : FnOk P w K mg base CX0 1 T.a_law_signs T.fd_law_signs [] spSigns := ok_signs T
  refine T.F_law_stepped.ok sc_law_stepped (fun vs H Q E h => ?_) (fun cdv A outer s H vs Q E hr h => ?_)
  · obtain ⟨r, n, rfl, _⟩ := h
    rfl
  · have hr_law_draw : Room 1 _ := hr.mono (by decide)
    have hr_law_signs : Room 1 _ := hr.mono (by decide)
    have hr_law_pick : Room 2 _ := hr
    obtain ⟨r, n, rfl, hr0, h0, h1, q⟩ := h
    refine ⟨_, (pss_cons (ps_set (i := 2) sc_law_stepped.nd rfl (.inr rfl) (pe_call G_law_pick hr_law_pick (by rfl) T.g_law_pick T.F_law_pick.kp T.b_law_pick .nil pass0 (pa_cons (pv 0) (pa_cons (pe_lst (pa_cons (pe_call0 G_law_signs hr_law_signs (by rfl) T.g_law_signs T.F_law_signs.kp T.b_law_signs .nil pass0) (pa_cons (pe_call0 G_law_signs hr_law_signs (by rfl) T.g_law_signs T.F_law_signs.kp T.b_law_signs .nil pass0) (pa_cons pe_str (pa_cons pe_str pa_nil))))) pa_nil))))
      (pss_cons (ps_set (i := 3) sc_law_stepped.nd rfl (.inr rfl) (pe_call G_law_draw hr_law_draw (by rfl) T.g_law_draw T.F_law_draw.kp T.b_law_draw .nil pass0 (pa_cons (pv 0) (pa_cons pe_int pa_nil))))
      (pss_cons (ps_set (i := 4) sc_law_stepped.nd rfl (.inr rfl) (pe_call G_law_pick hr_law_pick (by rfl) T.g_law_pick T.F_law_pick.kp T.b_law_pick .nil pass0 (pa_cons (pv 0) (pa_cons (pe_lst (pa_cons pe_int (pa_cons pe_int (pa_cons pe_int (pa_cons pe_int pa_nil))))) pa_nil))))
      (pss_one (ps_ret (pe_join pe_str (pe_lc (own := [("k", 5)]) (g := gName 5) (by rfl) sc_law_stepped.nd (pi_range1 (by rfl) T.m_range (pa_cons (pv 1) pa_nil)) (blkOk_by (own := [("k", 5)]) (N := ["reel", "size", "letters", "first", "step", "k"]) (sc := defScope s_law_stepped) (by decide +kernel)) (fun _ _ _ _ _ => pg_name (i := 5) sc_law_stepped.nd rfl (Or.inl rfl)) (fun _ _ _ _ _ => pts_nil) (fun _ _ _ _ _ => (pe_ix ix_str (pv 2) (pe_op op_modN (pe_callTy call_int1 (by rfl) T.m_int (by decide +kernel) (pa_cons (pe_op op_add (pv 3) (pe_op op_mul (pv 5) (pv 4))) pa_nil)) (pe_callB call_len_str (by rfl) T.m_len PySem.boot_len (pa_cons (pv 2) pa_nil))) (fun _ _ => rfl)))))))))), ?_⟩
    -- letters
    refine ⟨_, rfl, rfl, fun z1 l1 o1 => ⟨rfl, fun z2 l2 o2 => ⟨by show 4 ≤ sizeLine; decide, fun p np => ?_⟩⟩⟩
    refine ⟨r, _, rfl, hr0.new np, .inr ⟨p, _, rfl, (hr0.ne np).symm, SqL.of upd_same, by show 0 < 4; decide, fun v H1 hv hb1 hR1 => ?_⟩⟩
    obtain ⟨z, rfl, hz0, hz1, hzo⟩ := strs4 l1 l2 o1 o2 (by decide +kernel) hv
    have hb1' : But r H H1 := (But.new np).trans hb1
    -- first
    refine ⟨_, rfl, r, _, rfl, hR1, by decide, fun f H2 f0 f1 hb2 hR2 => ?_⟩
    -- step
    refine ⟨_, rfl, by show 4 ≤ sizeLine; decide, fun p2 np2 => ?_⟩
    refine ⟨r, _, rfl, hR2.new np2, .inr ⟨p2, _, rfl, (hR2.ne np2).symm, SqL.of upd_same, by show 0 < 4; decide, fun v H3 hv hb3 hR3 => ?_⟩⟩
    obtain ⟨st, rfl, hs0, hs1⟩ : ∃ i : Int, v = .int i ∧ 0 ≤ i ∧ i ≤ 100 := by
      rcases List.mem_cons.mp hv with rfl | hv
      · exact ⟨1, rfl, by decide, by decide⟩
      rcases List.mem_cons.mp hv with rfl | hv
      · exact ⟨5, rfl, by decide, by decide⟩
      rcases List.mem_cons.mp hv with rfl | hv
      · exact ⟨7, rfl, by decide, by decide⟩
      rcases List.mem_cons.mp hv with rfl | hv
      · exact ⟨95, rfl, by decide, by decide⟩
      · exact absurd hv List.not_mem_nil
    have hb3' : But r H H3 := hb1'.trans (hb2.trans ((But.new np2).trans hb3))
    refine ⟨⟨_, rfl⟩, _, rfl, n, rfl, by omega, by omega, fun D nD => ?_⟩
    refine lc_range (lo := 0) (n := n.toNat) (fun i H' => ∃ l : List Nat, H' D = some (.lst ((l.map sg).map V.str)) ∧ l.length = i ∧ (∀ c ∈ l, c < 1114112) ∧ But r H3 H' ∧ ReelAt H' r)
      ⟨[], upd_same, rfl, (fun c hc => absurd hc List.not_mem_nil), But.new nD, hR3.new nD⟩ ?_ ?_
    · rintro i H' hi ⟨l, hD, hl, hlo, hb, hR⟩
      have fm := fmod_range (f + (0 + (i : Int)) * st) (n := (z.length : Int)) (by rw [len_cs]; omega)
      have hlz := len_cs z
      have hv : ((f + (0 + (i : Int)) * st).fmod (z.length : Int)).toNat < (cs z).length := by omega
      obtain ⟨c, hc⟩ : ∃ c, (cs z)[((f + (0 + (i : Int)) * st).fmod (z.length : Int)).toNat]? = some c := ⟨_, List.getElem?_eq_getElem hv⟩
      refine ⟨rfl, _, rfl, _, rfl, _, rfl, _, rfl, _, _, rfl, rfl, .inr ⟨by omega, by omega⟩, _, _, rfl, rfl, .inl ⟨_, rfl, ?_⟩⟩
      refine ⟨_, rfl, z, rfl, sz1 (by omega), _, _, rfl, rfl, by omega, z, _, c, rfl, rfl, sz1 (by omega), at_of' fm.1 hc, ?_⟩
      have hDr : D ≠ r := (hR3.ne nD).symm
      refine ⟨_, hD, sz2 (by rw [List.length_map, List.length_map]; omega), l ++ [c], ?_, ?_, ?_, ?_, ?_⟩
      · rw [upd_same, map_snoc]
      · rw [List.length_append, hl]
        rfl
      · intro x hx
        rcases List.mem_append.mp hx with hx | hx
        · exact hlo x hx
        · rw [List.mem_singleton.mp hx]
          exact hzo c (List.mem_of_getElem? hc)
      · exact fun b o n e => by
          rw [upd_ne (ne_of_none e nD)]
          exact hb b o n e
      · obtain ⟨z1, c1, e1, e2⟩ := hR
        exact ⟨z1, c1, by rw [upd_ne hDr.symm]; exact e1, e2⟩
    · rintro H' ⟨l, hD, hl, hlo, hb, hR⟩
      refine ⟨_, _, _, rfl, rfl, .inl (SqL.of hD), ?_, ?_⟩
      · rw [sg_lens, List.length_map]
        show l.length + l.length * 0 ≤ _
        omega
      · rw [join_sg rfl]
        exact q _ _ (by show (l.length : Int) = n; omega) hlo (hb3'.trans hb) hR
/-- a text of at most n signs -/
def spText (m : Nat) : Sp := fun vs H Q _ => ∃ (r : Addr), vs = [.ref r] ∧ ReelAt H r ∧ ∀ (x : Str) H', (cs x).length ≤ m → TOk x → But r H H' → ReelAt H' r → Q (.str x) H'

theorem ok_text (T : Txt K mg) : FnOk P w K mg base CX0 4 T.a_law_text T.fd_law_text ["reel"] (spText 2000) := by
  have G_law_draw : FnOk P w K mg base CX0 1 T.a_law_draw T.fd_law_draw ["reel", "size"] spDraw := ok_draw T
  have G_law_pick : FnOk P w K mg base CX0 2 T.a_law_pick T.fd_law_pick ["reel", "row"] (spPick K) := ok_pick T
  have G_law_word : FnOk P w K mg base CX0 3 T.a_law_word T.fd_law_word ["reel", "letters", "least", "most"] spWord := ok_word T
  have G_law_signs : FnOk P w K mg base CX0 1 T.a_law_signs T.fd_law_signs [] spSigns := ok_signs T
  have G_law_stepped : FnOk P w K mg base CX0 3 T.a_law_stepped T.fd_law_stepped ["reel", "size"] spStepped := ok_stepped T
  refine T.F_law_text.ok sc_law_text (fun vs H Q E h => ?_) (fun cdv A outer s H vs Q E hr h => ?_)
  · obtain ⟨r, rfl, _⟩ := h
    rfl
  · have hr_law_draw : Room 1 _ := hr.mono (by decide)
    have hr_law_signs : Room 1 _ := hr.mono (by decide)
    have hr_law_pick : Room 2 _ := hr.mono (by decide)
    have hr_law_word : Room 3 _ := hr
    have hr_law_stepped : Room 3 _ := hr
    obtain ⟨r, rfl, hr0, q⟩ := h
    refine ⟨_, (pss_cons (ps_set (i := 1) sc_law_text.nd rfl (.inl rfl) (pe_call G_law_draw hr_law_draw (by rfl) T.g_law_draw T.F_law_draw.kp T.b_law_draw .nil pass0 (pa_cons (pv 0) (pa_cons pe_int pa_nil))))
      (pss_cons (ps_if (pt_cmpR op_eq (pv 1) pe_int (nomark _)) (pss_cons (ps_set (i := 2) sc_law_text.nd rfl (.inl rfl) (pe_op op_add pe_int (pe_call G_law_draw hr_law_draw (by rfl) T.g_law_draw T.F_law_draw.kp T.b_law_draw .nil pass0 (pa_cons (pv 0) (pa_cons pe_int pa_nil)))))
      (pss_cons (ps_if (pt_cmpR op_eq (pe_call G_law_draw hr_law_draw (by rfl) T.g_law_draw T.F_law_draw.kp T.b_law_draw .nil pass0 (pa_cons (pv 0) (pa_cons pe_int pa_nil))) pe_int (nomark _)) (pss_one (ps_set (i := 2) sc_law_text.nd rfl (.inl rfl) (pe_op op_sub pe_int (pe_call G_law_draw hr_law_draw (by rfl) T.g_law_draw T.F_law_draw.kp T.b_law_draw .nil pass0 (pa_cons (pv 0) (pa_cons pe_int pa_nil)))))) pss_nil)
      (pss_one (ps_ret (pe_call G_law_stepped hr_law_stepped (by rfl) T.g_law_stepped T.F_law_stepped.kp T.b_law_stepped .nil pass0 (pa_cons (pv 0) (pa_cons (pv 2) pa_nil))))))) pss_nil)
      (pss_cons (ps_if (pt_cmpR op_lt (pv 1) pe_int (nomark _)) (pss_one (ps_ret (pe_call G_law_stepped hr_law_stepped (by rfl) T.g_law_stepped T.F_law_stepped.kp T.b_law_stepped .nil pass0 (pa_cons (pv 0) (pa_cons (pe_call G_law_pick hr_law_pick (by rfl) T.g_law_pick T.F_law_pick.kp T.b_law_pick .nil pass0 (pa_cons (pv 0) (pa_cons (pe_lst (pa_cons pe_int (pa_cons pe_int (pa_cons pe_int (pa_cons pe_int (pa_cons pe_int (pa_cons pe_int (pa_cons pe_int pa_nil)))))))) pa_nil))) pa_nil))))) pss_nil)
      (pss_one (ps_ret (pe_call G_law_word hr_law_word (by rfl) T.g_law_word T.F_law_word.kp T.b_law_word .nil pass0 (pa_cons (pv 0) (pa_cons (pe_call G_law_pick hr_law_pick (by rfl) T.g_law_pick T.F_law_pick.kp T.b_law_pick .nil pass0 (pa_cons (pv 0) (pa_cons (pe_lst (pa_cons (pe_call0 G_law_signs hr_law_signs (by rfl) T.g_law_signs T.F_law_signs.kp T.b_law_signs .nil pass0) (pa_cons (pe_call0 G_law_signs hr_law_signs (by rfl) T.g_law_signs T.F_law_signs.kp T.b_law_signs .nil pass0) (pa_cons pe_str (pa_cons pe_str pa_nil))))) pa_nil))) (pa_cons pe_int (pa_cons (pe_call G_law_pick hr_law_pick (by rfl) T.g_law_pick T.F_law_pick.kp T.b_law_pick .nil pass0 (pa_cons (pv 0) (pa_cons (pe_lst (pa_cons pe_int (pa_cons pe_int (pa_cons pe_int (pa_cons pe_int pa_nil))))) pa_nil))) pa_nil)))))))))), ?_⟩
    -- form
    refine ⟨_, rfl, r, _, rfl, hr0, by decide, fun f H1 f0 f1 hb1 hR1 => ?_⟩
    refine ⟨_, rfl, rfl, _, rfl, ite2 (fun e => ?_) (fun e => ?_)⟩
    · refine ⟨_, rfl, r, _, rfl, hR1, by decide, fun a H2 a0 a1 hb2 hR2 => ?_⟩
      refine ⟨200, a, rfl, rfl, ?_⟩
      refine ⟨_, rfl, r, _, rfl, hR2, by decide, fun b H3 b0 b1 hb3 hR3 => ?_⟩
      have hb := hb1.trans (hb2.trans hb3)
      refine ⟨rfl, _, rfl, ite2 (fun e => ?_) (fun e => ?_)⟩
      · refine ⟨_, rfl, r, _, rfl, hR3, by decide, fun c H4 c0 c1 hb4 hR4 => ?_⟩
        refine ⟨2000, c, rfl, rfl, _, rfl, _, rfl, r, _, rfl, hR4, by omega, by omega, fun x H5 hx ho hb5 hR5 => ?_⟩
        exact q x H5 (by omega) ho (hb.trans (hb4.trans hb5)) hR5
      · refine ⟨_, rfl, _, rfl, r, _, rfl, hR3, by omega, by omega, fun x H5 hx ho hb5 hR5 => ?_⟩
        exact q x H5 (by omega) ho (hb.trans hb5) hR5
    · refine ⟨_, rfl, f, 4, rfl, rfl, _, rfl, ite2 (fun e => ?_) (fun e => ?_)⟩
      · refine ⟨_, rfl, _, rfl, by show 7 ≤ sizeLine; decide, fun p np => ?_⟩
        refine ⟨r, _, rfl, hR1.new np, .inr ⟨p, _, rfl, (hR1.ne np).symm, SqL.of upd_same, by show 0 < 7; decide, fun v H2 hv hb2 hR2 => ?_⟩⟩
        obtain ⟨i, rfl, i0, i1⟩ := intsIn_mem (lo := 0) (hi := 60) (by decide +kernel) v hv
        refine ⟨r, _, rfl, hR2, i0, by omega, fun x H5 hx ho hb5 hR5 => ?_⟩
        exact q x H5 (by omega) ho (hb1.trans ((But.new np).trans (hb2.trans hb5))) hR5
      · refine ⟨_, rfl, _, rfl, rfl, fun z1 l1 o1 => ⟨rfl, fun z2 l2 o2 => ⟨by show 4 ≤ sizeLine; decide, fun p np => ?_⟩⟩⟩
        refine ⟨r, _, rfl, hR1.new np, .inr ⟨p, _, rfl, (hR1.ne np).symm, SqL.of upd_same, by show 0 < 4; decide, fun v H2 hv hb2 hR2 => ?_⟩⟩
        obtain ⟨z, rfl, hz0, hz1, hzo⟩ := strs4 l1 l2 o1 o2 (by decide +kernel) hv
        refine ⟨_, rfl, by show 4 ≤ sizeLine; decide, fun p2 np2 => ?_⟩
        refine ⟨r, _, rfl, hR2.new np2, .inr ⟨p2, _, rfl, (hR2.ne np2).symm, SqL.of upd_same, by show 0 < 4; decide, fun v H3 hv hb3 hR3 => ?_⟩⟩
        obtain ⟨i, rfl, i0, i1⟩ := intsIn_mem (lo := 1) (hi := 20) (by decide +kernel) v hv
        refine ⟨r, z, 0, i, rfl, hR3, hz0, by omega, by decide, by omega, by omega, fun x H5 hx hx2 hxz hb5 hR5 => ?_⟩
        exact q x H5 (by omega) (fun c hc => hzo c (hxz c hc)) (hb1.trans ((But.new np).trans (hb2.trans ((But.new np2).trans (hb3.trans hb5))))) hR5

theorem ok_new (T : Txt K mg) : FnOk P w K mg base CX0 4 T.a_law_new T.fd_law_new ["reel"] (spText 300) := by
  have G_law_draw : FnOk P w K mg base CX0 1 T.a_law_draw T.fd_law_draw ["reel", "size"] spDraw := ok_draw T
  have G_law_pick : FnOk P w K mg base CX0 2 T.a_law_pick T.fd_law_pick ["reel", "row"] (spPick K) := ok_pick T
  have G_law_word : FnOk P w K mg base CX0 3 T.a_law_word T.fd_law_word ["reel", "letters", "least", "most"] spWord := ok_word T
  have G_law_signs : FnOk P w K mg base CX0 1 T.a_law_signs T.fd_law_signs [] spSigns := ok_signs T
  have G_law_stepped : FnOk P w K mg base CX0 3 T.a_law_stepped T.fd_law_stepped ["reel", "size"] spStepped := ok_stepped T
  refine T.F_law_new.ok sc_law_new (fun vs H Q E h => ?_) (fun cdv A outer s H vs Q E hr h => ?_)
  · obtain ⟨r, rfl, _⟩ := h
    rfl
  · have hr_law_draw : Room 1 _ := hr.mono (by decide)
    have hr_law_signs : Room 1 _ := hr.mono (by decide)
    have hr_law_pick : Room 2 _ := hr.mono (by decide)
    have hr_law_word : Room 3 _ := hr
    have hr_law_stepped : Room 3 _ := hr
    obtain ⟨r, rfl, hr0, q⟩ := h
    refine ⟨_, (pss_cons (ps_if (pt_cmpR op_eq (pe_call G_law_draw hr_law_draw (by rfl) T.g_law_draw T.F_law_draw.kp T.b_law_draw .nil pass0 (pa_cons (pv 0) (pa_cons pe_int pa_nil))) pe_int (nomark _)) (pss_one (ps_ret (pe_call G_law_stepped hr_law_stepped (by rfl) T.g_law_stepped T.F_law_stepped.kp T.b_law_stepped .nil pass0 (pa_cons (pv 0) (pa_cons (pe_call G_law_pick hr_law_pick (by rfl) T.g_law_pick T.F_law_pick.kp T.b_law_pick .nil pass0 (pa_cons (pv 0) (pa_cons (pe_lst (pa_cons pe_int (pa_cons pe_int (pa_cons pe_int (pa_cons pe_int (pa_cons pe_int (pa_cons pe_int (pa_cons pe_int (pa_cons pe_int (pa_cons pe_int pa_nil)))))))))) pa_nil))) pa_nil))))) pss_nil)
      (pss_cons (ps_set (i := 1) sc_law_new.nd rfl (.inl rfl) (pe_call G_law_pick hr_law_pick (by rfl) T.g_law_pick T.F_law_pick.kp T.b_law_pick .nil pass0 (pa_cons (pv 0) (pa_cons (pe_lst (pa_cons pe_int (pa_cons pe_int (pa_cons pe_int (pa_cons pe_int (pa_cons pe_int (pa_cons pe_int (pa_cons pe_int (pa_cons pe_int pa_nil))))))))) pa_nil))))
      (pss_one (ps_ret (pe_call G_law_word hr_law_word (by rfl) T.g_law_word T.F_law_word.kp T.b_law_word .nil pass0 (pa_cons (pv 0) (pa_cons (pe_call G_law_pick hr_law_pick (by rfl) T.g_law_pick T.F_law_pick.kp T.b_law_pick .nil pass0 (pa_cons (pv 0) (pa_cons (pe_lst (pa_cons (pe_call0 G_law_signs hr_law_signs (by rfl) T.g_law_signs T.F_law_signs.kp T.b_law_signs .nil pass0) (pa_cons (pe_call0 G_law_signs hr_law_signs (by rfl) T.g_law_signs T.F_law_signs.kp T.b_law_signs .nil pass0) (pa_cons pe_str (pa_cons pe_str pa_nil))))) pa_nil))) (pa_cons (pv 1) (pa_cons (pv 1) pa_nil))))))))), ?_⟩
    refine ⟨_, rfl, r, _, rfl, hr0, by decide, fun f H1 f0 f1 hb1 hR1 => ?_⟩
    refine ⟨rfl, _, rfl, ite2 (fun e => ?_) (fun e => ?_)⟩
    · refine ⟨_, rfl, _, rfl, by show 9 ≤ sizeLine; decide, fun p np => ?_⟩
      refine ⟨r, _, rfl, hR1.new np, .inr ⟨p, _, rfl, (hR1.ne np).symm, SqL.of upd_same, by show 0 < 9; decide, fun v H2 hv hb2 hR2 => ?_⟩⟩
      obtain ⟨i, rfl, i0, i1⟩ := intsIn_mem (lo := 15) (hi := 300) (by decide +kernel) v hv
      refine ⟨r, _, rfl, hR2, by omega, by omega, fun x H5 hx ho hb5 hR5 => ?_⟩
      exact q x H5 (by omega) ho (hb1.trans ((But.new np).trans (hb2.trans hb5))) hR5
    · refine ⟨_, rfl, by show 8 ≤ sizeLine; decide, fun p np => ?_⟩
      refine ⟨r, _, rfl, hR1.new np, .inr ⟨p, _, rfl, (hR1.ne np).symm, SqL.of upd_same, by show 0 < 8; decide, fun v H2 hv hb2 hR2 => ?_⟩⟩
      obtain ⟨i, rfl, i0, i1⟩ := intsIn_mem (lo := 0) (hi := 5) (by decide +kernel) v hv
      refine ⟨_, rfl, _, rfl, rfl, fun z1 l1 o1 => ⟨rfl, fun z2 l2 o2 => ⟨by show 4 ≤ sizeLine; decide, fun p2 np2 => ?_⟩⟩⟩
      refine ⟨r, _, rfl, hR2.new np2, .inr ⟨p2, _, rfl, (hR2.ne np2).symm, SqL.of upd_same, by show 0 < 4; decide, fun v H3 hv hb3 hR3 => ?_⟩⟩
      obtain ⟨z, rfl, hz0, hz1, hzo⟩ := strs4 l1 l2 o1 o2 (by decide +kernel) hv
      refine ⟨_, rfl, _, rfl, r, z, i, i, rfl, hR3, hz0, by omega, by omega, by omega, by omega, fun x H5 hx hx2 hxz hb5 hR5 => ?_⟩
      exact q x H5 (by omega) (fun c hc => hzo c (hxz c hc)) (hb1.trans ((But.new np).trans (hb2.trans ((But.new np2).trans (hb3.trans hb5))))) hR5


/-! ### edits, in plain Lean -/
abbrev Ed := Int × Int × Str
abbrev Ed.len (e : Ed) : Nat := (cs e.2.2).length
/-- a text with a stretch replaced -/
def spliceL (t : List Nat) (a b : Nat) (s : List Nat) : List Nat := t.take a ++ s ++ t.drop b
def spl1 (t : List Nat) (e : Ed) : List Nat := spliceL t e.1.toNat e.2.1.toNat (cs e.2.2)
def appl (t : List Nat) (es : List Ed) : List Nat := es.foldl spl1 t
def fit1 (n : Nat) (e : Ed) : Prop := 0 ≤ e.1 ∧ e.1 ≤ e.2.1 ∧ e.2.1 ≤ (n : Int)
instance (n : Nat) (e : Ed) : Decidable (fit1 n e) := by unfold fit1; infer_instance
def size1 (n : Nat) (e : Ed) : Nat := n - (e.2.1.toNat - e.1.toNat) + e.len
def sizeL (n : Nat) (es : List Ed) : Nat := es.foldl size1 n
def fitsL : Nat → List Ed → Prop
  | _, [] => True
  | n, e :: r => fit1 n e ∧ fitsL (size1 n e) r
/-- the index of the first edit that does not fit -/
def unfit : Nat → List Ed → Option Nat
  | _, [] => none
  | n, e :: r => if fit1 n e then (unfit (size1 n e) r).map (· + 1) else some 0
theorem spliceL_len {t s : List Nat} {a b : Nat} (h : a ≤ b) : (spliceL t a b s).length ≤ t.length + s.length := by
  unfold spliceL
  rw [List.length_append, List.length_append, List.length_take, List.length_drop]
  omega
theorem spl1_len {t : List Nat} {e : Ed} (h : fit1 t.length e) : (spl1 t e).length = size1 t.length e := by
  obtain ⟨h1, h2, h3⟩ := h
  unfold spl1 spliceL size1 Ed.len
  rw [List.length_append, List.length_append, List.length_take, List.length_drop]
  omega
theorem fitsL_snoc : ∀ (n : Nat) (es : List Ed) (e : Ed), fitsL n (es ++ [e]) ↔ fitsL n es ∧ fit1 (sizeL n es) e
  | n, [], e => by
    show fit1 n e ∧ True ↔ True ∧ fit1 n e
    simp
  | n, x :: r, e => by
    show fit1 n x ∧ fitsL (size1 n x) (r ++ [e]) ↔ (fit1 n x ∧ fitsL (size1 n x) r) ∧ fit1 (sizeL (size1 n x) r) e
    rw [fitsL_snoc (size1 n x) r e, and_assoc]
theorem appl_snoc (t : List Nat) (es : List Ed) (e : Ed) : appl t (es ++ [e]) = spl1 (appl t es) e := by
  unfold appl
  rw [List.foldl_append]
  rfl
theorem sizeL_snoc (n : Nat) (es : List Ed) (e : Ed) : sizeL n (es ++ [e]) = size1 (sizeL n es) e := by
  unfold sizeL
  rw [List.foldl_append]
  rfl
theorem appl_len : ∀ {t : List Nat} {es : List Ed}, fitsL t.length es → (appl t es).length = sizeL t.length es
  | t, [], _ => rfl
  | t, e :: r, h => by
    obtain ⟨h1, h2⟩ := h
    have e1 := spl1_len h1
    show (appl (spl1 t e) r).length = sizeL (size1 t.length e) r
    rw [← e1] at h2 ⊢
    exact appl_len h2
theorem fitsL_take : ∀ {n : Nat} {es : List Ed} (k : Nat), fitsL n es → fitsL n (es.take k)
  | _, [], k, _ => by rw [List.take_nil]; exact True.intro
  | _, _ :: _, 0, _ => True.intro
  | _, _ :: _, k + 1, h => ⟨h.1, fitsL_take k h.2⟩
theorem unfit_none : ∀ {n : Nat} {es : List Ed}, unfit n es = none ↔ fitsL n es
  | _, [] => by
    show none = none ↔ True
    simp
  | n, e :: r => by
    show (if fit1 n e then (unfit (size1 n e) r).map (· + 1) else some 0) = none ↔ fit1 n e ∧ fitsL (size1 n e) r
    by_cases h : fit1 n e
    · rw [if_pos h, Option.map_eq_none_iff, unfit_none]
      simp [h]
    · rw [if_neg h]
      simp [h]
theorem unfit_take : ∀ {n k : Nat} {es : List Ed}, unfit n es = some k → fitsL n (es.take k) ∧ k < es.length
  | _, _, [], h => by cases h
  | n, k, e :: r, h => by
    have h' : (if fit1 n e then (unfit (size1 n e) r).map (· + 1) else some 0) = some k := h
    by_cases c : fit1 n e
    · rw [if_pos c] at h'
      obtain ⟨j, h1, h2⟩ := Option.map_eq_some_iff.mp h'
      subst h2
      obtain ⟨h3, h4⟩ := unfit_take h1
      exact ⟨⟨c, h3⟩, Nat.succ_lt_succ h4⟩
    · rw [if_neg c] at h'
      cases h'
      exact ⟨True.intro, Nat.succ_pos _⟩
/-- the edit that leads back -/
def back1 (t : List Nat) (e : Ed) : Ed := (e.1, e.1 + (e.len : Int), ⟨((t.take e.2.1.toNat).drop e.1.toNat).toArray⟩)
/-- the edits that lead back, the last one first -/
def backL : List Nat → List Ed → List Ed
  | _, [] => []
  | t, e :: r => backL (spl1 t e) r ++ [back1 t e]
theorem backL_len : ∀ (t : List Nat) (es : List Ed), (backL t es).length = es.length
  | _, [] => rfl
  | t, e :: r => by
    show (backL (spl1 t e) r ++ [back1 t e]).length = r.length + 1
    rw [List.length_append, backL_len]
    rfl
theorem backL_snoc : ∀ (t : List Nat) (es : List Ed) (e : Ed), backL t (es ++ [e]) = back1 (appl t es) e :: backL t es
  | _, [], _ => rfl
  | t, x :: r, e => by
    show backL (spl1 t x) (r ++ [e]) ++ [back1 t x] = back1 (appl (spl1 t x) r) e :: (backL (spl1 t x) r ++ [back1 t x])
    rw [backL_snoc (spl1 t x) r e]
    rfl
theorem cs_toArray (l : List Nat) : cs ⟨l.toArray⟩ = l := rfl
/-- one step there, one step back -/
theorem back1_spl {t : List Nat} {e : Ed} (h : fit1 t.length e) : fit1 (spl1 t e).length (back1 t e) ∧ spl1 (spl1 t e) (back1 t e) = t ∧ back1 (spl1 t e) (back1 t e) = e := by
  obtain ⟨a, b, s⟩ := e
  obtain ⟨h1, h2, h3⟩ := h
  simp only at h1 h2 h3
  obtain ⟨a, rfl⟩ : ∃ n : Nat, a = (n : Int) := ⟨a.toNat, by omega⟩
  obtain ⟨b, rfl⟩ : ∃ n : Nat, b = (n : Int) := ⟨b.toNat, by omega⟩
  have hab : a ≤ b := by omega
  have hb : b ≤ t.length := by omega
  have la : (t.take a).length = a := by rw [List.length_take]; omega
  have lm : ((t.take b).drop a).length = b - a := by rw [List.length_drop, List.length_take]; omega
  have e1 : spl1 t ((a : Int), (b : Int), s) = t.take a ++ cs s ++ t.drop b := rfl
  have ea : ((a : Int) + ((cs s).length : Int)).toNat = a + (cs s).length := by omega
  have tk : (t.take a ++ cs s ++ t.drop b).take a = t.take a := by
    rw [List.append_assoc, List.take_append_of_le_length (by omega), List.take_of_length_le (by omega)]
  have dr : (t.take a ++ cs s ++ t.drop b).drop (a + (cs s).length) = t.drop b := by
    have : a + (cs s).length = (t.take a ++ cs s).length := by rw [List.length_append, la]
    rw [this, List.drop_left]
  have tt : t.take a ++ (t.take b).drop a ++ t.drop b = t := by
    have h1 : t.take a ++ (t.take b).drop a = t.take b := by
      have h2 : (t.take b).take a = t.take a := by rw [List.take_take, Nat.min_eq_left hab]
      rw [← h2, List.take_append_drop]
    rw [h1, List.take_append_drop]
  refine ⟨⟨by show (0 : Int) ≤ (a : Int); omega, by show (a : Int) ≤ (a : Int) + ((cs s).length : Int); omega, ?_⟩, ?_, ?_⟩
  · show (a : Int) + ((cs s).length : Int) ≤ ((spl1 t ((a : Int), (b : Int), s)).length : Int)
    rw [e1, List.length_append, List.length_append, la]
    omega
  · show (spl1 t ((a : Int), (b : Int), s)).take ((a : Int)).toNat ++ (t.take ((b : Int)).toNat).drop ((a : Int)).toNat ++ (spl1 t ((a : Int), (b : Int), s)).drop ((a : Int) + ((cs s).length : Int)).toNat = t
    rw [e1, ea, Int.toNat_natCast, Int.toNat_natCast, tk, dr, tt]
  · have c2 : (((t.take a ++ cs s ++ t.drop b).take (a + (cs s).length)).drop a) = cs s := by
      have h3 : a + (cs s).length = (t.take a ++ cs s).length := by rw [List.length_append, la]
      rw [h3, List.take_left]
      have h4 : (t.take a ++ cs s).drop a = (t.take a ++ cs s).drop (t.take a).length := by rw [la]
      rw [h4, List.drop_left]
    show (((a : Int)), (a : Int) + ((((t.take ((b : Int)).toNat).drop ((a : Int)).toNat).length : Nat) : Int), (⟨(((spl1 t ((a : Int), (b : Int), s)).take ((a : Int) + ((cs s).length : Int)).toNat).drop ((a : Int)).toNat).toArray⟩ : Str)) = ((a : Int), (b : Int), s)
    rw [e1, ea, Int.toNat_natCast, Int.toNat_natCast, c2, lm]
    have h5 : (a : Int) + ((b - a : Nat) : Int) = (b : Int) := by omega
    rw [h5]
theorem fitsL_app : ∀ {n : Nat} {es fs : List Ed}, fitsL n (es ++ fs) ↔ fitsL n es ∧ fitsL (sizeL n es) fs
  | n, [], fs => by
    show fitsL n fs ↔ True ∧ fitsL n fs
    simp
  | n, e :: r, fs => by
    show fit1 n e ∧ fitsL (size1 n e) (r ++ fs) ↔ (fit1 n e ∧ fitsL (size1 n e) r) ∧ fitsL (sizeL (size1 n e) r) fs
    rw [fitsL_app, and_assoc]
theorem appl_app (t : List Nat) (es fs : List Ed) : appl t (es ++ fs) = appl (appl t es) fs := by
  unfold appl
  rw [List.foldl_append]
theorem rev_ind {α : Type} {P : List α → Prop} (h0 : P []) (h1 : ∀ l a, P l → P (l ++ [a])) (l : List α) : P l := by
  have h : ∀ m : List α, P m.reverse := by
    intro m
    induction m with
    | nil => exact h0
    | cons a m ih =>
      rw [List.reverse_cons]
      exact h1 _ a ih
  have e := h l.reverse
  rw [List.reverse_reverse] at e
  exact e
/-- THE WAY BACK, k steps of it -/
theorem back_way : ∀ (k : Nat) {t : List Nat} {es : List Ed}, fitsL t.length es → k ≤ es.length →
    fitsL (appl t es).length ((backL t es).take k) ∧ appl (appl t es) ((backL t es).take k) = appl t (es.take (es.length - k)) := by
  intro k t es
  induction es using rev_ind generalizing k with
  | h0 =>
    intro _ hk
    have : k = 0 := by simpa using hk
    subst this
    exact ⟨True.intro, rfl⟩
  | h1 es e ih =>
    intro h hk
    obtain ⟨h1, h2⟩ := (fitsL_snoc _ _ _).mp h
    rw [← appl_len h1] at h2
    obtain ⟨b1, b2, _⟩ := back1_spl h2
    rw [backL_snoc, appl_snoc]
    cases k with
    | zero =>
      refine ⟨True.intro, ?_⟩
      rw [Nat.sub_zero, List.take_length, appl_snoc]
      rfl
    | succ k =>
      have hk' : k ≤ es.length := by
        rw [List.length_append] at hk
        simp only [List.length_singleton] at hk
        omega
      obtain ⟨i1, i2⟩ := ih k h1 hk'
      rw [List.take_succ_cons]
      refine ⟨⟨b1, ?_⟩, ?_⟩
      · rw [← spl1_len b1, b2]
        exact i1
      · show appl (spl1 (spl1 (appl t es) e) (back1 (appl t es) e)) ((backL t es).take k) = _
        rw [b2, i2]
        have e2 : (es ++ [e]).length - (k + 1) = es.length - k := by
          rw [List.length_append]
          simp only [List.length_singleton]
          omega
        rw [e2, List.take_append_of_le_length (by omega)]
/-- the way back of the way back -/
theorem back_back : ∀ {es : List Ed} {t : List Nat}, fitsL t.length es → backL (appl t es) (backL t es) = es := by
  intro es
  induction es using rev_ind with
  | h0 =>
    intro t _
    rfl
  | h1 es e ih =>
    intro t h
    obtain ⟨h1, h2⟩ := (fitsL_snoc _ _ _).mp h
    rw [← appl_len h1] at h2
    obtain ⟨b1, b2, b3⟩ := back1_spl h2
    rw [backL_snoc, appl_snoc]
    show backL (spl1 (spl1 (appl t es) e) (back1 (appl t es) e)) (backL t es) ++ [back1 (spl1 (appl t es) e) (back1 (appl t es) e)] = es ++ [e]
    rw [b2, b3, ih h1]

/-! ### edits -/
/-- the tuple of an edit -/
def EdAt (H : Hp) (v : V) (e : Ed) : Prop := ∃ t, v = .ref t ∧ H t = some (.tup [.int e.1, .int e.2.1, .str e.2.2])
/-- tuples stand as they stood -/
def Tups (H H' : Hp) : Prop := ∀ b xs, H b = some (.tup xs) → H' b = some (.tup xs)
theorem Tups.refl (H : Hp) : Tups H H := fun _ _ h => h
theorem Tups.trans {H H1 H2 : Hp} (a : Tups H H1) (b : Tups H1 H2) : Tups H H2 := fun c xs h => b c xs (a c xs h)
theorem But.tups {r : Addr} {H H' : Hp} (b : But r H H') (h : ReelAt H r) : Tups H H' := fun c xs e => b c _ (fun z => by
  obtain ⟨z1, c1, e1, _⟩ := h
  rw [z, e1] at e
  cases e) e
theorem Tups.new {H : Hp} {p : Addr} {o : HO} (h : H p = none) : Tups H (upd H p o) := fun c xs e => by rw [upd_ne (ne_of_none e h)]; exact e
theorem Tups.mut {H : Hp} {p : Addr} {xs : List V} {o : HO} (h : H p = some (.lst xs)) : Tups H (upd H p o) := fun c ys e => by
  rw [upd_ne (ne_of e h (fun z => by cases z))]
  exact e
theorem EdAt.mono {H H' : Hp} {v : V} {e : Ed} (t : Tups H H') (h : EdAt H v e) : EdAt H' v e := by
  obtain ⟨a, e1, e2⟩ := h
  exact ⟨a, e1, t a _ e2⟩
abbrev EdsIn (H : Hp) : List V → List Ed → Prop := Paired (EdAt H)
theorem EdsIn.mono {H H' : Hp} {vs : List V} {es : List Ed} (t : Tups H H') (h : EdsIn H vs es) : EdsIn H' vs es := Paired.mapP h fun _ _ => EdAt.mono t
theorem paired_len {α β : Type} {F : α → β → Prop} : ∀ {xs : List α} {ys : List β}, Paired F xs ys → xs.length = ys.length
  | _, _, .nil => rfl
  | _, _, .cons _ t => congrArg (· + 1) (paired_len t)
theorem paired_app {α β : Type} {F : α → β → Prop} : ∀ {xs xs' : List α} {ys ys' : List β}, Paired F xs ys → Paired F xs' ys' → Paired F (xs ++ xs') (ys ++ ys')
  | _, _, _, _, .nil, h => h
  | _, _, _, _, .cons r t, h => .cons r (paired_app t h)
theorem paired_get {α β : Type} {F : α → β → Prop} : ∀ {xs : List α} {ys : List β} {i : Nat} {y : β}, Paired F xs ys → ys[i]? = some y → ∃ x, xs[i]? = some x ∧ F x y
  | _, _, _, _, .nil, h => by simp at h
  | _, _, 0, y, .cons r t, h => by
    have e := Option.some.inj h
    subst e
    exact ⟨_, rfl, r⟩
  | _, _, i + 1, y, .cons r t, h => by
    obtain ⟨x, h1, h2⟩ := paired_get (i := i) (y := y) t (by simpa using h)
    exact ⟨x, by simpa using h1, h2⟩
theorem paired_take {α β : Type} {F : α → β → Prop} : ∀ {xs : List α} {ys : List β} (n : Nat), Paired F xs ys → Paired F (xs.take n) (ys.take n)
  | _, _, 0, _ => .nil
  | _, _, _ + 1, .nil => .nil
  | _, _, n + 1, .cons r t => .cons r (paired_take n t)
theorem paired_drop {α β : Type} {F : α → β → Prop} : ∀ {xs : List α} {ys : List β} (n : Nat), Paired F xs ys → Paired F (xs.drop n) (ys.drop n)
  | _, _, 0, h => h
  | _, _, _ + 1, .nil => .nil
  | _, _, n + 1, .cons r t => paired_drop n t
/-- a drawn edit -/
def EdBd (e : Ed) : Prop := 0 ≤ e.1 ∧ e.1 ≤ e.2.1 ∧ (cs e.2.2).length ≤ 2000 ∧ TOk e.2.2
/-- what stands behind i turns of the row's making -/
structure RowSt (r l : Addr) (H0 : Hp) (i : Nat) (z now : Str) (H : Hp) : Prop where
  ex : ∃ vs es, H l = some (.lst vs) ∧ EdsIn H vs es ∧ es.length = i ∧ (∀ e ∈ es, EdBd e) ∧ fitsL (cs z).length es ∧ appl (cs z) es = cs now
  ne : l ≠ r
  but : But r H0 H
  reel : ReelAt H r
  len : (cs now).length ≤ 2000
  tok : TOk now
theorem RowSt.mono {r l : Addr} {H0 H H' : Hp} {i : Nat} {z now : Str} (h : RowSt r l H0 i z now H) (b : But r H H') (hR : ReelAt H' r) : RowSt r l H0 i z now H' := by
  obtain ⟨⟨vs, es, e1, e2, e3⟩, n, b0, r0, ln, tk⟩ := h
  exact ⟨⟨vs, es, b l _ n e1, e2.mono (b.tups r0), e3⟩, n, b0.trans b, hR, ln, tk⟩
theorem RowSt.new {r l p : Addr} {H0 H : Hp} {i : Nat} {z now : Str} {o : HO} (h : RowSt r l H0 i z now H) (np : H p = none) : RowSt r l H0 i z now (upd H p o) := h.mono (But.new np) (h.reel.new np)
theorem cut_len (z : Str) (lo hi : Option Int) : (cs (cutS z lo hi)).length ≤ (cs z).length := by
  have h := cutS_length z lo hi
  rw [len_cs, len_cs] at h
  exact h
theorem cut_tok {z : Str} (h : TOk z) (lo hi : Option Int) : TOk (cutS z lo hi) := fun c hc => h c (List.mem_of_mem_drop (List.mem_of_mem_take hc))
theorem spl_tok {t : List Nat} {a b : Nat} {s : List Nat} (h : ∀ c ∈ t, c < 1114112) (h2 : ∀ c ∈ s, c < 1114112) : ∀ c ∈ spliceL t a b s, c < 1114112 := fun c hc => by
  rcases List.mem_append.mp hc with hc | hc
  · rcases List.mem_append.mp hc with hc | hc
    · exact h c (List.mem_of_mem_take hc)
    · exact h2 c hc
  · exact h c (List.mem_of_mem_drop hc)
theorem tok_empty : TOk Str.empty := fun c hc => absurd hc List.not_mem_nil
theorem cut_pre (z : Str) (a : Nat) : cs (cutS z none (some (a : Int))) = (cs z).take a := by
  show ((cs z).drop 0).take _ = _
  rw [HT.sIx_nat, HT.sIx_none, List.drop_zero, Nat.sub_zero, len_cs, ← List.take_eq_take_min]
theorem cut_suf (z : Str) (a : Nat) : cs (cutS z (some (a : Int)) none) = (cs z).drop a := by
  show ((cs z).drop _).take _ = _
  rw [HT.sIx_nat, HT.sIx_none, len_cs, List.take_of_length_le (by rw [List.length_drop]; exact Nat.le_refl _)]
  by_cases h : a ≤ (cs z).length
  · rw [Nat.min_eq_left h]
  · rw [Nat.min_eq_right (by omega), List.drop_eq_nil_of_le (Nat.le_refl _), List.drop_eq_nil_of_le (by omega)]
theorem cut_mid (z : Str) (a b : Nat) : cs (cutS z (some (a : Int)) (some (b : Int))) = ((cs z).take b).drop a := by
  show ((cs z).drop _).take _ = _
  rw [HT.sIx_nat, HT.sIx_nat, len_cs]
  by_cases h : a ≤ (cs z).length
  · rw [Nat.min_eq_left h, List.drop_take]
    by_cases h2 : b ≤ (cs z).length
    · rw [Nat.min_eq_left h2]
    · rw [Nat.min_eq_right (by omega), List.take_of_length_le (by rw [List.length_drop]; exact Nat.le_refl _), List.take_of_length_le (by rw [List.length_drop]; omega)]
  · rw [Nat.min_eq_right (show (cs z).length ≤ a by omega), List.drop_eq_nil_of_le (Nat.le_refl _), List.take_nil, List.drop_eq_nil_of_le (by rw [List.length_take]; omega)]
theorem cs_splice (z s : Str) (a b : Nat) : cs (cutS z none (some (a : Int)) ++ s ++ cutS z (some (b : Int)) none) = spliceL (cs z) a b (cs s) := by
  rw [cs_app, cs_app, cut_pre, cut_suf]
  rfl
theorem mem_ints {l : List Int} {v : V} (h : v ∈ l.map V.int) : ∃ i, i ∈ l ∧ v = .int i := by
  obtain ⟨i, h1, h2⟩ := List.mem_map.mp h
  exact ⟨i, h1, h2.symm⟩
theorem take_more {α : Type} {l : List α} {i : Nat} {x : α} (h : l[i]? = some x) : l.take (i + 1) = l.take i ++ [x] := by
  rw [List.take_add_one, h, Option.toList_some]
theorem nat_of {z : Int} (h : 0 ≤ z) : ∃ n : Nat, z = (n : Int) := ⟨z.toNat, by omega⟩
/-- within a turn: start, end and new are chosen -/
def RowMid (r l : Addr) (H0 : Hp) (i : Nat) (z now : Str) (n near form : Int) (σ : L2.St) (H : Hp) : Prop := ∃ (st en : Int) (new : Str),
  σ = [some (.ref r), some (.str z), some (.int n), some (.ref l), some (.str now), some (.int near), some (.int (0 + (i : Int))), some (.int form), some (.int st), some (.int en), some (.str new)] ∧
  0 ≤ st ∧ st ≤ en ∧ en ≤ (now.length : Int) ∧ (cs new).length ≤ 2000 ∧ TOk new ∧ RowSt r l H0 i z now H
/-- a list of n edits -/
def spRow : Sp := fun vs H Q _ => ∃ (r : Addr) (z : Str) (n : Int), vs = [.ref r, .str z, .int n] ∧ ReelAt H r ∧ (cs z).length ≤ 2000 ∧ TOk z ∧ 0 ≤ n ∧ n ≤ 1000 ∧
  ∀ l H' us es, H l = none → H' l = some (.lst us) → EdsIn H' us es → (es.length : Int) = n → (∀ e ∈ es, EdBd e) → fitsL (cs z).length es → But r H H' → ReelAt H' r → Q (.ref l) H'
def spRow2 : Sp := fun vs H Q _ => ∃ (r : Addr) (z : Str) (n : Int), vs = [.ref r, .str z, .int n] ∧ ReelAt H r ∧ (cs z).length ≤ 2000 ∧ TOk z ∧ 0 ≤ n ∧ n ≤ 1000 ∧
  ∀ l H' us es, H l = none → H' l = some (.lst us) → EdsIn H' us es → (es.length : Int) = n → (∀ e ∈ es, EdBd e) → fitsL (cs z).length es → sizeL (cs z).length es ≤ 2000 → But r H H' → ReelAt H' r → Q (.ref l) H'
theorem ok_edit_row2 (T : Txt K mg) : FnOk P w K mg base CX0 5 T.a_law_edit_row T.fd_law_edit_row ["reel", "text", "count"] spRow2 := by
  have G_law_draw : FnOk P w K mg base CX0 1 T.a_law_draw T.fd_law_draw ["reel", "size"] spDraw := ok_draw T
  have G_law_pick : FnOk P w K mg base CX0 2 T.a_law_pick T.fd_law_pick ["reel", "row"] (spPick K) := ok_pick T
  have G_law_new : FnOk P w K mg base CX0 4 T.a_law_new T.fd_law_new ["reel"] (spText 300) := ok_new T
  refine T.F_law_edit_row.ok sc_law_edit_row (fun vs H Q E h => ?_) (fun cdv A outer s H vs Q E hr h => ?_)
  · obtain ⟨r, z, n, rfl, _⟩ := h
    rfl
  · have hr_law_draw : Room 1 _ := hr.mono (by decide)
    have hr_law_pick : Room 2 _ := hr.mono (by decide)
    have hr_law_new : Room 4 _ := hr
    obtain ⟨r, z, n, rfl, hr0, hz, hzo, hn0, hn1, q⟩ := h
    refine ⟨_, (pss_cons (ps_set (i := 3) sc_law_edit_row.nd rfl (.inl rfl) (pe_lst pa_nil))
      (pss_cons (ps_set (i := 4) sc_law_edit_row.nd rfl (.inl rfl) (pv 1))
      (pss_cons (ps_set (i := 5) sc_law_edit_row.nd rfl (.inl rfl) pe_int)
      (pss_cons (ps_for PassesOwn.never rfl (pi_range1 (by rfl) T.m_range (pa_cons (pv 2) pa_nil)) (pg_name (i := 6) sc_law_edit_row.nd rfl (.inl rfl)) (pss_cons (ps_set (i := 7) sc_law_edit_row.nd rfl (.inl rfl) (pe_call G_law_draw hr_law_draw (by rfl) T.g_law_draw T.F_law_draw.kp T.b_law_draw .nil pass0 (pa_cons (pv 0) (pa_cons pe_int pa_nil))))
      (pss_cons (ps_set (i := 8) sc_law_edit_row.nd rfl (.inl rfl) (pe_call G_law_draw hr_law_draw (by rfl) T.g_law_draw T.F_law_draw.kp T.b_law_draw .nil pass0 (pa_cons (pv 0) (pa_cons (pe_op op_add (pe_callB call_len_str (by rfl) T.m_len PySem.boot_len (pa_cons (pv 4) pa_nil)) pe_int) pa_nil))))
      (C8.pss_cut (ps_if (pt_cmpR op_lt (pv 7) pe_int (nomark _)) (pss_one (ps_set (i := 8) sc_law_edit_row.nd rfl (.inl rfl) (pe_callB (call_min2 rfl) (by rfl) T.m_min (by decide +kernel) (pa_cons (pe_callB call_len_str (by rfl) T.m_len PySem.boot_len (pa_cons (pv 4) pa_nil)) (pa_cons (pe_callB (call_max2 rfl) (by rfl) T.m_max (by decide +kernel) (pa_cons pe_int (pa_cons (pe_op op_sub (pe_op op_add (pv 5) (pe_call G_law_draw hr_law_draw (by rfl) T.g_law_draw T.F_law_draw.kp T.b_law_draw .nil pass0 (pa_cons (pv 0) (pa_cons pe_int pa_nil)))) pe_int) pa_nil))) pa_nil))))) (pss_one (ps_if (pt_cmpR op_eq (pv 7) pe_int (nomark _)) (pss_one (ps_set (i := 8) sc_law_edit_row.nd rfl (.inl rfl) (pe_callB (call_max2 rfl) (by rfl) T.m_max (by decide +kernel) (pa_cons pe_int (pa_cons (pe_op op_sub (pe_callB call_len_str (by rfl) T.m_len PySem.boot_len (pa_cons (pv 4) pa_nil)) (pe_call G_law_draw hr_law_draw (by rfl) T.g_law_draw T.F_law_draw.kp T.b_law_draw .nil pass0 (pa_cons (pv 0) (pa_cons pe_int pa_nil)))) pa_nil))))) pss_nil)))
      (pss_cons (ps_set (i := 9) sc_law_edit_row.nd rfl (.inl rfl) (pe_callB (call_min2 rfl) (by rfl) T.m_min (by decide +kernel) (pa_cons (pe_callB call_len_str (by rfl) T.m_len PySem.boot_len (pa_cons (pv 4) pa_nil)) (pa_cons (pe_op op_add (pv 8) (pe_call G_law_pick hr_law_pick (by rfl) T.g_law_pick T.F_law_pick.kp T.b_law_pick .nil pass0 (pa_cons (pv 0) (pa_cons (pe_lst (pa_cons pe_int (pa_cons pe_int (pa_cons pe_int (pa_cons pe_int (pa_cons pe_int (pa_cons pe_int (pa_cons pe_int (pa_cons pe_int (pa_cons (pe_op op_fdiv (pe_callB call_len_str (by rfl) T.m_len PySem.boot_len (pa_cons (pv 4) pa_nil)) pe_int) pa_nil)))))))))) pa_nil)))) pa_nil))))
      (pss_cons (ps_set (i := 10) sc_law_edit_row.nd rfl (.inl rfl) (pe_call G_law_new hr_law_new (by rfl) T.g_law_new T.F_law_new.kp T.b_law_new .nil pass0 (pa_cons (pv 0) pa_nil)))
      (C8.pss_cut (ps_if (PW.pt (pw_and (pt_cmpR op_eq (pv 7) pe_int (nomark _)) (pw_and1 (pt_truth (pv 3) (by intro _; rfl))))) (pss_cons (ps_set (i := 8) sc_law_edit_row.nd rfl (.inl rfl) (pe_ix ix_tup (pe_ix ix_list (pv 3) (pe_un un_neg pe_int) (fun _ _ => rfl)) pe_int (fun _ _ => rfl)))
      (pss_cons (ps_set (i := 9) sc_law_edit_row.nd rfl (.inl rfl) (pe_op op_add (pv 8) (pe_callB call_len (by rfl) T.m_len PySem.boot_len (pa_cons (pe_ix ix_tup (pe_ix ix_list (pv 3) (pe_un un_neg pe_int) (fun _ _ => rfl)) pe_int (fun _ _ => rfl)) pa_nil))))
      (pss_one (ps_set (i := 10) sc_law_edit_row.nd rfl (.inl rfl) pe_str)))) (pss_one (ps_if (pt_cmpR op_eq (pv 7) pe_int (nomark _)) (pss_one (ps_set (i := 10) sc_law_edit_row.nd rfl (.inl rfl) (pe_slice sl_str (pv 4) (po_some (pv 8)) (po_some (pv 9))))) (pss_one (ps_if (pt_cmpR op_eq (pv 7) pe_int (nomark _)) (pss_cons (ps_set (i := 8) sc_law_edit_row.nd rfl (.inl rfl) pe_int)
      (pss_one (ps_set (i := 9) sc_law_edit_row.nd rfl (.inl rfl) (pe_call G_law_pick hr_law_pick (by rfl) T.g_law_pick T.F_law_pick.kp T.b_law_pick .nil pass0 (pa_cons (pv 0) (pa_cons (pe_lst (pa_cons pe_int (pa_cons (pe_callB (call_min2 rfl) (by rfl) T.m_min (by decide +kernel) (pa_cons pe_int (pa_cons (pe_callB call_len_str (by rfl) T.m_len PySem.boot_len (pa_cons (pv 4) pa_nil)) pa_nil))) (pa_cons (pe_callB call_len_str (by rfl) T.m_len PySem.boot_len (pa_cons (pv 4) pa_nil)) pa_nil)))) pa_nil)))))) pss_nil)))))
      (C8.pss_cut (ps_if (pt_cmpR op_gt (pe_op op_add (pe_callB call_len_str (by rfl) T.m_len PySem.boot_len (pa_cons (pv 4) pa_nil)) (pe_callB call_len_str (by rfl) T.m_len PySem.boot_len (pa_cons (pv 10) pa_nil))) pe_int (nomark _)) (pss_one (ps_set (i := 10) sc_law_edit_row.nd rfl (.inl rfl) pe_str)) pss_nil)
      (pss_cons (ps_expr (pe_bm PySem.F.plainAttrs_list PySem.F.slot_list_append PySem.F.type_list_append mt_append (pv 3) (pa_cons (pe_tup (pa_cons (pv 8) (pa_cons (pv 9) (pa_cons (pv 10) pa_nil)))) pa_nil)))
      (pss_cons (ps_set (i := 5) sc_law_edit_row.nd rfl (.inl rfl) (pe_op op_add (pv 8) (pe_call G_law_draw hr_law_draw (by rfl) T.g_law_draw T.F_law_draw.kp T.b_law_draw .nil pass0 (pa_cons (pv 0) (pa_cons (pe_op op_add (pe_callB call_len_str (by rfl) T.m_len PySem.boot_len (pa_cons (pv 10) pa_nil)) pe_int) pa_nil)))))
      (pss_one (ps_set (i := 4) sc_law_edit_row.nd rfl (.inl rfl) (pe_op op_add_str (pe_op op_add_str (pe_slice sl_str (pv 4) po_none (po_some (pv 8))) (pv 10)) (pe_slice sl_str (pv 4) (po_some (pv 9)) po_none))))))))))))))
      (pss_one (ps_ret (pv 3))))))), ?_⟩
    refine ⟨Nat.zero_le _, fun l nl => ?_⟩
    refine ⟨_, rfl, ?_⟩
    refine ⟨_, rfl, n, rfl, by omega, by omega, ?_⟩
    refine for_range (lo := 0) (n := n.toNat) (fun i σ H' => ∃ (now : Str) (near : Int) (y6 y7 y8 y9 y10 : Option V), σ = [some (.ref r), some (.str z), some (.int n), some (.ref l), some (.str now), some (.int near), y6, y7, y8, y9, y10] ∧ RowSt r l H i z now H')
      ⟨z, 0, none, none, none, none, none, rfl, ⟨[], [], upd_same, .nil, rfl, (fun e he => absurd he List.not_mem_nil), True.intro, rfl⟩, (hr0.ne nl).symm, But.new nl, hr0.new nl, hz, hzo⟩ ?_ ?_
    · rintro i σ H1 hi ⟨now, near, y6, y7, y8, y9, y10, rfl, S1⟩
      have hlen := S1.len
      have eln := len_cs now
      -- form, start
      refine ⟨_, rfl, r, _, rfl, S1.reel, by decide, fun form H2 f0 f1 hb2 hR2 => ?_⟩
      have S2 := S1.mono hb2 hR2
      refine ⟨_, rfl, _, rfl, _, rfl, sz1 (by omega), _, 1, rfl, rfl, r, _, rfl, hR2, by omega, fun st H3 st0 st1 hb3 hR3 => ?_⟩
      have S3 := S2.mono hb3 hR3
      -- if form < 4 ..
      refine ⟨fun σ H' => ∃ st : Int, σ = [some (.ref r), some (.str z), some (.int n), some (.ref l), some (.str now), some (.int near), some (.int (0 + (i : Int))), some (.int form), some (.int st), y9, y10] ∧ 0 ≤ st ∧ st ≤ (now.length : Int) ∧ RowSt r l H i z now H', ?_, ?_⟩
      · refine ⟨_, rfl, form, 4, rfl, rfl, _, rfl, ite2 (fun e => ?_) (fun e => ?_)⟩
        · refine ⟨_, rfl, _, rfl, sz1 (by omega), _, rfl, _, rfl, r, _, rfl, hR3, by decide, fun d H4 d0 d1 hb4 hR4 => ?_⟩
          refine ⟨near, d, rfl, rfl, _, 2, rfl, rfl, 0, _, rfl, _, _, rfl, ⟨_, rfl, ?_, ?_, S3.mono hb4 hR4⟩⟩
          · split <;> split <;> omega
          · split <;> split <;> omega
        · refine ⟨_, rfl, rfl, _, rfl, ite2 (fun e => ?_) (fun e => ?_)⟩
          · refine ⟨_, rfl, _, rfl, sz1 (by omega), _, rfl, r, _, rfl, hR3, by decide, fun d H4 d0 d1 hb4 hR4 => ?_⟩
            refine ⟨_, d, rfl, rfl, 0, _, rfl, ⟨_, rfl, ?_, ?_, S3.mono hb4 hR4⟩⟩
            · split <;> omega
            · split <;> omega
          · exact ⟨st, rfl, st0, by omega, S3⟩
      · rintro σ H4 ⟨st, rfl, st0, st1, S4⟩
        -- end
        refine ⟨_, rfl, _, rfl, sz1 (by omega), _, rfl, _, rfl, _, rfl, _, rfl, sz1 (by omega), _, 3, rfl, rfl, ⟨by decide, by decide⟩, by show 9 ≤ sizeLine; decide, fun p np => ?_⟩
        refine ⟨r, _, rfl, S4.reel.new np, .inr ⟨p, _, rfl, (S4.reel.ne np).symm, SqL.of upd_same, by show 0 < 9; decide, fun v H5 hv hb5 hR5 => ?_⟩⟩
        have S5 := (S4.new np (o := _)).mono hb5 hR5
        obtain ⟨k, hk, rfl⟩ := mem_ints (l := [0, 0, 0, 1, 1, 2, 5, 30, ((now.length : Int)) / 3]) hv
        have k0 : 0 ≤ k := by
          have : ∀ x ∈ [0, 0, 0, 1, 1, 2, 5, 30, ((now.length : Int)) / 3], (0 : Int) ≤ x := by
            intro x hx
            simp only [List.mem_cons, List.not_mem_nil, or_false] at hx
            omega
          exact this k hk
        refine ⟨st, k, rfl, rfl, _, _, rfl, ?_⟩
        -- new
        refine ⟨_, rfl, r, rfl, hR5, fun new H6 hnew hno hb6 hR6 => ?_⟩
        have S6 := S5.mono hb6 hR6
        -- if form == 5 and edits ..
        refine ⟨RowMid r l H i z now n near form, ?_, ?_⟩
        · obtain ⟨⟨us, es, u1, u2, u3, u4, u5, u6⟩, _⟩ := id S6
          have elif6 : RowMid r l H i z now n near form [some (.ref r), some (.str z), some (.int n), some (.ref l), some (.str now), some (.int near), some (.int (0 + (i : Int))), some (.int form), some (.int st), some (.int (if st + k < (now.length : Int) then st + k else (now.length : Int))), some (.str new)] H6 :=
            ⟨_, _, _, rfl, st0, by split <;> omega, by split <;> omega, by omega, hno, S6⟩
          refine ⟨_, rfl, rfl, _, rfl, ite2 (fun e => ?_) (fun e => ?_)⟩
          · refine ⟨_, rfl, !us.isEmpty, .inl ⟨us, SqL.of u1, rfl⟩, ite2 (fun e2 => ?_) (fun e2 => ?_)⟩
            · -- start = edits[-1][0] ..
              have hne : us ≠ [] := fun z => by
                rw [z] at e2
                cases e2
              obtain ⟨us0, ul, rfl⟩ : ∃ a b, us = a ++ [b] := ⟨us.dropLast, us.getLast hne, (List.dropLast_concat_getLast hne).symm⟩
              have hle := paired_len u2
              rw [List.length_append] at hle
              obtain ⟨el, hel⟩ : ∃ e, es[us0.length]? = some e := ⟨_, List.getElem?_eq_getElem (by simp only [List.length_singleton] at hle; omega)⟩
              obtain ⟨u', h1, t, rfl, ht⟩ := paired_get u2 hel
              have h2 : (us0 ++ [ul])[us0.length]? = some ul := by simp
              rw [h2] at h1
              have h3 := Option.some.inj h1
              subst h3
              have hb := u4 el (List.mem_of_getElem? hel)
              refine ⟨_, rfl, 1, rfl, l, _, _, _, rfl, rfl, SqL.of u1, atI_last _ _, t, _, 0, .int el.1, rfl, rfl, SqT.of ht, atI_nat (j := 0) rfl, ?_⟩
              refine ⟨_, rfl, _, rfl, 1, rfl, l, _, _, _, rfl, rfl, SqL.of u1, atI_last _ _, t, _, 2, .str el.2.2, rfl, rfl, SqT.of ht, atI_nat (j := 2) rfl, ?_⟩
              refine ⟨_, _, rfl, ⟨sz1 (by rw [len_cs]; exact Nat.le_trans hb.2.2.1 (by decide)), rfl⟩, el.1, _, rfl, rfl, ?_⟩
              have hes : es = es.take us0.length ++ [el] := by
                have hl2 : es.length = us0.length + 1 := by simp only [List.length_singleton] at hle; omega
                have h1 := take_more hel
                rw [List.take_of_length_le (by omega)] at h1
                exact h1
              rw [hes] at u5 u6
              obtain ⟨v1, v2⟩ := (fitsL_snoc _ _ _).mp u5
              rw [← appl_len v1] at v2
              rw [appl_snoc] at u6
              have v3 := spl1_len v2
              rw [u6] at v3
              obtain ⟨w1, w2, w3⟩ := v2
              have v4 : size1 (appl (cs z) (es.take us0.length)).length el = (appl (cs z) (es.take us0.length)).length - (el.2.1.toNat - el.1.toNat) + (cs el.2.2).length := rfl
              have v5 := len_cs el.2.2
              exact ⟨_, _, _, rfl, hb.1, by omega, by omega, by show 0 ≤ 2000; decide, tok_of (by decide +kernel), S6⟩
            · refine ⟨_, rfl, rfl, _, rfl, ite2 (fun e => ?_) (fun e => ?_)⟩
              · exfalso
                have h1 := of_decide_eq_true e
                have h2 : form = 6 := V.int.inj h1
                rename_i e0
                have h3 := of_decide_eq_true e0
                have h4 : form = 5 := V.int.inj h3
                omega
              · refine ⟨_, rfl, rfl, _, rfl, ite2 (fun e => ?_) (fun e => elif6)⟩
                exfalso
                rename_i e0 _
                have h1 : form = 7 := V.int.inj (of_decide_eq_true e)
                have h4 : form = 5 := V.int.inj (of_decide_eq_true e0)
                omega
          · refine iteF ?_
            refine ⟨_, rfl, rfl, _, rfl, ite2 (fun e => ?_) (fun e => ?_)⟩
            · refine ⟨_, rfl, _, rfl, _, rfl, _, rfl, _, rfl, now, rfl, sz1 (by omega), ?_⟩
              exact ⟨_, _, _, rfl, st0, by split <;> omega, by split <;> omega, Nat.le_trans (cut_len _ _ _) hlen, cut_tok S6.tok _ _, S6⟩
            · refine ⟨_, rfl, rfl, _, rfl, ite2 (fun e => ?_) (fun e => elif6)⟩
              refine ⟨_, rfl, _, rfl, _, rfl, sz1 (by omega), 1, _, rfl, _, rfl, _, rfl, sz1 (by omega), by show 3 ≤ sizeLine; decide, fun p np => ?_⟩
              refine ⟨r, _, rfl, S6.reel.new np, .inr ⟨p, _, rfl, (S6.reel.ne np).symm, SqL.of upd_same, by show 0 < 3; decide, fun v H7 hv hb7 hR7 => ?_⟩⟩
              obtain ⟨k, hk, rfl⟩ := mem_ints (l := [0, (if ((now.length : Int)) < 1 then ((now.length : Int)) else 1), ((now.length : Int))]) hv
              have k0 : 0 ≤ k ∧ k ≤ (now.length : Int) := by
                simp only [List.mem_cons, List.not_mem_nil, or_false] at hk
                rcases hk with rfl | rfl | rfl
                · omega
                · split <;> omega
                · omega
              exact ⟨_, _, _, rfl, by decide, k0.1, k0.2, by omega, hno, (S6.new np (o := _)).mono hb7 hR7⟩
        · rintro σ H7 ⟨st, en, new, rfl, s0, s1, s2, hnew, hno, S7⟩
          have enw := len_cs new
          -- if len(now) + len(new) > 1990
          refine ⟨fun σ H' => ∃ (new : Str), σ = [some (.ref r), some (.str z), some (.int n), some (.ref l), some (.str now), some (.int near), some (.int (0 + (i : Int))), some (.int form), some (.int st), some (.int en), some (.str new)] ∧ (cs now).length + (cs new).length ≤ 2000 ∧ (cs new).length ≤ 2000 ∧ TOk new ∧ RowSt r l H i z now H', ?_, ?_⟩
          · refine ⟨_, rfl, _, rfl, sz1 (by omega), _, rfl, _, rfl, sz1 (by omega), _, _, rfl, rfl, _, _, rfl, rfl, _, rfl, ite2 (fun e => ?_) (fun e => ?_)⟩
            · exact ⟨_, rfl, by show _ + 0 ≤ _; omega, by show 0 ≤ 2000; decide, tok_of (by decide +kernel), S7⟩
            · have h1 : ¬ (1990 : Int) < (now.length : Int) + (new.length : Int) := fun h => e (decide_eq_true h)
              exact ⟨_, rfl, by omega, hnew, hno, S7⟩
          · rintro σ H8 ⟨new, rfl, hn2, hn3, hno, S8⟩
            have enw := len_cs new
            obtain ⟨⟨us, es, u1, u2, u3, u4, u5, u6⟩, hne, hbt, hR8, _, htok⟩ := S8
            have ul := paired_len u2
            -- edits.append((start, end, new))
            refine ⟨.ref l, rfl, .inl ⟨rfl, _, SqL.of u1⟩, _, rfl, _, rfl, _, rfl, by show 3 ≤ sizeLine; decide, fun t nt => ?_⟩
            have lt : l ≠ t := ne_of_none u1 nt
            have u1' : (upd H8 t (.tup [.int st, .int en, .str new])) l = some (.lst us) := by rw [upd_ne lt]; exact u1
            refine ⟨l, us, .ref t, rfl, rfl, u1', sz2 (by omega), ?_⟩
            have tp : Tups H8 (upd (upd H8 t (.tup [.int st, .int en, .str new])) l (.lst (us ++ [.ref t]))) := (Tups.new nt).trans (Tups.mut u1')
            have hfit : fit1 (appl (cs z) es).length (st, en, new) := by
              rw [u6]
              exact ⟨s0, s1, by show en ≤ ((cs now).length : Int); omega⟩
            have S9 : (∃ vs es, (upd (upd H8 t (.tup [.int st, .int en, .str new])) l (.lst (us ++ [.ref t]))) l = some (.lst vs) ∧ EdsIn (upd (upd H8 t (.tup [.int st, .int en, .str new])) l (.lst (us ++ [.ref t]))) vs es ∧ es.length = i + 1 ∧ (∀ e ∈ es, EdBd e) ∧ fitsL (cs z).length es ∧ appl (cs z) es = spl1 (cs now) (st, en, new)) ∧ But r H (upd (upd H8 t (.tup [.int st, .int en, .str new])) l (.lst (us ++ [.ref t]))) ∧ ReelAt (upd (upd H8 t (.tup [.int st, .int en, .str new])) l (.lst (us ++ [.ref t]))) r := by
              refine ⟨⟨us ++ [.ref t], es ++ [(st, en, new)], upd_same, paired_app (u2.mono tp) (.cons ⟨t, rfl, ?_⟩ .nil), ?_, ?_, ?_, ?_⟩, ?_, ?_⟩
              · rw [upd_ne lt.symm, upd_same]
              · rw [List.length_append, u3]
                rfl
              · intro e he
                rcases List.mem_append.mp he with he | he
                · exact u4 e he
                · rw [List.mem_singleton.mp he]
                  exact ⟨s0, s1, hn3, hno⟩
              · rw [appl_len u5] at hfit
                exact (fitsL_snoc _ _ _).mpr ⟨u5, hfit⟩
              · rw [appl_snoc, u6]
              · exact fun b o nb e => by
                  have e8 := hbt b o nb e
                  rw [upd_ne (ne_of_none e nl), upd_ne (ne_of_none e8 nt)]
                  exact e8
              · obtain ⟨z1, c1, e1, e2⟩ := hR8
                exact ⟨z1, c1, by rw [upd_ne hne.symm, upd_ne (ne_of_none e1 nt)]; exact e1, e2⟩
            obtain ⟨⟨vs9, es9, q1, q2, q3, q4, q5, q6⟩, b9, r9⟩ := S9
            -- near
            refine ⟨_, rfl, _, rfl, _, rfl, _, rfl, sz1 (by omega), _, 1, rfl, rfl, r, _, rfl, r9, by omega, fun d H10 d0 d1 hb10 hR10 => ?_⟩
            refine ⟨st, d, rfl, rfl, ?_⟩
            -- now
            refine ⟨_, rfl, _, rfl, _, rfl, now, rfl, sz1 (by omega), _, rfl, _, _, rfl, rfl, ?_, _, rfl, _, rfl, _, rfl, now, rfl, sz1 (by omega), _, _, rfl, rfl, ?_, ?_⟩
            · have h1 := cutS_length now none (some st)
              exact sz1 (by omega)
            · have h1 := cutS_length now none (some st)
              have h2 := cutS_length now (some en) none
              have h3 : (cutS now none (some st) ++ new).length = (cutS now none (some st)).length + new.length := by
                rw [len_cs, len_cs, len_cs, cs_app, List.length_append]
              exact sz1 (by omega)
            · obtain ⟨a, rfl⟩ := nat_of s0
              obtain ⟨b, rfl⟩ := nat_of (show 0 ≤ en by omega)
              refine ⟨_, _, _, _, _, _, _, rfl, ⟨vs9, es9, hb10 l _ hne q1, q2.mono (hb10.tups r9), q3, q4, q5, ?_⟩, hne, b9.trans hb10, hR10, ?_, ?_⟩
              · rw [q6, cs_splice]
                rfl
              · rw [cs_splice]
                exact Nat.le_trans (spliceL_len (by omega)) hn2
              · intro c hc
                rw [cs_splice] at hc
                exact spl_tok htok hno c hc
    · rintro σ H1 ⟨now, near, y6, y7, y8, y9, y10, rfl, S1⟩
      obtain ⟨⟨vs, es, e1, e2, e3, e4, e5, e6⟩, n1, b0, r0, ln, tk⟩ := S1
      exact ⟨_, rfl, q l H1 vs es nl e1 e2 (by omega) e4 e5 (by rw [← appl_len e5, e6]; exact ln) b0 r0⟩
theorem ok_edit_row (T : Txt K mg) : FnOk P w K mg base CX0 5 T.a_law_edit_row T.fd_law_edit_row ["reel", "text", "count"] spRow :=
  (ok_edit_row2 T).imp fun _ _ _ _ ⟨r, z, n, e, h1, h2, h3, h4, h5, q⟩ => ⟨r, z, n, e, h1, h2, h3, h4, h5, fun l H' us es k1 k2 k3 k4 k5 k6 _ k7 k8 => q l H' us es k1 k2 k3 k4 k5 k6 k7 k8⟩

/-! ### planted edits -/
theorem cutV_pre (xs : List V) (a : Nat) : cutV xs none (some (a : Int)) = xs.take a := by
  unfold cutV
  rw [HT.sIx_nat, HT.sIx_none, List.drop_zero, Nat.sub_zero, ← List.take_eq_take_min]
theorem cutV_suf (xs : List V) (a : Nat) : cutV xs (some (a : Int)) none = xs.drop a := by
  unfold cutV
  rw [HT.sIx_nat, HT.sIx_none, List.take_of_length_le (by rw [List.length_drop]; exact Nat.le_refl _)]
  by_cases h : a ≤ xs.length
  · rw [Nat.min_eq_left h]
  · rw [Nat.min_eq_right (by omega), List.drop_eq_nil_of_le (Nat.le_refl _), List.drop_eq_nil_of_le (by omega)]
theorem fitsL_get : ∀ {n i : Nat} {es : List Ed} {e : Ed}, fitsL n es → es[i]? = some e → fit1 (sizeL n (es.take i)) e
  | _, _, [], _, _, h => by simp at h
  | n, 0, x :: r, e, h, g => by
    have q := Option.some.inj g
    subst q
    exact h.1
  | n, i + 1, x :: r, e, h, g => fitsL_get (n := size1 n x) (i := i) (es := r) h.2 (by simpa using g)
/-- edits with texts of at most 2000 signs -/
def Short (es : List Ed) : Prop := ∀ e ∈ es, e.len ≤ 2000 ∧ TOk e.2.2

def spUnfit : Sp := fun vs H Q _ => ∃ (r : Addr) (n : Int), vs = [.ref r, .int n] ∧ ReelAt H r ∧ 0 ≤ n ∧ ∀ v H' (e : Ed), EdAt H' v e → e.len ≤ 2 → TOk e.2.2 → But r H H' → ReelAt H' r → Q v H'
theorem ok_unfit (T : Txt K mg) : FnOk P w K mg base CX0 4 T.a_law_unfit T.fd_law_unfit ["reel", "size"] spUnfit := by
  have G_law_draw : FnOk P w K mg base CX0 1 T.a_law_draw T.fd_law_draw ["reel", "size"] spDraw := ok_draw T
  have G_law_pick : FnOk P w K mg base CX0 2 T.a_law_pick T.fd_law_pick ["reel", "row"] (spPick K) := ok_pick T
  have G_law_word : FnOk P w K mg base CX0 3 T.a_law_word T.fd_law_word ["reel", "letters", "least", "most"] spWord := ok_word T
  refine T.F_law_unfit.ok sc_law_unfit (fun vs H Q E h => ?_) (fun cdv A outer s H vs Q E hr h => ?_)
  · obtain ⟨r, n, rfl, _⟩ := h
    rfl
  · have hr_law_draw : Room 1 _ := hr.mono (by decide)
    have hr_law_pick : Room 2 _ := hr.mono (by decide)
    have hr_law_word : Room 3 _ := hr
    obtain ⟨r, n, rfl, hr0, hn, q⟩ := h
    refine ⟨_, (pss_cons (ps_set (i := 2) sc_law_unfit.nd rfl (.inl rfl) (pe_call G_law_pick hr_law_pick (by rfl) T.g_law_pick T.F_law_pick.kp T.b_law_pick .nil pass0 (pa_cons (pv 0) (pa_cons (pe_lst (pa_cons pe_int (pa_cons pe_int (pa_cons pe_int (pa_cons pe_int (pa_cons (pe_op op_pow pe_int pe_int) (pa_cons (pe_op op_pow pe_int pe_int) pa_nil))))))) pa_nil))))
      (pss_cons (ps_set (i := 3) sc_law_unfit.nd rfl (.inl rfl) (pe_call G_law_word hr_law_word (by rfl) T.g_law_word T.F_law_word.kp T.b_law_word .nil pass0 (pa_cons (pv 0) (pa_cons pe_str (pa_cons pe_int (pa_cons pe_int pa_nil))))))
      (pss_cons (ps_set (i := 4) sc_law_unfit.nd rfl (.inl rfl) (pe_call G_law_draw hr_law_draw (by rfl) T.g_law_draw T.F_law_draw.kp T.b_law_draw .nil pass0 (pa_cons (pv 0) (pa_cons (pe_op op_add (pv 1) pe_int) pa_nil))))
      (pss_cons (ps_set (i := 5) sc_law_unfit.nd rfl (.inl rfl) (pe_call G_law_draw hr_law_draw (by rfl) T.g_law_draw T.F_law_draw.kp T.b_law_draw .nil pass0 (pa_cons (pv 0) (pa_cons pe_int pa_nil))))
      (pss_cons (ps_if (pt_cmpR op_eq (pv 5) pe_int (nomark _)) (pss_one (ps_ret (pe_tup (pa_cons (pe_op op_sub pe_int (pv 2)) (pa_cons (pv 4) (pa_cons (pv 3) pa_nil)))))) pss_nil)
      (pss_cons (ps_if (pt_cmpR op_eq (pv 5) pe_int (nomark _)) (pss_one (ps_ret (pe_tup (pa_cons (pv 4) (pa_cons (pe_op op_add (pv 1) (pv 2)) (pa_cons (pv 3) pa_nil)))))) pss_nil)
      (pss_cons (ps_if (pt_cmpR op_eq (pv 5) pe_int (nomark _)) (pss_one (ps_ret (pe_tup (pa_cons (pe_op op_add (pv 1) (pv 2)) (pa_cons (pe_op op_add (pv 1) (pv 2)) (pa_cons (pv 3) pa_nil)))))) pss_nil)
      (pss_cons (ps_if (pt_cmpR op_eq (pv 5) pe_int (nomark _)) (pss_one (ps_ret (pe_tup (pa_cons (pe_op op_sub pe_int (pv 2)) (pa_cons (pe_op op_sub pe_int (pv 2)) (pa_cons (pv 3) pa_nil)))))) pss_nil)
      (pss_cons (ps_if (pt_cmpR op_eq (pv 5) pe_int (nomark _)) (pss_one (ps_ret (pe_tup (pa_cons (pe_op op_add (pv 4) (pv 2)) (pa_cons (pv 4) (pa_cons (pv 3) pa_nil)))))) pss_nil)
      (pss_one (ps_ret (pe_tup (pa_cons (pv 4) (pa_cons (pe_op op_sub (pv 4) (pv 2)) (pa_cons (pv 3) pa_nil))))))))))))))), ?_⟩
    refine ⟨_, rfl, 10, 9, rfl, rfl, ⟨by decide, by decide, by decide⟩, 10, 30, rfl, rfl, ⟨by decide, by decide, by decide⟩, by show 6 ≤ sizeLine; decide, fun p np => ?_⟩
    refine ⟨r, _, rfl, hr0.new np, .inr ⟨p, _, rfl, (hr0.ne np).symm, SqL.of upd_same, by show 0 < 6; decide, fun v H1 hv hb1 hR1 => ?_⟩⟩
    obtain ⟨k, hk, rfl⟩ := mem_ints (l := [1, 1, 2, 9, 10 ^ (9 : Int).toNat, 10 ^ (30 : Int).toNat]) hv
    refine ⟨_, rfl, r, _, 0, 2, rfl, hR1, by decide +kernel, by decide +kernel, by decide, by decide, by decide, fun x H2 x0 x1 xz hb2 hR2 => ?_⟩
    refine ⟨_, rfl, _, rfl, n, 1, rfl, rfl, r, _, rfl, hR2, by omega, fun pl H3 p0 p1 hb3 hR3 => ?_⟩
    refine ⟨_, rfl, r, _, rfl, hR3, by decide, fun f H4 f0 f1 hb4 hR4 => ?_⟩
    have hb : But r H H4 := (But.new np).trans (hb1.trans (hb2.trans (hb3.trans hb4)))
    have hx : (cs x).length ≤ 2 := by omega
    have fin : ∀ (a b : Int) (t : Addr), H4 t = none → Q (.ref t) (upd H4 t (.tup [.int a, .int b, .str x])) := fun a b t nt =>
      q _ _ (a, b, x) ⟨t, rfl, upd_same⟩ hx (fun c hc => (tok_of (by decide +kernel) : TOk _) c (xz c hc)) (hb.trans (But.new nt)) (hR4.new nt)
    refine ⟨_, rfl, rfl, _, rfl, ite2 (fun e => ?_) (fun e => ?_)⟩
    · exact ⟨_, rfl, 0, k, rfl, rfl, _, rfl, _, rfl, by show 3 ≤ sizeLine; decide, fun t nt => fin _ _ t nt⟩
    refine ⟨_, rfl, rfl, _, rfl, ite2 (fun e => ?_) (fun e => ?_)⟩
    · exact ⟨_, rfl, _, rfl, _, rfl, n, k, rfl, rfl, _, rfl, by show 3 ≤ sizeLine; decide, fun t nt => fin _ _ t nt⟩
    refine ⟨_, rfl, rfl, _, rfl, ite2 (fun e => ?_) (fun e => ?_)⟩
    · exact ⟨_, rfl, _, rfl, n, k, rfl, rfl, _, rfl, _, rfl, n, k, rfl, rfl, _, rfl, by show 3 ≤ sizeLine; decide, fun t nt => fin _ _ t nt⟩
    refine ⟨_, rfl, rfl, _, rfl, ite2 (fun e => ?_) (fun e => ?_)⟩
    · exact ⟨_, rfl, 0, k, rfl, rfl, _, rfl, 0, k, rfl, rfl, _, rfl, by show 3 ≤ sizeLine; decide, fun t nt => fin _ _ t nt⟩
    refine ⟨_, rfl, rfl, _, rfl, ite2 (fun e => ?_) (fun e => ?_)⟩
    · exact ⟨_, rfl, _, rfl, pl, k, rfl, rfl, _, rfl, _, rfl, by show 3 ≤ sizeLine; decide, fun t nt => fin _ _ t nt⟩
    · exact ⟨_, rfl, _, rfl, _, rfl, pl, k, rfl, rfl, _, rfl, by show 3 ≤ sizeLine; decide, fun t nt => fin _ _ t nt⟩
def spPlanted : Sp := fun vs H Q _ => ∃ (r l : Addr) (z : Str) (m : Int) (us : List V) (es : List Ed), vs = [.ref r, .str z, .ref l, .int m] ∧ ReelAt H r ∧ H l = some (.lst us) ∧ l ≠ r ∧ EdsIn H us es ∧ Short es ∧ fitsL (cs z).length es ∧
  (cs z).length ≤ 2000 ∧ es.length ≤ 1000 ∧ 0 ≤ m ∧ m ≤ 1000 ∧
  ∀ l' H' us' es', H' l' = some (.lst us') → l' ≠ r → EdsIn H' us' es' → es'.length ≤ es.length + m.toNat → Short es' → But r H H' → ReelAt H' r → Q (.ref l') H'
/-- a list of ints that are not below 0 -/
def nats (l : List Nat) : List V := l.map fun (n : Nat) => V.int (n : Int)
theorem nats_snoc (l : List Nat) (n : Nat) : nats l ++ [V.int (n : Int)] = nats (l ++ [n]) := by
  unfold nats
  rw [List.map_append]
  rfl
theorem nats_get {l : List Nat} {i : Nat} (h : i < l.length) : ∃ n : Nat, (nats l)[i]? = some (.int (n : Int)) := by
  refine ⟨l[i], ?_⟩
  unfold nats
  rw [List.getElem?_map, List.getElem?_eq_getElem h]
  rfl
theorem ok_planted (T : Txt K mg) : FnOk P w K mg base CX0 5 T.a_law_planted T.fd_law_planted ["reel", "text", "edits", "many"] spPlanted := by
  have G_law_draw : FnOk P w K mg base CX0 1 T.a_law_draw T.fd_law_draw ["reel", "size"] spDraw := ok_draw T
  have G_law_unfit : FnOk P w K mg base CX0 4 T.a_law_unfit T.fd_law_unfit ["reel", "size"] spUnfit := ok_unfit T
  refine T.F_law_planted.ok sc_law_planted (fun vs H Q E h => ?_) (fun cdv A outer s H vs Q E hr h => ?_)
  · obtain ⟨r, l, z, m, us, es, rfl, _⟩ := h
    rfl
  · have hr_law_draw : Room 1 _ := hr.mono (by decide)
    have hr_law_unfit : Room 4 _ := hr
    obtain ⟨r, l, z, m, us, es, rfl, hr0, hl, hlr, hes, hsh, hfit, hz, hn, hm0, hm1, q⟩ := h
    refine ⟨_, (pss_cons (ps_set (i := 4) sc_law_planted.nd rfl (.inl rfl) (pe_lst (pa_cons (pe_callB call_len_str (by rfl) T.m_len PySem.boot_len (pa_cons (pv 1) pa_nil)) pa_nil)))
      (pss_cons (ps_for PassesOwn.never rfl (pi_list (pv 2)) (pg_name (i := 5) sc_law_planted.nd rfl (.inl rfl)) (pss_one (ps_expr (pe_bm PySem.F.plainAttrs_list PySem.F.slot_list_append PySem.F.type_list_append mt_append (pv 4) (pa_cons (pe_op op_add (pe_op op_sub (pe_ix ix_list (pv 4) (pe_un un_neg pe_int) (fun _ _ => rfl)) (pe_op op_sub (pe_ix ix_tup (pv 5) pe_int (fun _ _ => rfl)) (pe_ix ix_tup (pv 5) pe_int (fun _ _ => rfl)))) (pe_callB call_len (by rfl) T.m_len PySem.boot_len (pa_cons (pe_ix ix_tup (pv 5) pe_int (fun _ _ => rfl)) pa_nil))) pa_nil)))))
      (pss_cons (ps_set (i := 6) sc_law_planted.nd rfl (.inl rfl) (pe_callTy call_list_of (by rfl) T.m_list (by decide +kernel) (pa_cons (pv 2) pa_nil)))
      (pss_cons (ps_for PassesOwn.never rfl (pi_range1 (by rfl) T.m_range (pa_cons (pv 3) pa_nil)) (pg_name (i := 7) sc_law_planted.nd rfl (.inl rfl)) (pss_cons (ps_set (i := 8) sc_law_planted.nd rfl (.inl rfl) (pe_call G_law_draw hr_law_draw (by rfl) T.g_law_draw T.F_law_draw.kp T.b_law_draw .nil pass0 (pa_cons (pv 0) (pa_cons (pe_callB (call_min2 rfl) (by rfl) T.m_min (by decide +kernel) (pa_cons pe_int (pa_cons (pe_callB call_len_seq (by rfl) T.m_len PySem.boot_len (pa_cons (pv 4) pa_nil)) pa_nil))) pa_nil))))
      (pss_one (ps_set (i := 6) sc_law_planted.nd rfl (.inl rfl) (pe_op op_cat (pe_op op_cat (pe_slice sl_list (pv 6) po_none (po_some (pv 8))) (pe_lst (pa_cons (pe_call G_law_unfit hr_law_unfit (by rfl) T.g_law_unfit T.F_law_unfit.kp T.b_law_unfit .nil pass0 (pa_cons (pv 0) (pa_cons (pe_ix ix_list (pv 4) (pv 8) (fun _ _ => rfl)) pa_nil))) pa_nil))) (pe_slice sl_list (pv 6) (po_some (pe_op op_add (pv 8) pe_int)) po_none))))))
      (pss_one (ps_ret (pv 6))))))), ?_⟩
    have elz := len_cs z
    have hle := paired_len hes
    -- sizes = [len(text)]
    refine ⟨_, rfl, _, rfl, sz1 (by omega), by show 1 ≤ sizeLine; decide, fun p np => ?_⟩
    have lp : l ≠ p := ne_of_none hl np
    -- for edit in edits
    refine ⟨_, rfl, l, rfl, ⟨_, SqL.of (by rw [upd_ne lp]; exact hl)⟩, ?_⟩
    refine for_list (K := K) (a := l) (xs := us) (fun i σ H' => ∃ y6 y7 y8 y9, σ = [some (.ref r), some (.str z), some (.ref l), some (.int m), some (.ref p), y6, y7, y8, y9] ∧ Same H H' ∧ ∃ ini : List Nat, H' p = some (.lst (nats (ini ++ [sizeL (cs z).length (es.take i)]))) ∧ ini.length = i)
      ⟨none, none, none, none, rfl, same_upd np, [], (by rw [upd_same, elz] <;> rfl), rfl⟩ (fun i σ H' _ ⟨_, _, _, _, _, sm, _⟩ => sm.seq (SqL.of hl)) ?_ ?_
    · rintro i x σ H1 hx ⟨y6, y7, y8, y9, rfl, sm, ini, hp, hi⟩
      obtain ⟨e, he⟩ : ∃ e, es[i]? = some e := ⟨_, List.getElem?_eq_getElem (by rw [← hle]; exact (List.getElem?_eq_some_iff.mp hx).1)⟩
      obtain ⟨x', hx', t, rfl, ht⟩ := paired_get hes he
      rw [hx] at hx'
      have h1 := Option.some.inj hx'
      subst h1
      have ht1 := sm t _ ht
      have hf := fitsL_get hfit he
      have hlen := (hsh e (List.mem_of_getElem? he)).1
      have le := len_cs e.2.2
      refine ⟨.ref p, rfl, .inl ⟨rfl, _, SqL.of hp⟩, _, rfl, 1, rfl, p, _, _, _, rfl, rfl, SqL.of hp, (by rw [← nats_snoc]; exact atI_last _ _), ?_⟩
      refine ⟨_, rfl, t, _, 1, .int e.2.1, rfl, rfl, SqT.of ht1, atI_nat (j := 1) rfl, _, rfl, t, _, 0, .int e.1, rfl, rfl, SqT.of ht1, atI_nat (j := 0) rfl, _, _, rfl, rfl, _, _, rfl, rfl, ?_⟩
      refine ⟨_, rfl, t, _, 2, .str e.2.2, rfl, rfl, SqT.of ht1, atI_nat (j := 2) rfl, _, _, rfl, ⟨sz1 (by rw [le]; exact Nat.le_trans hlen (by decide)), rfl⟩, _, _, rfl, rfl, ?_⟩
      refine ⟨p, _, _, rfl, rfl, hp, ?_, ?_⟩
      · unfold nats
        rw [List.length_map, List.length_append]
        have : i < es.length := (List.getElem?_eq_some_iff.mp he).1
        exact sz2 (by simp only [List.length_singleton]; omega)
      · refine ⟨_, _, _, _, rfl, same_mut sm np, ini ++ [sizeL (cs z).length (es.take i)], ?_, by rw [List.length_append, hi]; rfl⟩
        rw [upd_same, take_more he, sizeL_snoc, ← nats_snoc (ini ++ _)]
        have e3 : ((sizeL (cs z).length (es.take i) : Nat) : Int) - (e.2.1 - e.1) + (e.2.2.length : Int) = ((size1 (sizeL (cs z).length (es.take i)) e : Nat) : Int) := by
          obtain ⟨f1, f2, f3⟩ := hf
          have v4 : size1 (sizeL (cs z).length (es.take i)) e = sizeL (cs z).length (es.take i) - (e.2.1.toNat - e.1.toNat) + (cs e.2.2).length := rfl
          omega
        rw [← e3]
    · rintro σ H1 ⟨y6, y7, y8, y9, rfl, sm, ini, hp, hi⟩
      have hl1 := sm l _ hl
      have hR1 : ReelAt H1 r := by
        obtain ⟨z1, c1, e1, e2⟩ := hr0
        exact ⟨z1, c1, sm _ _ e1, e2⟩
      have hpr : p ≠ r := (hr0.ne np).symm
      -- rows = list(edits)
      refine ⟨_, rfl, l, us, rfl, .inl (SqL.of hl1), fun p2 np2 => ?_⟩
      refine ⟨_, rfl, m, rfl, by omega, by omega, ?_⟩
      refine for_range (lo := 0) (n := m.toNat) (fun i σ H' => ∃ (y6 y7 y8 : Option V) (rows : Addr) (us' : List V) (es' : List Ed), σ = [some (.ref r), some (.str z), some (.ref l), some (.int m), some (.ref p), y6, some (.ref rows), y7, y8] ∧ But r H H' ∧ ReelAt H' r ∧
          H' p = some (.lst (nats (ini ++ [sizeL (cs z).length (es.take us.length)]))) ∧ H' rows = some (.lst us') ∧ rows ≠ r ∧ EdsIn H' us' es' ∧ es'.length ≤ es.length + i ∧ Short es')
        ⟨_, _, _, p2, us, es, rfl, (But.of sm).trans (But.new np2), hR1.new np2, by rw [upd_ne (ne_of_none hp np2)]; exact hp, upd_same, (hR1.ne np2).symm, hes.mono ((show Tups H H1 from fun b xs e => sm b _ e).trans (Tups.new np2)), by omega, hsh⟩ ?_ ?_
      · rintro i σ H2 hi2 ⟨y6, y7, y8, rows, us', es', rfl, hb, hR, hp2, hrows, hrr, hed, hel, hsh'⟩
        have lini : (nats (ini ++ [sizeL (cs z).length (es.take us.length)])).length = us.length + 1 := by
          unfold nats
          rw [List.length_map, List.length_append, hi]
          rfl
        refine ⟨_, rfl, _, rfl, p, _, rfl, .inl (SqL.of hp2), 200, _, rfl, r, _, rfl, hR, by rw [lini]; split <;> omega, fun ax H3 a0 a1 hb3 hR3 => ?_⟩
        rw [lini] at a1
        obtain ⟨a, rfl⟩ := nat_of a0
        have ha : a < us.length + 1 := by split at a1 <;> omega
        have hrows3 := hb3 rows _ hrr hrows
        have hp3 := hb3 p _ hpr hp2
        have hed3 := hed.mono (hb3.tups hR)
        -- rows[:at]
        refine ⟨_, rfl, _, rfl, _, rfl, rows, us', rfl, SqL.of hrows3, fun c1 nc1 => ?_⟩
        rw [cutV_pre]
        obtain ⟨nm, hnm⟩ := nats_get (l := ini ++ [sizeL (cs z).length (es.take us.length)]) (i := a) (by unfold nats at lini; rw [List.length_map] at lini; omega)
        -- [_law_unfit(reel, sizes[at])]
        refine ⟨_, rfl, _, rfl, _, rfl, p, _, (a : Int), .int (nm : Int), rfl, rfl, SqL.of (by rw [upd_ne (ne_of_none hp3 nc1)]; exact hp3), atI_nat hnm, r, _, rfl, hR3.new nc1, by omega, fun v H4 e hv he heo hb4 hR4 => ?_⟩
        refine ⟨by show 1 ≤ sizeLine; decide, fun c2 nc2 => ?_⟩
        have c1r : c1 ≠ r := (hR3.ne nc1).symm
        have hc1 : H4 c1 = some (.lst (us'.take a)) := hb4 c1 _ c1r upd_same
        have lu := paired_len hed3
        have hc1' : (upd H4 c2 (.lst [v])) c1 = some (.lst (us'.take a)) := by rw [upd_ne (ne_of_none hc1 nc2)]; exact hc1
        refine ⟨c1, c2, us'.take a, [v], rfl, rfl, hc1', upd_same, sz1 (by rw [List.length_take]; show _ + 1 ≤ _; omega), fun c3 nc3 => ?_⟩
        -- rows[at + 1:]
        have b5 : But r (upd H3 c1 (.lst (us'.take a))) (upd (upd H4 c2 (.lst [v])) c3 (.lst (us'.take a ++ [v]))) := hb4.trans ((But.new nc2).trans (But.new nc3))
        have hrows5 : (upd (upd H4 c2 (.lst [v])) c3 (.lst (us'.take a ++ [v]))) rows = some (.lst us') := b5 rows _ hrr (by rw [upd_ne (ne_of_none hrows3 nc1)]; exact hrows3)
        refine ⟨_, rfl, _, rfl, (a : Int), 1, rfl, rfl, _, rfl, rows, us', rfl, SqL.of hrows5, fun c4 nc4 => ?_⟩
        have e1 : (a : Int) + 1 = ((a + 1 : Nat) : Int) := by omega
        rw [e1, cutV_suf]
        have n34 : c3 ≠ c4 := ne_of_none upd_same nc4
        refine ⟨c3, c4, us'.take a ++ [v], us'.drop (a + 1), rfl, rfl, by rw [upd_ne n34, upd_same], upd_same, sz1 (by rw [List.length_append, List.length_take, List.length_drop]; show _ + 1 + _ ≤ _; omega), fun c5 nc5 => ?_⟩
        have b6 := b5.trans ((But.new (o := .lst (us'.drop (a + 1))) nc4).trans (But.new (o := .lst (us'.take a ++ [v] ++ us'.drop (a + 1))) nc5))
        have b7 := (But.new (r := r) (o := .lst (us'.take a)) nc1).trans b6
        have t3 : Tups H3 (upd H3 c1 (.lst (us'.take a))) := Tups.new nc1
        have t4 := b6.tups (hR3.new nc1)
        have t5 : Tups H4 (upd (upd (upd (upd H4 c2 (.lst [v])) c3 (.lst (us'.take a ++ [v]))) c4 (.lst (us'.drop (a + 1)))) c5 (.lst (us'.take a ++ [v] ++ us'.drop (a + 1)))) := (Tups.new nc2).trans ((Tups.new nc3).trans ((Tups.new nc4).trans (Tups.new nc5)))
        have r5 := ((hR4.new (o := .lst [v]) nc2).new (o := .lst (us'.take a ++ [v])) nc3).new (o := .lst (us'.drop (a + 1))) nc4
        refine ⟨_, _, _, c5, _, es'.take a ++ [e] ++ es'.drop (a + 1), rfl, (hb.trans hb3).trans b7, r5.new nc5, b7 p _ hpr hp3, upd_same, (r5.ne nc5).symm, paired_app (paired_app (paired_take a (hed3.mono (t3.trans t4))) (.cons (hv.mono t5) .nil)) (paired_drop (a + 1) (hed3.mono (t3.trans t4))), ?_, ?_⟩
        · rw [List.length_append, List.length_append, List.length_take, List.length_drop]
          show _ + 1 + _ ≤ _
          have h9 : us.length = es.length := hle
          omega
        · intro x hx
          rcases List.mem_append.mp hx with hx | hx
          · rcases List.mem_append.mp hx with hx | hx
            · exact hsh' x (List.mem_of_mem_take hx)
            · rw [List.mem_singleton.mp hx]
              exact ⟨by omega, heo⟩
          · exact hsh' x (List.mem_of_mem_drop hx)
      · rintro σ H2 ⟨y6, y7, y8, rows, us', es', rfl, hb, hR, hp2, hrows, hrr, hed, hel, hsh'⟩
        exact ⟨_, rfl, q rows H2 us' es' hrows hrr hed hel hsh' hb hR⟩


/-! ### splicing, the way back, equal edits -/
def Lim (t : List Nat) (es : List Ed) : Prop := ∀ k, (appl t (es.take k)).length ≤ 4000000
def EdsAt (H : Hp) (l : Addr) (es : List Ed) : Prop := ∃ us, H l = some (.lst us) ∧ EdsIn H us es
theorem EdsAt.mono {H H' : Hp} {l : Addr} {es : List Ed} (h : EdsAt H l es) (s : Same H H') : EdsAt H' l es := by
  obtain ⟨us, h1, h2⟩ := h
  exact ⟨us, s _ _ h1, h2.mono fun b xs e => s b _ e⟩
theorem szM {n : Nat} (h : n ≤ 4000000) : n ≤ sizeLine := Nat.le_trans h (by decide)
theorem str_eq (x : Str) : (⟨(cs x).toArray⟩ : Str) = x := cs_inj rfl
theorem mkS_eq {x : Str} {l : List Nat} (h : cs x = l) : x = ⟨l.toArray⟩ := cs_inj h
/-- an edit that fits has places -/
theorem fit_nat {n : Nat} {e : Ed} (h : fit1 n e) : ∃ a b : Nat, e = ((a : Int), (b : Int), e.2.2) ∧ a ≤ b ∧ b ≤ n := by
  obtain ⟨x, y, s⟩ := e
  obtain ⟨h1, h2, h3⟩ := h
  simp only at h1 h2 h3
  obtain ⟨a, rfl⟩ := nat_of h1
  obtain ⟨b, rfl⟩ := nat_of (show 0 ≤ y by omega)
  exact ⟨a, b, rfl, by omega, by omega⟩
def spSplice : Sp := fun vs H Q _ => ∃ (z : Str) (l : Addr) (es : List Ed), vs = [.str z, .ref l] ∧ EdsAt H l es ∧ fitsL (cs z).length es ∧ Lim (cs z) es ∧ Q (.str ⟨(appl (cs z) es).toArray⟩) H
theorem cut_pre_len (z : Str) (a : Nat) : (cutS z none (some (a : Int))).length ≤ a := by
  rw [len_cs, cut_pre, List.length_take]
  exact Nat.min_le_left _ _
theorem spl_pre (t : List Nat) (a b : Nat) (s : List Nat) : (t.take a).length + s.length ≤ (spliceL t a b s).length := by
  unfold spliceL
  rw [List.length_append, List.length_append]
  omega
theorem ok_splice (T : Txt K mg) : FnOk P w K mg base CX0 1 T.a_law_splice T.fd_law_splice ["text", "edits"] spSplice := by
  refine T.F_law_splice.ok sc_law_splice (fun vs H Q E h => ?_) (fun cdv A outer s H vs Q E hr h => ?_)
  · obtain ⟨z, l, es, rfl, _⟩ := h
    rfl
  · obtain ⟨z, l, es, rfl, ⟨us, hl, hes⟩, hfit, hlim, q⟩ := h
    have hle := paired_len hes
    refine ⟨_, (pss_cons (ps_set (i := 2) sc_law_splice.nd rfl (.inl rfl) (pv 0))
      (pss_cons (ps_for PassesOwn.never rfl (pi_list (pv 1)) (pg_name (i := 3) sc_law_splice.nd rfl (.inl rfl)) (pss_one (ps_set (i := 2) sc_law_splice.nd rfl (.inl rfl) (pe_op op_add_str (pe_op op_add_str (pe_slice sl_str (pv 2) po_none (po_some (pe_ix ix_tup (pv 3) pe_int (fun _ _ => rfl)))) (pe_ix ix_tup (pv 3) pe_int (fun _ _ => rfl))) (pe_slice sl_str (pv 2) (po_some (pe_ix ix_tup (pv 3) pe_int (fun _ _ => rfl))) po_none)))))
      (pss_one (ps_ret (pv 2))))), ?_⟩
    refine ⟨_, rfl, ?_⟩
    refine ⟨_, rfl, l, rfl, ⟨_, SqL.of hl⟩, ?_⟩
    refine for_list (K := K) (a := l) (xs := us) (fun i σ H' => H' = H ∧ ∃ (now : Str) (y3 : Option V), σ = [some (.str z), some (.ref l), some (.str now), y3] ∧ cs now = appl (cs z) (es.take i))
      ⟨rfl, z, none, rfl, rfl⟩ (fun i σ H' _ ⟨e, _⟩ => by rw [e]; exact SqL.of hl) ?_ ?_
    · rintro i x σ H1 hx ⟨rfl, now, y3, rfl, hnow⟩
      obtain ⟨e, he⟩ : ∃ e, es[i]? = some e := ⟨_, List.getElem?_eq_getElem (by rw [← hle]; exact (List.getElem?_eq_some_iff.mp hx).1)⟩
      obtain ⟨x', hx', t, rfl, ht⟩ := paired_get hes he
      rw [hx] at hx'
      have h1 := Option.some.inj hx'
      subst h1
      have hf := fitsL_get hfit he
      rw [← appl_len (fitsL_take i hfit), ← hnow] at hf
      obtain ⟨a, b, hab, h2, h3⟩ := fit_nat hf
      have lim1 := hlim (i + 1)
      rw [take_more he, appl_snoc, ← hnow] at lim1
      rw [hab] at ht lim1
      have lim2 : (spliceL (cs now) a b (cs e.2.2)).length ≤ 4000000 := lim1
      have lim0 := hlim i
      rw [← hnow] at lim0
      have sp := spl_pre (cs now) a b (cs e.2.2)
      have l1 : (cutS now none (some (a : Int))).length = ((cs now).take a).length := by rw [len_cs, cut_pre]
      refine ⟨_, rfl, _, rfl, t, _, 0, .int (a : Int), rfl, rfl, SqT.of ht, atI_nat (j := 0) rfl, _, rfl, now, rfl, szM (by rw [len_cs]; exact lim0), ?_⟩
      refine ⟨_, rfl, t, _, 2, .str e.2.2, rfl, rfl, SqT.of ht, atI_nat (j := 2) rfl, _, _, rfl, rfl, szM (by rw [l1, len_cs]; omega), ?_⟩
      refine ⟨_, rfl, _, rfl, t, _, 1, .int (b : Int), rfl, rfl, SqT.of ht, atI_nat (j := 1) rfl, _, rfl, now, rfl, szM (by rw [len_cs]; exact lim0), ?_⟩
      refine ⟨_, _, rfl, rfl, ?_, rfl, _, _, rfl, ?_⟩
      · have h9 : (cutS now none (some (a : Int)) ++ e.2.2 ++ cutS now (some (b : Int)) none).length = (cutS now none (some (a : Int)) ++ e.2.2).length + (cutS now (some (b : Int)) none).length := by
          rw [len_cs, len_cs, len_cs, cs_app, List.length_append]
        rw [← h9, len_cs, cs_splice]
        exact szM lim2
      · rw [cs_splice, take_more he, appl_snoc, ← hnow]
        rw [hab]
        rfl
    · rintro σ H1 ⟨rfl, now, y3, rfl, hnow⟩
      rw [hle, List.take_length] at hnow
      refine ⟨_, rfl, ?_⟩
      rw [mkS_eq hnow]
      exact q

/-- the answer of the search for the first edit that does not fit -/
def unfitI (n : Nat) (es : List Ed) : Int := match unfit n es with
  | some k => (k : Int)
  | none => -1
theorem unfit_here : ∀ {n i : Nat} {es : List Ed} {e : Ed}, fitsL n (es.take i) → es[i]? = some e → ¬ fit1 (sizeL n (es.take i)) e → unfit n es = some i
  | _, _, [], _, _, h, _ => by simp at h
  | n, 0, x :: r, e, _, g, h => by
    have q := Option.some.inj g
    subst q
    show (if fit1 n x then (unfit (size1 n x) r).map (· + 1) else some 0) = some 0
    rw [if_neg (show ¬ fit1 n x from h)]
  | n, i + 1, x :: r, e, f, g, h => by
    have ih := unfit_here (n := size1 n x) (i := i) (es := r) f.2 (by simpa using g) h
    show (if fit1 n x then (unfit (size1 n x) r).map (· + 1) else some 0) = some (i + 1)
    rw [if_pos f.1, ih]
    rfl
def spFirst : Sp := fun vs H Q _ => ∃ (n : Nat) (l : Addr) (es : List Ed), vs = [.int (n : Int), .ref l] ∧ EdsAt H l es ∧ Short es ∧ es.length ≤ 100000 ∧ Q (.int (unfitI n es)) H
theorem ok_first (T : Txt K mg) : FnOk P w K mg base CX0 1 T.a_law_first_unfit T.fd_law_first_unfit ["size", "edits"] spFirst := by
  refine T.F_law_first_unfit.ok sc_law_first_unfit (fun vs H Q E h => ?_) (fun cdv A outer s H vs Q E hr h => ?_)
  · obtain ⟨z, l, es, rfl, _⟩ := h
    rfl
  · obtain ⟨n, l, es, rfl, ⟨us, hl, hes⟩, hsh, hn, q⟩ := h
    have hle := paired_len hes
    refine ⟨_, (pss_cons (ps_set (i := 2) sc_law_first_unfit.nd rfl (.inl rfl) (pv 0))
      (pss_cons (ps_for PassesOwn.never rfl (pi_range1 (by rfl) T.m_range (pa_cons (pe_callB call_len_seq (by rfl) T.m_len PySem.boot_len (pa_cons (pv 1) pa_nil)) pa_nil)) (pg_name (i := 3) sc_law_first_unfit.nd rfl (.inl rfl)) (pss_cons (ps_set (i := 4) sc_law_first_unfit.nd rfl (.inl rfl) (pe_ix ix_tup (pe_ix ix_list (pv 1) (pv 3) (fun _ _ => rfl)) pe_int (fun _ _ => rfl)))
      (pss_cons (ps_set (i := 5) sc_law_first_unfit.nd rfl (.inl rfl) (pe_ix ix_tup (pe_ix ix_list (pv 1) (pv 3) (fun _ _ => rfl)) pe_int (fun _ _ => rfl)))
      (pss_cons (ps_if (PW.pt (pw_or (pt_cmpR op_lt (pv 4) pe_int (nomark _)) (pw_or (pt_cmpR op_lt (pv 5) (pv 4) (nomark _)) (pw_or1 (pt_cmpR op_gt (pv 5) (pv 2) (nomark _)))))) (pss_one (ps_ret (pv 3))) pss_nil)
      (pss_one (ps_set (i := 2) sc_law_first_unfit.nd rfl (.inl rfl) (pe_op op_add (pe_op op_sub (pv 2) (pe_op op_sub (pv 5) (pv 4))) (pe_callB call_len (by rfl) T.m_len PySem.boot_len (pa_cons (pe_ix ix_tup (pe_ix ix_list (pv 1) (pv 3) (fun _ _ => rfl)) pe_int (fun _ _ => rfl)) pa_nil)))))))))
      (pss_one (ps_ret (pe_un un_neg pe_int))))), ?_⟩
    refine ⟨_, rfl, ?_⟩
    refine ⟨_, rfl, l, _, rfl, .inl (SqL.of hl), _, rfl, by omega, by omega, ?_⟩
    refine for_range (lo := 0) (n := ((us.length : Int)).toNat) (fun i σ H' => H' = H ∧ ∃ (y3 y4 y5 : Option V), σ = [some (.int (n : Int)), some (.ref l), some (.int ((sizeL n (es.take i) : Nat) : Int)), y3, y4, y5] ∧ fitsL n (es.take i))
      ⟨rfl, none, none, none, rfl, True.intro⟩ ?_ ?_
    · rintro i σ H1 hi ⟨rfl, y3, y4, y5, rfl, hf⟩
      have hi' : i < es.length := by omega
      obtain ⟨e, he⟩ : ∃ e, es[i]? = some e := ⟨_, List.getElem?_eq_getElem hi'⟩
      obtain ⟨x', hx', t, rfl, ht⟩ := paired_get hes he
      have len2 := hsh e (List.mem_of_getElem? he)
      have at1 : atI us (0 + (i : Int)) = some (.ref t) := at_of (j := i) (by omega) hx'
      refine ⟨_, rfl, _, rfl, l, _, _, _, rfl, rfl, SqL.of hl, at1, t, _, 0, .int e.1, rfl, rfl, SqT.of ht, atI_nat (j := 0) rfl, ?_⟩
      refine ⟨_, rfl, _, rfl, l, _, _, _, rfl, rfl, SqL.of hl, at1, t, _, 1, .int e.2.1, rfl, rfl, SqT.of ht, atI_nat (j := 1) rfl, ?_⟩
      have bad : ¬ fit1 (sizeL n (es.take i)) e → Q (.int (0 + (i : Int))) H1 := fun h => by
        have h1 := unfit_here hf he h
        have h2 : unfitI n es = 0 + (i : Int) := by
          unfold unfitI
          rw [h1]
          show (i : Int) = 0 + (i : Int)
          omega
        rw [← h2]
        exact q
      refine ⟨_, rfl, e.1, 0, rfl, rfl, _, rfl, ite2 (fun c => ?_) (fun c => ?_)⟩
      · refine iteT ⟨_, rfl, bad fun f => ?_⟩
        have := of_decide_eq_true c
        have := f.1
        omega
      · refine ⟨_, rfl, _, rfl, e.2.1, e.1, rfl, rfl, _, rfl, ite2 (fun c2 => ?_) (fun c2 => ?_)⟩
        · refine iteT ⟨_, rfl, bad fun f => ?_⟩
          have := of_decide_eq_true c2
          have := f.2.1
          omega
        · refine ⟨_, rfl, _, rfl, e.2.1, _, rfl, rfl, _, rfl, ite2 (fun c3 => ?_) (fun c3 => ?_)⟩
          · refine ⟨_, rfl, bad fun f => ?_⟩
            have := of_decide_eq_true c3
            have := f.2.2
            omega
          · have f1 : fit1 (sizeL n (es.take i)) e := by
              have g1 : ¬ e.1 < 0 := fun h => c (decide_eq_true h)
              have g2 : ¬ e.2.1 < e.1 := fun h => c2 (decide_eq_true h)
              have g3 : ¬ ((sizeL n (es.take i) : Nat) : Int) < e.2.1 := fun h => c3 (decide_eq_true h)
              exact ⟨by omega, by omega, by omega⟩
            refine ⟨_, rfl, _, rfl, _, rfl, e.2.1, e.1, rfl, rfl, _, _, rfl, rfl, ?_⟩
            refine ⟨_, rfl, _, rfl, l, _, _, _, rfl, rfl, SqL.of hl, at1, t, _, 2, .str e.2.2, rfl, rfl, SqT.of ht, atI_nat (j := 2) rfl, _, _, rfl, ⟨sz1 (by rw [len_cs]; exact Nat.le_trans len2.1 (by decide)), rfl⟩, _, _, rfl, rfl, ?_⟩
            have e3 : ((sizeL n (es.take i) : Nat) : Int) - (e.2.1 - e.1) + (e.2.2.length : Int) = ((sizeL n (es.take (i + 1)) : Nat) : Int) := by
              obtain ⟨a1, a2, a3⟩ := f1
              rw [take_more he, sizeL_snoc]
              have v4 : size1 (sizeL n (es.take i)) e = sizeL n (es.take i) - (e.2.1.toNat - e.1.toNat) + (cs e.2.2).length := rfl
              have v5 := len_cs e.2.2
              omega
            refine ⟨rfl, some (.int (0 + (i : Int))), some (.int e.1), some (.int e.2.1), ?_, ?_⟩
            · rw [← e3]
              rfl
            · rw [take_more he]
              exact (fitsL_snoc _ _ _).mpr ⟨hf, f1⟩
    · rintro σ H1 ⟨rfl, y3, y4, y5, rfl, hf⟩
      rw [Int.toNat_natCast, hle, List.take_length] at hf
      have h1 : unfitI n es = -1 := by
        unfold unfitI
        rw [unfit_none.mpr hf]
      rw [h1] at q
      exact ⟨1, rfl, q⟩
/-- an edit as data -/


def edD (e : Ed) : PyData := .tuple [.int e.1, .int e.2.1, .str e.2.2]
theorem edD_lay {e : Ed} (h : TOk e.2.2) : (edD e).canLay0 = true := by
  have h1 : PyData.strOk e.2.2 = true := by
    unfold PyData.strOk
    rw [← Array.all_toList]
    exact List.all_eq_true.mpr fun c hc => decide_eq_true (h c hc)
  unfold edD
  simp [PyData.canLay0, PyData.canLayAll0, h1]
theorem edD_depth (e : Ed) : (edD e).depth ≤ 3 := by
  unfold edD
  simp [PyData.depth, PyData.depthAll]
theorem edD_shaped {e : Ed} (h : TOk e.2.2) : SeqAt.shaped (edD e) = true := by
  unfold SeqAt.shaped
  rw [edD_lay h]
  have := edD_depth e
  simp only [Bool.true_and, decide_eq_true_eq]
  omega
theorem EdAt.dp {H : Hp} {v : V} {e : Ed} (h : EdAt H v e) : Dp K H v (edD e) := by
  obtain ⟨t, rfl, ht⟩ := h
  exact .tup (SqT.of ht) (.cons (.int _) (.cons (.int _) (.cons (.str _) .nil)))

def spSame : Sp := fun vs H Q _ => ∃ (v1 v2 : V) (e : Ed), vs = [v1, v2] ∧ EdAt H v1 e ∧ EdAt H v2 e ∧ TOk e.2.2 ∧ Q (.bl true) H
theorem ok_same (T : Txt K mg) : FnOk P w K mg base CX0 2 T.a_law_same_edit T.fd_law_same_edit ["told", "due"] spSame := by
  have G_law_number : FnOk P w K mg base CX0 1 T.a_law_number T.fd_law_number ["value"] spNumber := ok_number T
  refine T.F_law_same_edit.ok sc_law_same_edit (fun vs H Q E h => ?_) (fun cdv A outer s H vs Q E hr h => ?_)
  · obtain ⟨v1, v2, e, rfl, _⟩ := h
    rfl
  · have hr_law_number : Room 1 _ := hr
    obtain ⟨v1, v2, e, rfl, h1, h2, ho, q⟩ := h
    obtain ⟨t, rfl, ht⟩ := id h1
    refine ⟨_, (pss_cons (ps_if (PW.pt (pw_or (pt_not (pt_val (pe_callB call_isi (by rfl) T.m_isinstance (by decide +kernel) (pa_cons (pv 0) (pa_cons (pe_bltn (v := .ty "tuple") (by rfl) T.m_tuple (by decide +kernel) rfl) pa_nil))))) (pw_or1 (pt_cmpR op_ne (pe_callB call_len_seq (by rfl) T.m_len PySem.boot_len (pa_cons (pv 0) pa_nil)) pe_int (nomark _))))) (pss_one (ps_ret pe_bl)) pss_nil)
      (pss_cons (ps_if (PW.pt (pw_or (pt_not (pt_val (pe_call G_law_number hr_law_number (by rfl) T.g_law_number T.F_law_number.kp T.b_law_number .nil pass0 (pa_cons (pe_ix ix_tup (pv 0) pe_int (fun _ _ => rfl)) pa_nil)))) (pw_or (pt_not (pt_val (pe_call G_law_number hr_law_number (by rfl) T.g_law_number T.F_law_number.kp T.b_law_number .nil pass0 (pa_cons (pe_ix ix_tup (pv 0) pe_int (fun _ _ => rfl)) pa_nil)))) (pw_or1 (pt_not (pt_val (pe_callB call_isi (by rfl) T.m_isinstance (by decide +kernel) (pa_cons (pe_ix ix_tup (pv 0) pe_int (fun _ _ => rfl)) (pa_cons (pe_bltn (v := .ty "str") (by rfl) T.m_str (by decide +kernel) rfl) pa_nil))))))))) (pss_one (ps_ret pe_bl)) pss_nil)
      (pss_one (ps_ret (pe_cmpR (op_eqD hr.units) (pv 0) (pv 1) (nomark _)))))), ?_⟩
    refine ⟨_, rfl, _, _, _, _, true, rfl, .ty _, .base (.tup ht), kit_ty (by decide +kernel), true, rfl, iteF ?_⟩
    refine ⟨_, rfl, t, _, rfl, .inr (SqT.of ht), rfl, _, rfl, iteF ?_⟩
    refine ⟨_, rfl, t, _, 0, .int e.1, rfl, rfl, SqT.of ht, atI_nat (j := 0) rfl, e.1, rfl, true, rfl, iteF ?_⟩
    refine ⟨_, rfl, t, _, 1, .int e.2.1, rfl, rfl, SqT.of ht, atI_nat (j := 1) rfl, e.2.1, rfl, true, rfl, iteF ?_⟩
    refine ⟨_, rfl, t, _, 2, .str e.2.2, rfl, rfl, SqT.of ht, atI_nat (j := 2) rfl, _, _, _, _, true, rfl, .ty _, .base (.str _), kit_ty (by decide +kernel), true, rfl, iteF ?_⟩
    refine ⟨_, rfl, _, rfl, edD e, edD e, h1.dp, h2.dp, edD_shaped ho, edD_shaped ho, ?_⟩
    rw [SeqAt.eqv_refl _ (edD_lay ho)]
    exact q

/-- two lists of the same edits -/
def spSames : Sp := fun vs H Q _ => ∃ (a b : Addr) (es : List Ed), vs = [.ref a, .ref b] ∧ EdsAt H a es ∧ EdsAt H b es ∧ (∀ e ∈ es, TOk e.2.2) ∧ es.length ≤ 100000 ∧ Q (.bl true) H
theorem ok_sames (T : Txt K mg) : FnOk P w K mg base CX0 3 T.a_law_same_edits T.fd_law_same_edits ["told", "due"] spSames := by
  have G_law_same_edit : FnOk P w K mg base CX0 2 T.a_law_same_edit T.fd_law_same_edit ["told", "due"] spSame := ok_same T
  refine T.F_law_same_edits.ok sc_law_same_edits (fun vs H Q E h => ?_) (fun cdv A outer s H vs Q E hr h => ?_)
  · obtain ⟨a, b, es, rfl, _⟩ := h
    rfl
  · have hr_law_same_edit : Room 2 _ := hr
    obtain ⟨a, b, es, rfl, ⟨us, ha, hua⟩, ⟨ws, hb, hwb⟩, ho, hn, q⟩ := h
    have l1 := paired_len hua
    have l2 := paired_len hwb
    refine ⟨_, (pss_cons (ps_if (PW.pt (pw_or (pt_not (pt_val (pe_callB call_isi (by rfl) T.m_isinstance (by decide +kernel) (pa_cons (pv 0) (pa_cons (pe_bltn (v := .ty "list") (by rfl) T.m_list (by decide +kernel) rfl) pa_nil))))) (pw_or1 (pt_cmpR op_ne (pe_callB call_len_seq (by rfl) T.m_len PySem.boot_len (pa_cons (pv 0) pa_nil)) (pe_callB call_len_seq (by rfl) T.m_len PySem.boot_len (pa_cons (pv 1) pa_nil)) (nomark _))))) (pss_one (ps_ret pe_bl)) pss_nil)
      (pss_cons (ps_for PassesOwn.never rfl (pi_range1 (by rfl) T.m_range (pa_cons (pe_callB call_len_seq (by rfl) T.m_len PySem.boot_len (pa_cons (pv 1) pa_nil)) pa_nil)) (pg_name (i := 2) sc_law_same_edits.nd rfl (.inl rfl)) (pss_one (ps_if (pt_not (pt_val (pe_call G_law_same_edit hr_law_same_edit (by rfl) T.g_law_same_edit T.F_law_same_edit.kp T.b_law_same_edit .nil pass0 (pa_cons (pe_ix ix_list (pv 0) (pv 2) (fun _ _ => rfl)) (pa_cons (pe_ix ix_list (pv 1) (pv 2) (fun _ _ => rfl)) pa_nil))))) (pss_one (ps_ret pe_bl)) pss_nil)))
      (pss_one (ps_ret pe_bl)))), ?_⟩
    refine ⟨_, rfl, _, _, _, _, true, rfl, .ty _, .base (.lst ha), kit_ty (by decide +kernel), true, rfl, iteF ?_⟩
    refine ⟨_, rfl, a, _, rfl, .inl (SqL.of ha), _, rfl, b, _, rfl, .inl (SqL.of hb), rfl, _, rfl, ?_⟩
    rw [l1, l2]
    refine iteNS rfl ?_
    refine ⟨_, rfl, b, _, rfl, .inl (SqL.of hb), _, rfl, by omega, by omega, ?_⟩
    refine for_range (lo := 0) (n := ((ws.length : Int)).toNat) (fun i σ H' => H' = H ∧ ∃ y : Option V, σ = [some (.ref a), some (.ref b), y]) ⟨rfl, none, rfl⟩ ?_ ?_
    · rintro i σ H1 hi ⟨rfl, y, rfl⟩
      obtain ⟨e, he⟩ : ∃ e, es[i]? = some e := ⟨_, List.getElem?_eq_getElem (by omega)⟩
      obtain ⟨x1, hx1, e1⟩ := paired_get hua he
      obtain ⟨x2, hx2, e2⟩ := paired_get hwb he
      refine ⟨_, rfl, _, rfl, a, _, _, _, rfl, rfl, SqL.of ha, at_of (j := i) (by omega) hx1, _, rfl, _, rfl, b, _, _, _, rfl, rfl, SqL.of hb, at_of (j := i) (by omega) hx2, ?_⟩
      exact ⟨x1, x2, e, rfl, e1, e2, ho e (List.mem_of_getElem? he), true, rfl, iteF ⟨rfl, _, rfl⟩⟩
    · rintro σ H1 ⟨rfl, y, rfl⟩
      exact q

/-- the way back -/
def spBack : Sp := fun vs H Q _ => ∃ (z : Str) (l : Addr) (es : List Ed), vs = [.str z, .ref l] ∧ EdsAt H l es ∧ fitsL (cs z).length es ∧ Lim (cs z) es ∧ es.length ≤ 100000 ∧
  ∀ l' H', Same H H' → H l' = none → EdsAt H' l' (backL (cs z) es) → Q (.ref l') H'
theorem ok_back (T : Txt K mg) : FnOk P w K mg base CX0 1 T.a_law_back T.fd_law_back ["text", "edits"] spBack := by
  refine T.F_law_back.ok sc_law_back (fun vs H Q E h => ?_) (fun cdv A outer s H vs Q E hr h => ?_)
  · obtain ⟨z, l, es, rfl, _⟩ := h
    rfl
  · obtain ⟨z, l, es, rfl, ⟨us, hl, hes⟩, hfit, hlim, hn, q⟩ := h
    have hle := paired_len hes
    refine ⟨_, (pss_cons (ps_set (i := 2) sc_law_back.nd rfl (.inl rfl) (pv 0))
      (pss_cons (ps_set (i := 3) sc_law_back.nd rfl (.inl rfl) (pe_lst pa_nil))
      (pss_cons (ps_for PassesOwn.never rfl (pi_list (pv 1)) (pg_name (i := 4) sc_law_back.nd rfl (.inl rfl)) (pss_cons (ps_set (i := 3) sc_law_back.nd rfl (.inl rfl) (pe_op op_cat (pe_lst (pa_cons (pe_tup (pa_cons (pe_ix ix_tup (pv 4) pe_int (fun _ _ => rfl)) (pa_cons (pe_op op_add (pe_ix ix_tup (pv 4) pe_int (fun _ _ => rfl)) (pe_callB call_len (by rfl) T.m_len PySem.boot_len (pa_cons (pe_ix ix_tup (pv 4) pe_int (fun _ _ => rfl)) pa_nil))) (pa_cons (pe_slice sl_str (pv 2) (po_some (pe_ix ix_tup (pv 4) pe_int (fun _ _ => rfl))) (po_some (pe_ix ix_tup (pv 4) pe_int (fun _ _ => rfl)))) pa_nil)))) pa_nil)) (pv 3)))
      (pss_one (ps_set (i := 2) sc_law_back.nd rfl (.inl rfl) (pe_op op_add_str (pe_op op_add_str (pe_slice sl_str (pv 2) po_none (po_some (pe_ix ix_tup (pv 4) pe_int (fun _ _ => rfl)))) (pe_ix ix_tup (pv 4) pe_int (fun _ _ => rfl))) (pe_slice sl_str (pv 2) (po_some (pe_ix ix_tup (pv 4) pe_int (fun _ _ => rfl))) po_none))))))
      (pss_one (ps_ret (pv 3)))))), ?_⟩
    refine ⟨_, rfl, ?_⟩
    refine ⟨Nat.zero_le _, fun p np => ?_⟩
    refine ⟨_, rfl, l, rfl, ⟨_, SqL.of (by rw [upd_ne (ne_of_none hl np)]; exact hl)⟩, ?_⟩
    refine for_list (K := K) (a := l) (xs := us) (fun i σ H' => ∃ (now : Str) (b : Addr) (y4 : Option V), σ = [some (.str z), some (.ref l), some (.str now), some (.ref b), y4] ∧ cs now = appl (cs z) (es.take i) ∧ Same H H' ∧ H b = none ∧ EdsAt H' b (backL (cs z) (es.take i)))
      ⟨z, p, none, rfl, rfl, same_upd np, np, [], upd_same, .nil⟩ (fun i σ H' _ ⟨_, _, _, _, _, sm, _⟩ => sm.seq (SqL.of hl)) ?_ ?_
    · rintro i x σ H1 hx ⟨now, b, y4, rfl, hnow, sm, nb, ws, hb, hwb⟩
      obtain ⟨e, he⟩ : ∃ e, es[i]? = some e := ⟨_, List.getElem?_eq_getElem (by rw [← hle]; exact (List.getElem?_eq_some_iff.mp hx).1)⟩
      obtain ⟨x', hx', t, rfl, ht0⟩ := paired_get hes he
      have ht := sm t _ ht0
      rw [hx] at hx'
      have h1 := Option.some.inj hx'
      subst h1
      have hf := fitsL_get hfit he
      rw [← appl_len (fitsL_take i hfit), ← hnow] at hf
      obtain ⟨a, c, hab, h2, h3⟩ := fit_nat hf
      have lim1 := hlim (i + 1)
      rw [take_more he, appl_snoc, ← hnow] at lim1
      rw [hab] at ht lim1
      have lim2 : (spliceL (cs now) a c (cs e.2.2)).length ≤ 4000000 := lim1
      have lim0 := hlim i
      rw [← hnow] at lim0
      have sp := spl_pre (cs now) a c (cs e.2.2)
      have l1 : (cutS now none (some (a : Int))).length = ((cs now).take a).length := by rw [len_cs, cut_pre]
      have szn : now.length ≤ sizeLine := szM (by rw [len_cs]; exact lim0)
      have sze : e.2.2.length ≤ sizeLine := szM (by rw [len_cs]; omega)
      -- back = [(..)] + back
      refine ⟨_, rfl, t, _, 0, .int (a : Int), rfl, rfl, SqT.of ht, atI_nat (j := 0) rfl, ?_⟩
      refine ⟨_, rfl, t, _, 0, .int (a : Int), rfl, rfl, SqT.of ht, atI_nat (j := 0) rfl, _, rfl, t, _, 2, .str e.2.2, rfl, rfl, SqT.of ht, atI_nat (j := 2) rfl, _, _, rfl, ⟨sze, rfl⟩, _, _, rfl, rfl, ?_⟩
      refine ⟨_, rfl, _, rfl, t, _, 0, .int (a : Int), rfl, rfl, SqT.of ht, atI_nat (j := 0) rfl, _, rfl, _, rfl, t, _, 1, .int (c : Int), rfl, rfl, SqT.of ht, atI_nat (j := 1) rfl, _, rfl, now, rfl, szn, ?_⟩
      refine ⟨by show 3 ≤ sizeLine; decide, fun t2 nt2 => ⟨by show 1 ≤ sizeLine; decide, fun c1 nc1 => ?_⟩⟩
      have hb2 : (upd (upd H1 t2 (.tup [.int (a : Int), .int ((a : Int) + (e.2.2.length : Int)), .str (cutS now (some (a : Int)) (some (c : Int)))])) c1 (.lst [.ref t2])) b = some (.lst ws) := by
        rw [upd_ne (ne_of_none (by rw [upd_ne (ne_of_none hb nt2)]; exact hb) nc1), upd_ne (ne_of_none hb nt2)]
        exact hb
      have ebk : (e.1, e.1 + (e.2.2.length : Int), cutS now (some (a : Int)) (some (c : Int))) = back1 (cs now) e := by
        rw [hab]
        show ((a : Int), (a : Int) + (e.2.2.length : Int), cutS now (some (a : Int)) (some (c : Int))) = ((a : Int), (a : Int) + (((cs e.2.2).length : Nat) : Int), (⟨(((cs now).take c).drop a).toArray⟩ : Str))
        rw [len_cs, mkS_eq (cut_mid now a c)]
      have lw := paired_len hwb
      rw [backL_len, List.length_take] at lw
      have hilt := (List.getElem?_eq_some_iff.mp he).1
      refine ⟨_, rfl, c1, b, [.ref t2], ws, rfl, rfl, upd_same, hb2, sz1 (by show 1 + ws.length ≤ _; omega), fun c2 nc2 => ?_⟩
      have s2 : Same H1 (upd (upd (upd H1 t2 (.tup [.int (a : Int), .int ((a : Int) + (e.2.2.length : Int)), .str (cutS now (some (a : Int)) (some (c : Int)))])) c1 (.lst [.ref t2])) c2 (.lst ([.ref t2] ++ ws))) := (same_upd nt2).trans ((same_upd nc1).trans (same_upd nc2))
      have ht3 : (upd (upd (upd H1 t2 (.tup [.int (a : Int), .int ((a : Int) + (e.2.2.length : Int)), .str (cutS now (some (a : Int)) (some (c : Int)))])) c1 (.lst [.ref t2])) c2 (.lst ([.ref t2] ++ ws))) t2 = some (.tup [.int (a : Int), .int ((a : Int) + (e.2.2.length : Int)), .str (cutS now (some (a : Int)) (some (c : Int)))]) :=
        ((same_upd nc1).trans (same_upd nc2)) t2 _ upd_same
      have ht4 := s2 t _ ht
      -- now = ..
      refine ⟨_, rfl, _, rfl, t, _, 0, .int (a : Int), rfl, rfl, SqT.of ht4, atI_nat (j := 0) rfl, _, rfl, now, rfl, szn, ?_⟩
      refine ⟨_, rfl, t, _, 2, .str e.2.2, rfl, rfl, SqT.of ht4, atI_nat (j := 2) rfl, _, _, rfl, rfl, szM (by rw [l1, len_cs]; omega), ?_⟩
      refine ⟨_, rfl, _, rfl, t, _, 1, .int (c : Int), rfl, rfl, SqT.of ht4, atI_nat (j := 1) rfl, _, rfl, now, rfl, szn, ?_⟩
      refine ⟨_, _, rfl, rfl, ?_, _, c2, _, rfl, ?_, sm.trans s2, ?_, [.ref t2] ++ ws, upd_same, ?_⟩
      · have h9 : (cutS now none (some (a : Int)) ++ e.2.2 ++ cutS now (some (c : Int)) none).length = (cutS now none (some (a : Int)) ++ e.2.2).length + (cutS now (some (c : Int)) none).length := by
          rw [len_cs, len_cs, len_cs, cs_app, List.length_append]
        rw [← h9, len_cs, cs_splice]
        exact szM lim2
      · rw [cs_splice, take_more he, appl_snoc, ← hnow]
        rw [hab]
        rfl
      · exact (sm.trans ((same_upd nt2).trans (same_upd nc1))).free nc2
      · rw [take_more he, backL_snoc, ← hnow]
        refine .cons ⟨t2, rfl, ?_⟩ (hwb.mono fun b xs e => s2 b _ e)
        rw [← ebk]
        rw [hab]
        exact ht3
    · rintro σ H1 ⟨now, b, y4, rfl, hnow, sm, nb, hb⟩
      rw [hle, List.take_length] at hb
      exact ⟨_, rfl, q b H1 sm nb hb⟩




/-! ### what the program promises of edits -/
def Lim2 (t : List Nat) (es : List Ed) : Prop := ∀ k, fitsL t.length (es.take k) → (appl t (es.take k)).length ≤ 4000000
theorem Lim2.lim {t : List Nat} {es : List Ed} (h : Lim2 t es) (f : fitsL t.length es) : Lim t es := fun k => h k (fitsL_take k f)
theorem Lim2.take {t : List Nat} {es : List Ed} (h : Lim2 t es) (j : Nat) : Lim2 t (es.take j) := fun k f => by
  rw [List.take_take] at f ⊢
  exact h _ f
def Sized (es : List Ed) : Prop := ∀ e ∈ es, e.len ≤ 4000000 ∧ TOk e.2.2
theorem Short.sized {es : List Ed} (h : Short es) : Sized es := fun e he => ⟨Nat.le_trans (h e he).1 (by decide), (h e he).2⟩
/-- an EditError with its index -/
def ErrAt (C : Addr) (H : Hp) (E : XK) (k : Nat) : Prop := ∀ d H', Same H H' → H d = none → H' d = some (.xd [(("index" : Str), .int (k : Int))]) → E (.ref C) (some d) H'
def spApply (C : Addr) : Sp := fun vs H Q E => ∃ (z : Str) (l : Addr) (es : List Ed), vs = [.str z, .ref l] ∧ EdsAt H l es ∧ Sized es ∧ es.length ≤ 2000 ∧ (cs z).length ≤ 4000000 ∧ TOk z ∧ Lim2 (cs z) es ∧
  (fitsL (cs z).length es → ∀ H', Same H H' → Q (.str ⟨(appl (cs z) es).toArray⟩) H') ∧ (∀ k, unfit (cs z).length es = some k → ErrAt C H E k)
def spInverse (C : Addr) : Sp := fun vs H Q E => ∃ (z : Str) (l : Addr) (es : List Ed), vs = [.str z, .ref l] ∧ EdsAt H l es ∧ Sized es ∧ es.length ≤ 2000 ∧ (cs z).length ≤ 4000000 ∧ TOk z ∧ Lim2 (cs z) es ∧
  (fitsL (cs z).length es → ∀ l' H', Same H H' → H l' = none → EdsAt H' l' (backL (cs z) es) → Q (.ref l') H') ∧ (∀ k, unfit (cs z).length es = some k → ErrAt C H E k)
theorem short_lim : ∀ {es : List Ed} {t : List Nat}, Short es → fitsL t.length es → (appl t es).length ≤ t.length + es.length * 2000
  | [], t, _, _ => Nat.le_add_right _ _
  | e :: r, t, h, f => by
    obtain ⟨f1, f2⟩ := f
    have e1 := spl1_len f1
    rw [← e1] at f2
    have ih := short_lim (es := r) (t := spl1 t e) (fun x hx => h x (List.mem_cons_of_mem _ hx)) f2
    have h1 := (h e List.mem_cons_self).1
    have s1 : size1 t.length e ≤ t.length + e.len := by
      unfold size1
      omega
    show (appl (spl1 t e) r).length ≤ t.length + (r.length + 1) * 2000
    rw [e1] at ih
    omega
theorem short_lim2 {es : List Ed} {t : List Nat} (h : Short es) (ht : t.length ≤ 2000) (hn : es.length ≤ 1500) : Lim2 t es := fun k f => by
  have h1 := short_lim (es := es.take k) (t := t) (fun x hx => h x (List.mem_of_mem_take hx)) f
  have h2 : (es.take k).length ≤ es.length := by rw [List.length_take]; exact Nat.min_le_right _ _
  omega
theorem EdsAt.cut {H : Hp} {l p : Addr} {es : List Ed} (h : EdsAt H l es) (np : H p = none) (k : Nat) : ∃ us, H l = some (.lst us) ∧ EdsAt (upd H p (.lst (cutV us none (some (k : Int))))) p (es.take k) := by
  obtain ⟨us, h1, h2⟩ := h
  refine ⟨us, h1, us.take k, ?_, paired_take k (h2.mono (Tups.new np))⟩
  rw [cutV_pre, upd_same]

/-! ### an edit list that is refused -/
def spRefused : Sp := fun vs H Q _ => ∃ (z : Str) (l : Addr) (es : List Ed) (k : Nat), vs = [.str z, .ref l] ∧ EdsAt H l es ∧ Sized es ∧ es.length ≤ 2000 ∧ (cs z).length ≤ 4000000 ∧ TOk z ∧ Lim2 (cs z) es ∧ unfit (cs z).length es = some k ∧
  ∀ t H', Same H H' → H' t = some (.tup [.int (k : Int), .bl true]) → Q (.ref t) H'
theorem ok_refused (T : Txt K mg) (G_inverse : FnOk P w K mg base (L2.CX P w) 8 T.a_inverse T.fd_inverse ["text", "edits"] (spInverse T.C_EditError)) : FnOk P w K mg base CX0 9 T.a_law_refused T.fd_law_refused ["text", "edits"] spRefused := by
  refine T.F_law_refused.ok sc_law_refused (fun vs H Q E h => ?_) (fun cdv A outer s H vs Q E hr h => ?_)
  · obtain ⟨z, l, es, k, rfl, _⟩ := h
    rfl
  · have hr_inverse : Room 8 _ := hr
    obtain ⟨z, l, es, k, rfl, hE, hS, hn, hz, ho, hl, hk, q⟩ := h
    refine ⟨_, (pss_cons (ps_try_as (i := 2) (Wout := fun _ _ _ _ => False) rfl rfl sc_law_refused.nd rfl rfl ⟨rfl, by decide, .inl T.G_EditError⟩ takes0 (fun W pn xe tk _ => (pss_one (ps_expr (pe_callS G_inverse hr_inverse rfl T.g_inverse T.F_inverse.kp T.b_inverse (fun σ => passAt tk σ) (pa_cons (pv 0) (pa_cons (pv 1) pa_nil)))))) (fun a oe cls d pn hz hf => (pss_one (ps_ret (pe_tup (pa_cons (pe_xf T.E_EditError.xf T.n_EditError_index hz hf (pv 2)) (pa_cons (pe_and (pe_callB (call_isX hz hf) (by rfl) T.m_isinstance (by decide +kernel) (pa_cons (pv 2) (pa_cons (pe_glob (v := .ref T.C_MendedError) (by rfl) T.G_MendedError rfl) pa_nil))) (pe_and (pe_callB (call_isX hz hf) (by rfl) T.m_isinstance (by decide +kernel) (pa_cons (pv 2) (pa_cons (pe_bltn (v := .ty "ValueError") (by rfl) T.m_ValueError (by decide +kernel) rfl) pa_nil))) (pe_one (pe_not (pe_callB (call_isX hz hf) (by rfl) T.m_isinstance (by decide +kernel) (pa_cons (pv 2) (pa_cons (pe_glob (v := .ref T.C_Entangled) (by rfl) T.G_Entangled rfl) pa_nil))))))) pa_nil)))))))
      (pss_one (ps_ret (pe_tup (pa_cons (pe_un un_neg pe_int) (pa_cons pe_bl pa_nil)))))), ?_⟩
    refine ⟨_, rfl, _, rfl, z, l, es, rfl, hE, hS, hn, hz, ho, hl, fun hf => ?_, fun j hj d H1 sm nd hd => ?_⟩
    · rw [unfit_none.mpr hf] at hk
      cases hk
    · rw [hk] at hj
      have hj' := Option.some.inj hj
      subst hj'
      refine ⟨true, T.E_EditError.self, fun _ a ha => ?_, fun z => Bool.noConfusion z⟩
      refine ⟨_, rfl, rfl, rfl, d, _, _, rfl, hd, rfl, ?_⟩
      refine ⟨_, rfl, _, d, rfl, rfl, T.E_EditError.exc, _, _, true, _, rfl, .own _, hd, T.k_EditError_MendedError, true, rfl, iteT ?_⟩
      refine ⟨_, rfl, _, d, rfl, rfl, T.E_EditError.exc, _, _, true, _, rfl, .ty _, hd, T.k_EditError_ValueError, true, rfl, iteT ?_⟩
      refine ⟨_, rfl, _, d, rfl, rfl, T.E_EditError.exc, _, _, false, _, rfl, .own _, hd, T.k_EditError_Entangled, false, rfl, ?_⟩
      refine ⟨by show 2 ≤ sizeLine; decide, fun t nt => ?_⟩
      exact q t _ (sm.trans (same_upd nt)) upd_same
/-! ### the steps back -/
theorem backL_lim2 {t : List Nat} {es : List Ed} (f : fitsL t.length es) (h : Lim t es) : Lim2 (appl t es) (backL t es) := fun k fk => by
  by_cases hk : k ≤ es.length
  · rw [(back_way k f hk).2]
    exact h _
  · have e1 : (backL t es).take k = (backL t es).take es.length := by
      rw [List.take_of_length_le (by rw [backL_len]; omega), List.take_of_length_le (by rw [backL_len]; exact Nat.le_refl _)]
    rw [e1, (back_way es.length f (Nat.le_refl _)).2]
    exact h _
theorem backL_fits {t : List Nat} {es : List Ed} (f : fitsL t.length es) : fitsL (appl t es).length (backL t es) := by
  have h := (back_way es.length f (Nat.le_refl _)).1
  rw [List.take_of_length_le (by rw [backL_len]; exact Nat.le_refl _)] at h
  exact h
theorem appl_tok {t : List Nat} : ∀ {es : List Ed}, (∀ c ∈ t, c < 1114112) → (∀ e ∈ es, TOk e.2.2) → ∀ c ∈ appl t es, c < 1114112 := fun {es} => by
  induction es generalizing t with
  | nil =>
    intro h _
    exact h
  | cons e r ih =>
    intro h h2
    exact ih (t := spl1 t e) (spl_tok h (h2 e List.mem_cons_self)) fun x hx => h2 x (List.mem_cons_of_mem _ hx)
theorem backL_sized : ∀ {es : List Ed} {t : List Nat}, (∀ c ∈ t, c < 1114112) → (∀ e ∈ es, TOk e.2.2) → fitsL t.length es → Lim t es → Sized (backL t es)
  | [], _, _, _, _, _ => fun e he => absurd he List.not_mem_nil
  | e :: r, t, ht, ho, f, h => by
    intro x hx
    rcases List.mem_append.mp (show x ∈ backL (spl1 t e) r ++ [back1 t e] from hx) with hx | hx
    · have f2 := f.2
      rw [← spl1_len f.1] at f2
      exact backL_sized (t := spl1 t e) (spl_tok ht (ho e List.mem_cons_self)) (fun y hy => ho y (List.mem_cons_of_mem _ hy)) f2 (fun k => h (k + 1)) x hx
    · rw [List.mem_singleton.mp hx]
      have h0 := h 0
      have e0 : (appl t ((e :: r).take 0)) = t := rfl
      rw [e0] at h0
      refine ⟨?_, fun c hc => ht c (List.mem_of_mem_take (List.mem_of_mem_drop hc))⟩
      show ((t.take e.2.1.toNat).drop e.1.toNat).length ≤ 4000000
      rw [List.length_drop, List.length_take]
      omega
def spLedBack : Sp := fun vs H Q _ => ∃ (z : Str) (l b : Addr) (es : List Ed), vs = [.str z, .ref l, .ref b] ∧ EdsAt H l es ∧ EdsAt H b (backL (cs z) es) ∧ Sized es ∧ es.length ≤ 2000 ∧ TOk z ∧ fitsL (cs z).length es ∧ Lim (cs z) es ∧ ∀ H', Same H H' → Q (.bl true) H'
theorem ok_led_back (T : Txt K mg) (G_apply : FnOk P w K mg base (L2.CX P w) 8 T.a_apply T.fd_apply ["text", "edits"] (spApply T.C_EditError)) (G_inverse : FnOk P w K mg base (L2.CX P w) 8 T.a_inverse T.fd_inverse ["text", "edits"] (spInverse T.C_EditError)) :
    FnOk P w K mg base CX0 9 T.a_law_led_back T.fd_law_led_back ["text", "edits", "back"] spLedBack := by
  have G_law_splice : FnOk P w K mg base CX0 1 T.a_law_splice T.fd_law_splice ["text", "edits"] spSplice := ok_splice T
  have G_law_same_edits : FnOk P w K mg base CX0 3 T.a_law_same_edits T.fd_law_same_edits ["told", "due"] spSames := ok_sames T
  refine T.F_law_led_back.ok sc_law_led_back (fun vs H Q E h => ?_) (fun cdv A outer s H vs Q E hr h => ?_)
  · obtain ⟨z, l, b, es, rfl, _⟩ := h
    rfl
  · have hr_law_splice : Room 1 _ := hr.mono (by decide)
    have hr_law_same_edits : Room 3 _ := hr.mono (by decide)
    have hr_apply : Room 8 _ := hr
    have hr_inverse : Room 8 _ := hr
    obtain ⟨z, l, b, es, rfl, hE, hB, hS, hn, ho, hf, hl, q⟩ := h
    refine ⟨_, (pss_cons (ps_set (i := 3) sc_law_led_back.nd rfl (.inl rfl) (pe_call G_law_splice hr_law_splice (by rfl) T.g_law_splice T.F_law_splice.kp T.b_law_splice .nil pass0 (pa_cons (pv 0) (pa_cons (pv 1) pa_nil))))
      (pss_cons (ps_for PassesOwn.never rfl (pi_range1 (by rfl) T.m_range (pa_cons (pe_op op_add (pe_callB call_len_seq (by rfl) T.m_len PySem.boot_len (pa_cons (pv 1) pa_nil)) pe_int) pa_nil)) (pg_name (i := 4) sc_law_led_back.nd rfl (.inl rfl)) (pss_one (ps_if (PW.pt (pw_or (pt_cmpR op_lt (pe_callB call_len_seq (by rfl) T.m_len PySem.boot_len (pa_cons (pv 1) pa_nil)) pe_int (nomark _)) (pw_or (pt_cmpR op_eq (pe_op op_mod (pe_callTy call_int1 (by rfl) T.m_int (by decide +kernel) (pa_cons (pv 4) pa_nil)) pe_int) pe_int (nomark _)) (pw_or1 (pt_cmpR op_eq (pv 4) (pe_callB call_len_seq (by rfl) T.m_len PySem.boot_len (pa_cons (pv 1) pa_nil)) (nomark _)))))) (pss_cons (ps_set (i := 5) sc_law_led_back.nd rfl (.inl rfl) (pe_call G_apply hr_apply (by rfl) T.g_apply T.F_apply.kp T.b_apply .nil (passX0 rfl rfl) (pa_cons (pv 3) (pa_cons (pe_slice sl_list (pv 2) po_none (po_some (pv 4))) pa_nil))))
      (pss_one (ps_if (PW.pt (pw_or (pt_not (pt_val (pe_callB call_isi (by rfl) T.m_isinstance (by decide +kernel) (pa_cons (pv 5) (pa_cons (pe_bltn (v := .ty "str") (by rfl) T.m_str (by decide +kernel) rfl) pa_nil))))) (pw_or1 (pt_cmpR op_ne (pv 5) (pe_call G_law_splice hr_law_splice (by rfl) T.g_law_splice T.F_law_splice.kp T.b_law_splice .nil pass0 (pa_cons (pv 0) (pa_cons (pe_slice sl_list (pv 1) po_none (po_some (pe_op op_sub (pe_callB call_len_seq (by rfl) T.m_len PySem.boot_len (pa_cons (pv 1) pa_nil)) (pv 4)))) pa_nil))) (nomark _))))) (pss_one (ps_ret pe_bl)) pss_nil))) pss_nil)))
      (pss_one (ps_ret (pe_call G_law_same_edits hr_law_same_edits (by rfl) T.g_law_same_edits T.F_law_same_edits.kp T.b_law_same_edits .nil pass0 (pa_cons (pe_call G_inverse hr_inverse (by rfl) T.g_inverse T.F_inverse.kp T.b_inverse .nil (passX0 rfl rfl) (pa_cons (pv 3) (pa_cons (pe_callTy call_list_of (by rfl) T.m_list (by decide +kernel) (pa_cons (pv 2) pa_nil)) pa_nil))) (pa_cons (pv 1) pa_nil))))))), ?_⟩
    -- after
    refine ⟨_, rfl, _, rfl, z, l, es, rfl, hE, hf, hl, ?_⟩
    obtain ⟨us, hus, hue⟩ := id hE
    have lu := paired_len hue
    refine ⟨_, rfl, l, us, rfl, .inl (SqL.of hus), _, 1, rfl, rfl, _, rfl, by omega, by omega, ?_⟩
    have eaf : cs (⟨(appl (cs z) es).toArray⟩ : Str) = appl (cs z) es := rfl
    have hoes : ∀ e ∈ es, TOk e.2.2 := fun e he => (hS e he).2
    refine for_range (lo := 0) (n := ((us.length : Int) + 1).toNat) (fun i σ H' => Same H H' ∧ ∃ y4 y5 : Option V, σ = [some (.str z), some (.ref l), some (.ref b), some (.str ⟨(appl (cs z) es).toArray⟩), y4, y5]) ⟨Same.refl _, none, none, rfl⟩ ?_ ?_
    · rintro i σ H1 hi ⟨sm, y4, y5, rfl⟩
      have hi' : i ≤ es.length := by omega
      have ei : (0 : Int) + (i : Int) = (i : Int) := by omega
      rw [ei]
      have hl1 := sm _ _ hus
      have hE1 := hE.mono sm
      have hB1 := hB.mono sm
      refine ⟨_, rfl, l, us, rfl, .inl (SqL.of hl1), _, 16, rfl, rfl, _, rfl, ite2 (fun e => iteT ?_) (fun e => ?_)⟩
      rotate_left
      · refine ⟨_, rfl, .inl ⟨_, rfl, _, 32, rfl, rfl, (by show (0 : Int) < 32; decide), rfl, _, rfl, ite2 (fun e => iteT ?_) (fun e => ?_)⟩⟩
        rotate_left
        · refine ⟨_, rfl, _, rfl, l, us, rfl, .inl (SqL.of hl1), rfl, _, rfl, ite2 (fun e => ?_) (fun e => ⟨sm, _, _, rfl⟩)⟩
          -- told = apply(after, back[:k])
          obtain ⟨bs, hbs, hbe⟩ := id hB1
          refine ⟨_, rfl, _, rfl, _, rfl, _, rfl, b, bs, rfl, SqL.of hbs, fun c nc => ?_⟩
          rw [cutV_pre]
          have f1 := back_way i hf hi'
          refine ⟨_, c, (backL (cs z) es).take i, rfl, ⟨bs.take i, upd_same, paired_take i (hbe.mono (Tups.new nc))⟩, (fun x hx => backL_sized ho hoes hf hl x (List.mem_of_mem_take hx)), (by rw [List.length_take, backL_len]; omega), ?_, appl_tok ho hoes, (backL_lim2 hf hl).take i, fun _ H2 sm2 => ?_, fun k hk => ?_⟩
          · have h0 := hl es.length
            rw [List.take_length] at h0
            exact h0
          · rw [eaf, f1.2]
            have s2 : Same H1 H2 := (same_upd nc).trans sm2
            refine ⟨_, rfl, _, _, _, _, true, rfl, .ty _, .base (.str _), kit_ty (by decide +kernel), true, rfl, iteF ?_⟩
            have hl2 := s2 _ _ hl1
            refine ⟨_, rfl, _, rfl, _, rfl, _, rfl, l, us, rfl, .inl (SqL.of hl2), _, rfl, _, _, rfl, rfl, _, rfl, l, us, rfl, SqL.of hl2, fun c2 nc2 => ?_⟩
            have e3 : (us.length : Int) - (i : Int) = ((es.length - i : Nat) : Int) := by omega
            rw [e3, cutV_pre]
            refine ⟨z, c2, es.take (es.length - i), rfl, ⟨us.take (es.length - i), upd_same, paired_take _ ((hue.mono fun b xs e => (sm.trans s2) b _ e).mono (Tups.new nc2))⟩, fitsL_take _ hf, (fun k => by rw [List.take_take]; exact hl _), ?_⟩
            refine ⟨rfl, _, rfl, iteNS rfl ?_⟩
            exact ⟨(sm.trans s2).trans (same_upd nc2), _, _, rfl⟩
          · rw [eaf, unfit_none.mpr f1.1] at hk
            cases hk
        -- told = apply(after, back[:k])
        obtain ⟨bs, hbs, hbe⟩ := id hB1
        refine ⟨_, rfl, _, rfl, _, rfl, _, rfl, b, bs, rfl, SqL.of hbs, fun c nc => ?_⟩
        rw [cutV_pre]
        have f1 := back_way i hf hi'
        refine ⟨_, c, (backL (cs z) es).take i, rfl, ⟨bs.take i, upd_same, paired_take i (hbe.mono (Tups.new nc))⟩, (fun x hx => backL_sized ho hoes hf hl x (List.mem_of_mem_take hx)), (by rw [List.length_take, backL_len]; omega), ?_, appl_tok ho hoes, (backL_lim2 hf hl).take i, fun _ H2 sm2 => ?_, fun k hk => ?_⟩
        · have h0 := hl es.length
          rw [List.take_length] at h0
          exact h0
        · rw [eaf, f1.2]
          have s2 : Same H1 H2 := (same_upd nc).trans sm2
          refine ⟨_, rfl, _, _, _, _, true, rfl, .ty _, .base (.str _), kit_ty (by decide +kernel), true, rfl, iteF ?_⟩
          have hl2 := s2 _ _ hl1
          refine ⟨_, rfl, _, rfl, _, rfl, _, rfl, l, us, rfl, .inl (SqL.of hl2), _, rfl, _, _, rfl, rfl, _, rfl, l, us, rfl, SqL.of hl2, fun c2 nc2 => ?_⟩
          have e3 : (us.length : Int) - (i : Int) = ((es.length - i : Nat) : Int) := by omega
          rw [e3, cutV_pre]
          refine ⟨z, c2, es.take (es.length - i), rfl, ⟨us.take (es.length - i), upd_same, paired_take _ ((hue.mono fun b xs e => (sm.trans s2) b _ e).mono (Tups.new nc2))⟩, fitsL_take _ hf, (fun k => by rw [List.take_take]; exact hl _), ?_⟩
          refine ⟨rfl, _, rfl, iteNS rfl ?_⟩
          exact ⟨(sm.trans s2).trans (same_upd nc2), _, _, rfl⟩
        · rw [eaf, unfit_none.mpr f1.1] at hk
          cases hk
      -- told = apply(after, back[:k])
      obtain ⟨bs, hbs, hbe⟩ := id hB1
      refine ⟨_, rfl, _, rfl, _, rfl, _, rfl, b, bs, rfl, SqL.of hbs, fun c nc => ?_⟩
      rw [cutV_pre]
      have f1 := back_way i hf hi'
      refine ⟨_, c, (backL (cs z) es).take i, rfl, ⟨bs.take i, upd_same, paired_take i (hbe.mono (Tups.new nc))⟩, (fun x hx => backL_sized ho hoes hf hl x (List.mem_of_mem_take hx)), (by rw [List.length_take, backL_len]; omega), ?_, appl_tok ho hoes, (backL_lim2 hf hl).take i, fun _ H2 sm2 => ?_, fun k hk => ?_⟩
      · have h0 := hl es.length
        rw [List.take_length] at h0
        exact h0
      · rw [eaf, f1.2]
        have s2 : Same H1 H2 := (same_upd nc).trans sm2
        refine ⟨_, rfl, _, _, _, _, true, rfl, .ty _, .base (.str _), kit_ty (by decide +kernel), true, rfl, iteF ?_⟩
        have hl2 := s2 _ _ hl1
        refine ⟨_, rfl, _, rfl, _, rfl, _, rfl, l, us, rfl, .inl (SqL.of hl2), _, rfl, _, _, rfl, rfl, _, rfl, l, us, rfl, SqL.of hl2, fun c2 nc2 => ?_⟩
        have e3 : (us.length : Int) - (i : Int) = ((es.length - i : Nat) : Int) := by omega
        rw [e3, cutV_pre]
        refine ⟨z, c2, es.take (es.length - i), rfl, ⟨us.take (es.length - i), upd_same, paired_take _ ((hue.mono fun b xs e => (sm.trans s2) b _ e).mono (Tups.new nc2))⟩, fitsL_take _ hf, (fun k => by rw [List.take_take]; exact hl _), ?_⟩
        refine ⟨rfl, _, rfl, iteNS rfl ?_⟩
        exact ⟨(sm.trans s2).trans (same_upd nc2), _, _, rfl⟩
      · rw [eaf, unfit_none.mpr f1.1] at hk
        cases hk
    · rintro σ H1 ⟨sm, y4, y5, rfl⟩
      have hE1 := hE.mono sm
      obtain ⟨bs, hbs, hbe⟩ := hB.mono sm
      refine ⟨_, rfl, _, rfl, b, bs, rfl, .inl (SqL.of hbs), fun c nc => ?_⟩
      have hlen : (backL (cs z) es).length = es.length := backL_len _ _
      refine ⟨_, c, backL (cs z) es, rfl, ⟨bs, upd_same, hbe.mono (Tups.new nc)⟩, backL_sized ho hoes hf hl, by omega, ?_, appl_tok ho hoes, backL_lim2 hf hl, fun _ l' H2 sm2 nl' hl' => ?_, fun k hk => ?_⟩
      · have h0 := hl es.length
        rw [List.take_length] at h0
        exact h0
      · rw [eaf, back_back hf] at hl'
        refine ⟨_, rfl, l', l, es, rfl, hl', hE1.mono ((same_upd nc).trans sm2), hoes, by omega, ?_⟩
        exact q _ (sm.trans ((same_upd nc).trans sm2))
      · rw [eaf, unfit_none.mpr (backL_fits hf)] at hk
        cases hk


theorem edDs_lay : ∀ {es : List Ed}, (∀ e ∈ es, TOk e.2.2) → PyData.canLayAll0 (es.map edD) = true
  | [], _ => rfl
  | e :: r, h => by
    rw [List.map_cons]
    simp only [PyData.canLayAll0]
    rw [edD_lay (h e List.mem_cons_self), edDs_lay fun x hx => h x (List.mem_cons_of_mem _ hx)]
    rfl
theorem edDs_depth : ∀ es : List Ed, PyData.depthAll (es.map edD) ≤ 3
  | [] => by simp [PyData.depthAll]
  | e :: r => by
    have h1 := edD_depth e
    have h2 := edDs_depth r
    rw [List.map_cons]
    simp only [PyData.depthAll]
    omega
theorem edL_lay {es : List Ed} (h : ∀ e ∈ es, TOk e.2.2) : (PyData.list (es.map edD)).canLay0 = true := by
  simp only [PyData.canLay0]
  exact edDs_lay h
theorem edL_shaped {es : List Ed} (h : ∀ e ∈ es, TOk e.2.2) : SeqAt.shaped (.list (es.map edD)) = true := by
  unfold SeqAt.shaped
  rw [edL_lay h]
  have := edDs_depth es
  have d : (PyData.list (es.map edD)).depth = PyData.depthAll (es.map edD) + 1 := by simp only [PyData.depth]
  rw [d, Bool.true_and, decide_eq_true_eq]
  omega
theorem eds_dp {H : Hp} : ∀ {vs : List V} {es : List Ed}, EdsIn H vs es → DpAll K H vs (es.map edD)
  | _, _, .nil => .nil
  | _, _, .cons r t => .cons r.dp (eds_dp t)
theorem EdsAt.dp {H : Hp} {l : Addr} {es : List Ed} (h : EdsAt H l es) : Dp K H (.ref l) (.list (es.map edD)) := by
  obtain ⟨us, h1, h2⟩ := h
  exact .lst (SqL.of h1) (eds_dp h2)
theorem EdsAt.out {H : Hp} {l p : Addr} {es : List Ed} {o : HO} (h : EdsAt H l es) (n : l ≠ p) (t : Tups H (upd H p o)) : EdsAt (upd H p o) l es := by
  obtain ⟨us, h1, h2⟩ := h
  exact ⟨us, by rw [upd_ne n]; exact h1, h2.mono t⟩

/-! ### the law -/
def spGood : Sp := fun vs H Q _ => ∃ (z : Str) (l : Addr) (es : List Ed), vs = [.str z, .ref l] ∧ EdsAt H l es ∧ Sized es ∧ es.length ≤ 2000 ∧ (cs z).length ≤ 4000000 ∧ TOk z ∧ fitsL (cs z).length es ∧ Lim2 (cs z) es ∧ ∀ H', Q (.bl true) H'
theorem ok_good (T : Txt K mg) (G_apply : FnOk P w K mg base (L2.CX P w) 8 T.a_apply T.fd_apply ["text", "edits"] (spApply T.C_EditError)) (G_inverse : FnOk P w K mg base (L2.CX P w) 8 T.a_inverse T.fd_inverse ["text", "edits"] (spInverse T.C_EditError)) :
    FnOk P w K mg base CX0 10 T.a_law_good T.fd_law_good ["text", "edits"] spGood := by
  have G_law_back : FnOk P w K mg base CX0 1 T.a_law_back T.fd_law_back ["text", "edits"] spBack := ok_back T
  have G_law_same_edits : FnOk P w K mg base CX0 3 T.a_law_same_edits T.fd_law_same_edits ["told", "due"] spSames := ok_sames T
  have G_law_led_back : FnOk P w K mg base CX0 9 T.a_law_led_back T.fd_law_led_back ["text", "edits", "back"] spLedBack := ok_led_back T G_apply G_inverse
  refine T.F_law_good.ok sc_law_good (fun vs H Q E h => ?_) (fun cdv A outer s H vs Q E hr h => ?_)
  · obtain ⟨z, l, es, rfl, _⟩ := h
    rfl
  · have hr_law_back : Room 1 _ := hr.mono (by decide)
    have hr_law_same_edits : Room 3 _ := hr.mono (by decide)
    have hr_inverse : Room 8 _ := hr.mono (by decide)
    have hr_law_led_back : Room 9 _ := hr
    obtain ⟨z, l, es, rfl, hE, hS, hn, hz, ho, hf, hl, q⟩ := h
    refine ⟨_, (pss_cons (ps_set (i := 2) sc_law_good.nd rfl (.inl rfl) (pe_callTy call_list_of (by rfl) T.m_list (by decide +kernel) (pa_cons (pv 1) pa_nil)))
      (pss_cons (ps_set (i := 3) sc_law_good.nd rfl (.inl rfl) (pe_call G_law_back hr_law_back (by rfl) T.g_law_back T.F_law_back.kp T.b_law_back .nil pass0 (pa_cons (pv 0) (pa_cons (pv 1) pa_nil))))
      (pss_cons (ps_set (i := 4) sc_law_good.nd rfl (.inl rfl) (pe_call G_inverse hr_inverse (by rfl) T.g_inverse T.F_inverse.kp T.b_inverse .nil (passX0 rfl rfl) (pa_cons (pv 0) (pa_cons (pv 2) pa_nil))))
      (pss_cons (ps_if (PW.pt (pw_or (pt_cmpR (op_neD hr.units) (pv 2) (pv 1) (nomark _)) (pw_or1 (pt_not (pt_val (pe_call G_law_same_edits hr_law_same_edits (by rfl) T.g_law_same_edits T.F_law_same_edits.kp T.b_law_same_edits .nil pass0 (pa_cons (pv 4) (pa_cons (pv 3) pa_nil)))))))) (pss_one (ps_ret pe_bl)) pss_nil)
      (pss_cons (ps_if (pt_not (pt_val (pe_call G_law_led_back hr_law_led_back (by rfl) T.g_law_led_back T.F_law_led_back.kp T.b_law_led_back .nil pass0 (pa_cons (pv 0) (pa_cons (pv 1) (pa_cons (pv 4) pa_nil)))))) (pss_one (ps_ret pe_bl)) pss_nil)
      (pss_cons (ps_expr (pe_bm PySem.F.plainAttrs_list PySem.F.slot_list_append PySem.F.type_list_append mt_append (pv 4) (pa_cons (pe_tup (pa_cons pe_int (pa_cons pe_int (pa_cons pe_str pa_nil)))) pa_nil)))
      (pss_cons (ps_asg (pe_tup (pa_cons pe_int (pa_cons pe_int (pa_cons pe_str pa_nil)))) (pg_sub (pv 4) pe_int set_list))
      (pss_cons (ps_expr (pe_bm PySem.F.plainAttrs_list PySem.F.slot_list_append PySem.F.type_list_append mt_append (pv 2) (pa_cons (pe_tup (pa_cons pe_int (pa_cons pe_int (pa_cons pe_str pa_nil)))) pa_nil)))
      (pss_one (ps_ret (pe_call G_law_same_edits hr_law_same_edits (by rfl) T.g_law_same_edits T.F_law_same_edits.kp T.b_law_same_edits .nil pass0 (pa_cons (pe_call G_inverse hr_inverse (by rfl) T.g_inverse T.F_inverse.kp T.b_inverse .nil (passX0 rfl rfl) (pa_cons (pv 0) (pa_cons (pe_callTy call_list_of (by rfl) T.m_list (by decide +kernel) (pa_cons (pv 1) pa_nil)) pa_nil))) (pa_cons (pv 3) pa_nil))))))))))))), ?_⟩
    have hoes : ∀ e ∈ es, TOk e.2.2 := fun e he => (hS e he).2
    have hob : ∀ e ∈ backL (cs z) es, TOk e.2.2 := fun e he => (backL_sized ho hoes hf (hl.lim hf) e he).2
    have hlb : (backL (cs z) es).length = es.length := backL_len _ _
    have no : ∀ {k}, unfit (cs z).length es = some k → False := fun hk => by
      rw [unfit_none.mpr hf] at hk
      cases hk
    obtain ⟨us, hus, hue⟩ := id hE
    have lu := paired_len hue
    -- handed
    refine ⟨_, rfl, l, us, rfl, .inl (SqL.of hus), fun hd nhd => ?_⟩
    have s1 : Same H (upd H hd (.lst us)) := same_upd nhd
    have hE1 := hE.mono s1
    have hH1 : EdsAt (upd H hd (.lst us)) hd es := ⟨us, upd_same, hue.mono (Tups.new nhd)⟩
    -- due
    refine ⟨_, rfl, _, rfl, z, l, es, rfl, hE1, hf, hl.lim hf, by omega, fun du H2 s2 ndu hdu => ?_⟩
    -- told
    refine ⟨_, rfl, _, rfl, z, hd, es, rfl, hH1.mono s2, hS, hn, hz, ho, hl, fun _ td H3 s3 ntd htd => ?_, fun k hk => (no hk).elim⟩
    have hE3 := (hE1.mono s2).mono s3
    have hH3 := (hH1.mono s2).mono s3
    have hD3 := hdu.mono s3
    -- handed != edits
    refine ⟨_, rfl, _, rfl, .list (es.map edD), .list (es.map edD), hH3.dp, hE3.dp, edL_shaped hoes, edL_shaped hoes, ?_⟩
    rw [SeqAt.eqv_refl _ (edL_lay hoes)]
    refine ⟨_, rfl, iteF ?_⟩
    refine ⟨_, rfl, _, rfl, td, du, backL (cs z) es, rfl, htd, hD3, hob, by omega, true, rfl, iteF ?_⟩
    -- led back
    refine ⟨_, rfl, _, rfl, _, rfl, z, l, td, es, rfl, hE3, htd, hS, hn, ho, hf, hl.lim hf, fun H4 s4 => ⟨true, rfl, iteF ?_⟩⟩
    have hE4 := hE3.mono s4
    have hD4 := hD3.mono s4
    obtain ⟨ts, hts, hte⟩ := htd.mono s4
    obtain ⟨hs, hhs, hhe⟩ := hH3.mono s4
    have lts := paired_len hte
    have lhs := paired_len hhe
    -- the objects stand apart
    obtain ⟨ds, hds, _⟩ := hD4
    obtain ⟨es4, hes4, _⟩ := hE4
    have ntd1 : l ≠ td := fun e => by
      have h1 := ((s1.trans s2) l _ hus)
      rw [e, ntd] at h1
      cases h1
    have ntd2 : du ≠ td := fun e => by
      obtain ⟨x, hx, _⟩ := hdu
      rw [e, ntd] at hx
      cases hx
    have ntd3 : hd ≠ td := fun e => by
      have h1 := s2 hd _ upd_same
      rw [e, ntd] at h1
      cases h1
    have nhd1 : l ≠ hd := ne_of_none hus nhd
    have nhd2 : du ≠ hd := fun e => by
      rw [e, upd_same] at ndu
      cases ndu
    have hE4 := hE3.mono s4
    have hD4 := hD3.mono s4
    -- told.append((0, 0, 'x'))
    refine ⟨_, rfl, .inl ⟨rfl, _, SqL.of hts⟩, by show 3 ≤ sizeLine; decide, fun t1 nt1 => ?_⟩
    have hts1 : (upd H4 t1 (.tup [.int 0, .int 0, .str (Str.ofString "x")])) td = some (.lst ts) := by rw [upd_ne (ne_of_none hts nt1)]; exact hts
    refine ⟨td, ts, _, rfl, rfl, hts1, sz2 (by omega), ?_⟩
    -- told[0] = (0, 0, 'y')
    refine ⟨by show 3 ≤ sizeLine; decide, fun t2 nt2 => ?_⟩
    have ntt2 : td ≠ t2 := fun e => by
      rw [← e, upd_same] at nt2
      cases nt2
    refine ⟨_, rfl, td, ts ++ [.ref t1], 0, 0, rfl, rfl, by rw [upd_ne ntt2, upd_same], ?_, ?_⟩
    · have : 0 < (ts ++ [V.ref t1]).length := by rw [List.length_append]; show 0 < _ + 1; omega
      unfold ixN
      rw [if_pos (by omega), if_pos (by omega)]
      rfl
    -- handed.append((0, 0, 'z'))
    have e5 : ∃ H5 : Hp, H5 = upd (upd (upd (upd H4 t1 (.tup [.int 0, .int 0, .str (Str.ofString "x")])) td (.lst (ts ++ [V.ref t1]))) t2 (.tup [.int 0, .int 0, .str (Str.ofString "y")])) td (.lst ((ts ++ [V.ref t1]).set 0 (V.ref t2))) := ⟨_, rfl⟩
    obtain ⟨H5, e5⟩ := e5
    have keep : ∀ b o, b ≠ td → H4 b = some o → H5 b = some o := fun b o n e => by
      have n1 : b ≠ t1 := ne_of_none e nt1
      have n2 : b ≠ t2 := fun z => by
        rw [← z, upd_ne n, upd_ne n1, e] at nt2
        cases nt2
      rw [e5, upd_ne n, upd_ne n2, upd_ne n, upd_ne n1]
      exact e
    rw [← e5]
    have hhs5 := keep hd _ ntd3 hhs
    refine ⟨_, rfl, .inl ⟨rfl, _, SqL.of hhs5⟩, by show 3 ≤ sizeLine; decide, fun t3 nt3 => ?_⟩
    refine ⟨hd, hs, _, rfl, rfl, by rw [upd_ne (ne_of_none hhs5 nt3)]; exact hhs5, sz2 (by omega), ?_⟩
    have e6 : ∃ H6 : Hp, H6 = upd (upd H5 t3 (.tup [.int 0, .int 0, .str (Str.ofString "z")])) hd (.lst (hs ++ [V.ref t3])) := ⟨_, rfl⟩
    obtain ⟨H6, e6⟩ := e6
    have keep6 : ∀ b o, b ≠ td → b ≠ hd → H4 b = some o → H6 b = some o := fun b o n m e => by
      have h5 := keep b o n e
      rw [e6, upd_ne m, upd_ne (ne_of_none h5 nt3)]
      exact h5
    have tup6 : Tups H4 H6 := fun b xs e => keep6 b _ (ne_of e hts (fun z => by cases z)) (ne_of e hhs (fun z => by cases z)) e
    rw [← e6]
    have hE6 : EdsAt H6 l es := by
      obtain ⟨x, h1, h2⟩ := hE4
      exact ⟨x, keep6 l _ ntd1 nhd1 h1, h2.mono tup6⟩
    have hD6 : EdsAt H6 du (backL (cs z) es) := by
      obtain ⟨x, h1, h2⟩ := hD4
      exact ⟨x, keep6 du _ ntd2 nhd2 h1, h2.mono tup6⟩
    -- return
    obtain ⟨es6, hes6, hee6⟩ := id hE6
    refine ⟨_, rfl, _, rfl, l, es6, rfl, .inl (SqL.of hes6), fun c nc => ?_⟩
    refine ⟨z, c, es, rfl, ⟨es6, upd_same, hee6.mono (Tups.new nc)⟩, hS, hn, hz, ho, hl, fun _ td2 H7 s7 ntd7 htd7 => ?_, fun k hk => (no hk).elim⟩
    exact ⟨_, rfl, td2, du, backL (cs z) es, rfl, htd7, (hD6.mono (same_upd nc)).mono s7, hob, by omega, q _⟩
def spLaw (K : PySem.W.Frag) : Sp := fun vs H Q _ => ∃ (scr : Addr) (row : List Int), vs = [.ref scr] ∧ SqL K H scr (row.map V.int) ∧ row.length ≤ 63 ∧ ∀ H', Q (.bl true) H'
def lawMid (a r : Addr) (m : Int) (σ : List (Option V)) (H' : Hp) : Prop := ∃ c : Int, σ = [some (V.ref a), some (V.ref r), some (V.int m), some (V.int c), none, none, none, none, none] ∧ 0 ≤ c ∧ c ≤ 201 ∧ ReelAt H' r
theorem ok_law (T : Txt K mg) (G_apply : FnOk P w K mg base (L2.CX P w) 8 T.a_apply T.fd_apply ["text", "edits"] (spApply T.C_EditError)) (G_inverse : FnOk P w K mg base (L2.CX P w) 8 T.a_inverse T.fd_inverse ["text", "edits"] (spInverse T.C_EditError)) :
    FnOk P w K mg base CX0 12 T.a_law T.fd_law ["script"] (spLaw K) := by
  have G_law_reel : FnOk P w K mg base CX0 1 T.a_law_reel T.fd_law_reel ["script"] (spReel K) := ok_reel T
  have G_law_draw : FnOk P w K mg base CX0 1 T.a_law_draw T.fd_law_draw ["reel", "size"] spDraw := ok_draw T
  have G_law_pick : FnOk P w K mg base CX0 2 T.a_law_pick T.fd_law_pick ["reel", "row"] (spPick K) := ok_pick T
  have G_law_text : FnOk P w K mg base CX0 4 T.a_law_text T.fd_law_text ["reel"] (spText 2000) := ok_text T
  have G_law_edit_row : FnOk P w K mg base CX0 5 T.a_law_edit_row T.fd_law_edit_row ["reel", "text", "count"] spRow := ok_edit_row T
  have G_law_planted : FnOk P w K mg base CX0 5 T.a_law_planted T.fd_law_planted ["reel", "text", "edits", "many"] spPlanted := ok_planted T
  have G_law_first_unfit : FnOk P w K mg base CX0 1 T.a_law_first_unfit T.fd_law_first_unfit ["size", "edits"] spFirst := ok_first T
  have G_law_good : FnOk P w K mg base CX0 10 T.a_law_good T.fd_law_good ["text", "edits"] spGood := ok_good T G_apply G_inverse
  have G_law_refused : FnOk P w K mg base CX0 9 T.a_law_refused T.fd_law_refused ["text", "edits"] spRefused := ok_refused T G_inverse
  have G_law_number : FnOk P w K mg base CX0 1 T.a_law_number T.fd_law_number ["value"] spNumber := ok_number T
  refine T.F_law.ok sc_law (fun vs H Q E h => ?_) (fun cdv A outer s H vs Q E hr h => ?_)
  · obtain ⟨a, ns, rfl, _⟩ := h
    rfl
  · have hr_law_reel : Room 1 _ := hr.mono (by decide)
    have hr_law_draw : Room 1 _ := hr.mono (by decide)
    have hr_law_pick : Room 2 _ := hr.mono (by decide)
    have hr_law_text : Room 4 _ := hr.mono (by decide)
    have hr_law_edit_row : Room 5 _ := hr.mono (by decide)
    have hr_law_planted : Room 5 _ := hr.mono (by decide)
    have hr_law_first_unfit : Room 1 _ := hr.mono (by decide)
    have hr_law_good : Room 10 _ := hr.mono (by decide)
    have hr_law_refused : Room 9 _ := hr.mono (by decide)
    have hr_law_number : Room 1 _ := hr.mono (by decide)
    obtain ⟨a, ns, rfl, hA, hns, q⟩ := h
    refine ⟨_, (pss_cons (ps_set (i := 1) sc_law.nd rfl (.inl rfl) (pe_call G_law_reel hr_law_reel (by rfl) T.g_law_reel T.F_law_reel.kp T.b_law_reel .nil pass0 (pa_cons (pv 0) pa_nil)))
      (pss_cons (ps_set (i := 2) sc_law.nd rfl (.inl rfl) (pe_call G_law_pick hr_law_pick (by rfl) T.g_law_pick T.F_law_pick.kp T.b_law_pick .nil pass0 (pa_cons (pv 1) (pa_cons (pe_lst (pa_cons pe_int (pa_cons pe_int (pa_cons pe_int (pa_cons pe_int (pa_cons pe_int (pa_cons pe_int (pa_cons pe_int (pa_cons pe_int pa_nil))))))))) pa_nil))))
      (pss_cons (ps_set (i := 3) sc_law.nd rfl (.inl rfl) (pe_call G_law_pick hr_law_pick (by rfl) T.g_law_pick T.F_law_pick.kp T.b_law_pick .nil pass0 (pa_cons (pv 1) (pa_cons (pe_lst (pa_cons pe_int (pa_cons pe_int (pa_cons pe_int (pa_cons pe_int (pa_cons pe_int (pa_cons pe_int (pa_cons pe_int (pa_cons pe_int pa_nil))))))))) pa_nil))))
      (C8.pss_cut (ps_if (pt_cmpR op_eq (pe_call G_law_draw hr_law_draw (by rfl) T.g_law_draw T.F_law_draw.kp T.b_law_draw .nil pass0 (pa_cons (pv 1) (pa_cons pe_int pa_nil))) pe_int (nomark _)) (pss_one (ps_set (i := 3) sc_law.nd rfl (.inl rfl) (pe_op op_add pe_int (pe_call G_law_draw hr_law_draw (by rfl) T.g_law_draw T.F_law_draw.kp T.b_law_draw .nil pass0 (pa_cons (pv 1) (pa_cons pe_int pa_nil)))))) pss_nil)
      (pss_cons (ps_set (i := 4) sc_law.nd rfl (.inl rfl) (pe_call G_law_text hr_law_text (by rfl) T.g_law_text T.F_law_text.kp T.b_law_text .nil pass0 (pa_cons (pv 1) pa_nil)))
      (pss_cons (ps_set (i := 5) sc_law.nd rfl (.inl rfl) (pe_call G_law_planted hr_law_planted (by rfl) T.g_law_planted T.F_law_planted.kp T.b_law_planted .nil pass0 (pa_cons (pv 1) (pa_cons (pv 4) (pa_cons (pe_call G_law_edit_row hr_law_edit_row (by rfl) T.g_law_edit_row T.F_law_edit_row.kp T.b_law_edit_row .nil pass0 (pa_cons (pv 1) (pa_cons (pv 4) (pa_cons (pv 3) pa_nil)))) (pa_cons (pv 2) pa_nil))))))
      (pss_cons (ps_set (i := 6) sc_law.nd rfl (.inl rfl) (pe_call G_law_first_unfit hr_law_first_unfit (by rfl) T.g_law_first_unfit T.F_law_first_unfit.kp T.b_law_first_unfit .nil pass0 (pa_cons (pe_callB call_len_str (by rfl) T.m_len PySem.boot_len (pa_cons (pv 4) pa_nil)) (pa_cons (pv 5) pa_nil))))
      (pss_cons (ps_if (pt_cmpR op_eq (pv 6) (pe_un un_neg pe_int) (nomark _)) (pss_one (ps_ret (pe_call G_law_good hr_law_good (by rfl) T.g_law_good T.F_law_good.kp T.b_law_good .nil pass0 (pa_cons (pv 4) (pa_cons (pv 5) pa_nil))))) pss_nil)
      (pss_cons (ps_set (i := 7) sc_law.nd rfl (.inl rfl) (pe_callTy call_list_of (by rfl) T.m_list (by decide +kernel) (pa_cons (pv 5) pa_nil)))
      (pss_cons (ps_set (i := 8) sc_law.nd rfl (.inl rfl) (pe_call G_law_refused hr_law_refused (by rfl) T.g_law_refused T.F_law_refused.kp T.b_law_refused .nil pass0 (pa_cons (pv 4) (pa_cons (pv 7) pa_nil))))
      (pss_cons (ps_if (PW.pt (pw_or (pt_cmpR (op_neD hr.units) (pv 7) (pv 5) (nomark _)) (pw_or (pt_not (pt_val (pe_call G_law_number hr_law_number (by rfl) T.g_law_number T.F_law_number.kp T.b_law_number .nil pass0 (pa_cons (pe_ix ix_tup (pv 8) pe_int (fun _ _ => rfl)) pa_nil)))) (pw_or (pt_cmpR op_ne (pe_ix ix_tup (pv 8) pe_int (fun _ _ => rfl)) (pv 6) (nomark _)) (pw_or1 (pt_cmpR op_notBl (pe_ix ix_tup (pv 8) pe_int (fun _ _ => rfl)) pe_bl (nomark _))))))) (pss_one (ps_ret pe_bl)) pss_nil)
      (pss_one (ps_ret (pe_call G_law_good hr_law_good (by rfl) T.g_law_good T.F_law_good.kp T.b_law_good .nil pass0 (pa_cons (pv 4) (pa_cons (pe_slice sl_list (pv 5) po_none (po_some (pv 6))) pa_nil)))))))))))))))), ?_⟩
    -- reel
    refine ⟨_, rfl, a, ns, rfl, hA, fun H1 r s1 nr hR1 => ?_⟩
    -- many
    refine ⟨_, rfl, by show 8 ≤ sizeLine; decide, fun p np => ?_⟩
    refine ⟨r, _, rfl, hR1.new np, .inr ⟨p, _, rfl, (hR1.ne np).symm, SqL.of upd_same, by show 0 < 8; decide, fun v H2 hv hb2 hR2 => ?_⟩⟩
    obtain ⟨m, rfl, m0, m1⟩ := intsIn_mem (lo := 0) (hi := 2) (by decide +kernel) v hv
    -- count
    refine ⟨_, rfl, by show 8 ≤ sizeLine; decide, fun p2 np2 => ?_⟩
    refine ⟨r, _, rfl, hR2.new np2, .inr ⟨p2, _, rfl, (hR2.ne np2).symm, SqL.of upd_same, by show 0 < 8; decide, fun v H3 hv hb3 hR3 => ?_⟩⟩
    obtain ⟨c, rfl, c0, c1⟩ := intsIn_mem (lo := 0) (hi := 12) (by decide +kernel) v hv
    -- if draw(16) == 0
    refine ⟨lawMid a r m, ?_, ?_⟩
    · refine ⟨_, rfl, r, _, rfl, hR3, by decide, fun d H4 d0 d1 hb4 hR4 => ⟨rfl, _, rfl, ite2 (fun e => ?_) (fun e => ?_)⟩⟩
      · refine ⟨_, rfl, r, _, rfl, hR4, by decide, fun d2 H5 e0 e1 hb5 hR5 => ⟨13, d2, rfl, rfl, ⟨_, rfl, by omega, by omega, hR5⟩⟩⟩
      · exact ⟨c, rfl, c0, by omega, hR4⟩
    · rintro σ H4 ⟨c, rfl, c0, c1, hR4⟩
      -- text
      refine ⟨_, rfl, r, rfl, hR4, fun z H5 hz hzo hb5 hR5 => ?_⟩
      -- edits
      refine ⟨_, rfl, _, rfl, _, rfl, _, rfl, _, rfl, r, z, c, rfl, hR5, hz, hzo, c0, by omega, fun l H6 us es nl hus hue hlen hbd hfit hb6 hR6 => ?_⟩
      have hsh0 : Short es := fun e he => ⟨(hbd e he).2.2.1, (hbd e he).2.2.2⟩
      have hlr : l ≠ r := (hR5.ne nl).symm
      refine ⟨_, rfl, r, l, z, m, us, es, rfl, hR6, hus, hlr, hue, hsh0, hfit, hz, by omega, m0, by omega, fun l' H7 us' es' hl' hlr' hue' hlen' hsh hb7 hR7 => ?_⟩
      have hn' : es'.length ≤ 300 := by omega
      have hE7 : EdsAt H7 l' es' := ⟨us', hl', hue'⟩
      have lz := len_cs z
      -- first
      refine ⟨_, rfl, _, rfl, sz1 (by omega), _, rfl, z.length, l', es', rfl, hE7, hsh, by omega, ?_⟩
      rw [lz]
      have hlim2 := short_lim2 (t := cs z) hsh hz (by omega)
      cases hun : unfit (cs z).length es' with
      | none =>
        have hf := unfit_none.mp hun
        have e1 : unfitI (cs z).length es' = -1 := by unfold unfitI; rw [hun]
        rw [e1]
        refine ⟨_, rfl, 1, rfl, rfl, _, rfl, iteT ?_⟩
        exact ⟨_, rfl, _, rfl, z, l', es', rfl, hE7, hsh.sized, by omega, by omega, hzo, hf, hlim2, fun H' => q H'⟩
      | some k =>
        obtain ⟨hfk, hkl⟩ := unfit_take hun
        have e1 : unfitI (cs z).length es' = (k : Int) := by unfold unfitI; rw [hun]
        rw [e1]
        refine ⟨_, rfl, 1, rfl, rfl, _, rfl, ite2 (fun e => ?_) (fun e => ?_)⟩
        · exfalso
          have h1 : (k : Int) = -1 := V.int.inj (of_decide_eq_true e)
          omega
        · -- handed
          refine ⟨_, rfl, l', us', rfl, .inl (SqL.of hl'), fun hd nhd => ?_⟩
          have hH8 : EdsAt (upd H7 hd (.lst us')) hd es' := ⟨us', upd_same, hue'.mono (Tups.new nhd)⟩
          have hE8 := hE7.mono (same_upd (o := .lst us') nhd)
          have hoes : ∀ e ∈ es', TOk e.2.2 := fun e he => (hsh e he).2
          -- told
          refine ⟨_, rfl, _, rfl, z, hd, es', k, rfl, hH8, hsh.sized, by omega, by omega, hzo, hlim2, hun, fun t H9 s9 ht => ?_⟩
          refine ⟨_, rfl, _, rfl, .list (es'.map edD), .list (es'.map edD), (hH8.mono s9).dp, (hE8.mono s9).dp, edL_shaped hoes, edL_shaped hoes, ?_⟩
          rw [SeqAt.eqv_refl _ (edL_lay hoes)]
          refine ⟨_, rfl, iteF ?_⟩
          refine ⟨_, rfl, t, _, 0, .int (k : Int), rfl, rfl, SqT.of ht, atI_nat (j := 0) rfl, _, rfl, true, rfl, iteF ?_⟩
          refine ⟨_, rfl, t, _, 0, .int (k : Int), rfl, rfl, SqT.of ht, atI_nat (j := 0) rfl, _, rfl, rfl, _, rfl, ite2 (fun e => ?_) (fun _ => ?_)⟩
          · exact absurd e (by simp)
          -- told[1] is not True
          refine ⟨_, rfl, t, _, 1, .bl true, rfl, rfl, SqT.of ht, atI_nat (j := 1) rfl, true, true, rfl, rfl, _, rfl, iteF ?_⟩
          -- return
          have s8 : Same H7 (upd H7 hd (.lst us')) := same_upd nhd
          have hE9 := hE8.mono s9
          obtain ⟨us9, hu9, hue9⟩ := id hE9
          refine ⟨_, rfl, _, rfl, _, rfl, _, rfl, l', us9, rfl, SqL.of hu9, fun c nc => ?_⟩
          rw [cutV_pre]
          have hcut : EdsAt (upd H9 c (.lst (us9.take k))) c (es'.take k) := ⟨us9.take k, upd_same, paired_take k (hue9.mono (Tups.new nc))⟩
          refine ⟨z, c, es'.take k, rfl, hcut, fun e he => hsh.sized e (List.mem_of_mem_take he), ?_, by omega, hzo, hfk, hlim2.take k, fun H' => q H'⟩
          rw [List.length_take]
          omega


/-! ### walks over texts -/
theorem for_strS {x : Str} {g : L2.TG} {tb : L2.TS} {D : L2.Ends} {σ : L2.St} {H : Hp} (Pv : Nat → L2.St → Hp → Prop) (h0 : Pv 0 σ H)
    (hs : ∀ i c σ H, x.cps[i]? = some c → Pv i σ H → g (.str ⟨#[c]⟩) σ H fun σ2 H2 => tb { D with nx := Pv (i + 1), ct := Pv (i + 1), bk := D.nx } σ2 H2) (hd : ∀ σ H, Pv x.cps.size σ H → D.nx σ H) :
    ∃ Wk : Nat → Nat → L2.St → Hp → Prop, (∃ mm, Wk 0 mm σ H) ∧ ∀ i mm σ H, Wk i mm σ H →
      ((Its x).stop i H ∧ D.nx σ H) ∨ ((Its x).go i H ∧ ∃ N : L2.St → Hp → Prop, (∀ σ' H', N σ' H' → ∃ mm', mm' < mm ∧ Wk (i + 1) mm' σ' H') ∧ ∀ y H', (Its x).yld i H y H' → g y σ H' fun σ2 H2 => tb { D with nx := N, ct := N, bk := D.nx } σ2 H2) := by
  refine ⟨fun i mm σ H => mm = x.cps.size - i ∧ i ≤ x.cps.size ∧ Pv i σ H, ⟨x.cps.size, by simp, Nat.zero_le _, h0⟩, ?_⟩
  rintro i mm σ H ⟨rfl, hi, pz⟩
  by_cases hlt : i < x.cps.size
  · refine .inr ⟨hlt, Pv (i + 1), fun σ' H' pz' => ⟨x.cps.size - (i + 1), by omega, rfl, hlt, pz'⟩, fun y H' hy => ?_⟩
    obtain ⟨rfl, c, hc, rfl⟩ := hy
    exact hs i c σ H' hc pz
  · have ee : i = x.cps.size := by omega
    subst ee
    exact .inl ⟨Nat.le_refl _, hd σ H pz⟩
theorem lc_strS {x : Str} {g : L2.TG} {tt : L2.TT} {te : L2.TE} {vs : List Nat} {σ : L2.St} {H1 : Hp} {D : Addr} {Qd : Hp → Prop} (Pv : Nat → Hp → Prop) (h0 : Pv 0 (upd H1 D (.lst [])))
    (hs : ∀ i c H, x.cps[i]? = some c → Pv i H → g (.str ⟨#[c]⟩) (wipe σ vs) H fun σ2 H2 => wipe σ2 vs = wipe σ vs ∧ tt σ2 H2 fun b H3 =>
      if b = true then te σ2 H3 fun y H4 => ∃ acc, H4 D = some (.lst acc) ∧ acc.length < sizeLine ∧ Pv (i + 1) (upd H4 D (.lst (acc ++ [y]))) else Pv (i + 1) H3) (hd : ∀ H, Pv x.cps.size H → Qd H) :
    ∃ Wk : Nat → Nat → Hp → Prop, (∃ mm, Wk 0 mm (upd H1 D (.lst []))) ∧ ∀ i mm H, Wk i mm H →
      ((Its x).stop i H ∧ Qd H) ∨ ((Its x).go i H ∧ ∃ Nx : Hp → Prop, (∀ H', Nx H' → ∃ mm', mm' < mm ∧ Wk (i + 1) mm' H') ∧ ∀ y H', (Its x).yld i H y H' → g y (wipe σ vs) H' fun σ2 H2 => wipe σ2 vs = wipe σ vs ∧ tt σ2 H2 fun b H3 =>
        if b = true then te σ2 H3 fun y H4 => ∃ acc, H4 D = some (.lst acc) ∧ acc.length < sizeLine ∧ Nx (upd H4 D (.lst (acc ++ [y]))) else Nx H3) := by
  refine ⟨fun i mm H => mm = x.cps.size - i ∧ i ≤ x.cps.size ∧ Pv i H, ⟨x.cps.size, by simp, Nat.zero_le _, h0⟩, ?_⟩
  rintro i mm H ⟨rfl, hi, pz⟩
  by_cases hlt : i < x.cps.size
  · refine .inr ⟨hlt, Pv (i + 1), fun H' pz' => ⟨x.cps.size - (i + 1), by omega, rfl, hlt, pz'⟩, fun y H' hy => ?_⟩
    obtain ⟨rfl, c, hc, rfl⟩ := hy
    exact hs i c H' hc pz
  · have ee : i = x.cps.size := by omega
    subst ee
    exact .inl ⟨Nat.le_refl _, hd H pz⟩
/-- a walk over enumerate(xs) -/
theorem for_enumS {K : PySem.W.Frag} {a : Addr} {xs : List V} {g : L2.TG} {tb : L2.TS} {D : L2.Ends} {σ : L2.St} {H : Hp} (Pv : Nat → L2.St → Hp → Prop) (h0 : Pv 0 σ H) (hl : ∀ i σ H, i ≤ xs.length → Pv i σ H → SqL K H a xs)
    (hs : ∀ i x t σ H, xs[i]? = some x → Pv i σ H → H t = none → g (.ref t) σ (upd H t (.tup [.int (i : Nat), x])) fun σ2 H2 => tb { D with nx := Pv (i + 1), ct := Pv (i + 1), bk := D.nx } σ2 H2) (hd : ∀ σ H, Pv xs.length σ H → D.nx σ H) :
    ∃ Wk : Nat → Nat → L2.St → Hp → Prop, (∃ mm, Wk 0 mm σ H) ∧ ∀ i mm σ H, Wk i mm σ H →
      ((Ite K a).stop i H ∧ D.nx σ H) ∨ ((Ite K a).go i H ∧ ∃ N : L2.St → Hp → Prop, (∀ σ' H', N σ' H' → ∃ mm', mm' < mm ∧ Wk (i + 1) mm' σ' H') ∧ ∀ y H', (Ite K a).yld i H y H' → g y σ H' fun σ2 H2 => tb { D with nx := N, ct := N, bk := D.nx } σ2 H2) := by
  refine ⟨fun i mm σ H => mm = xs.length - i ∧ i ≤ xs.length ∧ Pv i σ H, ⟨xs.length, by simp, Nat.zero_le _, h0⟩, ?_⟩
  rintro i mm σ H ⟨rfl, hi, pz⟩
  have q := hl i σ H hi pz
  by_cases hlt : i < xs.length
  · have hx : xs[i]? = some (xs[i]) := List.getElem?_eq_getElem hlt
    refine .inr ⟨⟨xs, xs[i], q, hx⟩, Pv (i + 1), fun σ' H' pz' => ⟨xs.length - (i + 1), by omega, rfl, hlt, pz'⟩, fun y H' hy => ?_⟩
    obtain ⟨t, x, rfl, ht, rfl, hall⟩ := hy
    exact hs i x t σ H (hall xs q) pz ht
  · have ee : i = xs.length := by omega
    subst ee
    exact .inl ⟨⟨xs, q, Nat.le_refl _⟩, hd σ H pz⟩

def okNum (v : V) : Prop := ∃ n : Int, v = .int n ∧ 0 ≤ n ∧ n ≤ 100000

/-! ### the error's making -/
theorem log_small {i : Int} (h0 : 0 ≤ i) (h : i ≤ 1000000) : i.natAbs.log2 < 1920 := by
  have h1 : i.natAbs ≤ 1000000 := by omega
  have h2 : i.natAbs < 2 ^ 1920 := Nat.lt_of_le_of_lt h1 (by decide +kernel)
  by_cases hz : i.natAbs = 0
  · rw [hz]
    decide +kernel
  · exact (Nat.log2_lt hz).mpr h2
theorem ok_EditError_init (T : Txt K mg) : FnOk P w K mg base CX0 2 T.a_EditError_init T.fd_EditError_init ["self", "index"] (spInit1 "index" T.C_EditError okNum) := by
  refine T.F_EditError_init.ok sc_EditError_init (fun vs H Q E h => ?_) (fun cdv A outer s H vs Q E hr h => ?_)
  · obtain ⟨a, v, rfl, _⟩ := h
    rfl
  · obtain ⟨a, v, rfl, ⟨n, rfl, n0, n1⟩, ha, q⟩ := h
    refine ⟨_, (pss_cons (ps_expr (pe_baseInit (by rfl) T.G_MendedError T.B_MendedError (pa_cons (pv 0) (pa_cons (pe_joined (.cons pe_str (.cons (pe_fmt (pv 1)) (.cons pe_str .nil)))) pa_nil))))
      (pss_one (ps_ost (pv 0) (pv 1)))), ?_⟩
    have big : sizeLine = 2 ^ 24 := rfl
    have ln := PyProof.Rows.int_text_len_1921 (log_small n0 (by omega))
    refine ⟨_, rfl, _, rfl, ?_, _, rfl, .inr ⟨n, rfl, log_small n0 (by omega), _, rfl, ?_, _, rfl, ?_, ?_⟩⟩
    · rw [strLen_append, big]
      show 0 + 9 ≤ _
      omega
    · rw [strLen_append, strLen_append, big]
      show 0 + 9 + (Str.ofString (toString n)).length ≤ _
      omega
    · rw [strLen_append, strLen_append, strLen_append, big]
      show 0 + 9 + (Str.ofString (toString n)).length + 13 ≤ _
      omega
    refine ⟨a, _, _, rfl, by show 1 ≤ 1000; decide, T.E_EditError.oex, ha, ?_⟩
    refine ⟨_, rfl, _, rfl, a, _, rfl, T.E_EditError.oex, T.n_EditError_index, .inl ⟨ha, fun dx nd hne => ?_⟩⟩
    exact q dx nd hne

/-! ### the first edit that does not fit -/
def unfitV (n : Nat) (es : List Ed) : V := match unfit n es with
  | some k => .int (k : Int)
  | none => .non
def spFU : Sp := fun vs H Q _ => ∃ (n : Nat) (l : Addr) (es : List Ed), vs = [.int (n : Int), .ref l] ∧ EdsAt H l es ∧ Sized es ∧ es.length ≤ 2000 ∧ ∀ H', Same H H' → Q (unfitV n es) H'
theorem ok_first_misfit (T : Txt K mg) : FnOk P w K mg base CX0 2 T.a_first_misfit T.fd_first_misfit ["length", "edits"] spFU := by
  refine T.F_first_misfit.ok sc_first_misfit (fun vs H Q E h => ?_) (fun cdv A outer s H vs Q E hr h => ?_)
  · obtain ⟨n, l, es, rfl, _⟩ := h
    rfl
  · obtain ⟨n, l, es, rfl, hE, hS, hn, q⟩ := h
    obtain ⟨us, hus, hue⟩ := id hE
    have lu := paired_len hue
    refine ⟨_, (pss_cons (ps_for PassesOwn.never rfl (pi_enum (by rfl) T.m_enumerate (pa_cons (pv 1) pa_nil)) (pg_tup (by rfl) (pgs_cons (pg_name (i := 2) sc_first_misfit.nd rfl (.inl rfl)) (pgs_cons (pg_tup (by rfl) (pgs_cons (pg_name (i := 3) sc_first_misfit.nd rfl (.inl rfl)) (pgs_cons (pg_name (i := 4) sc_first_misfit.nd rfl (.inl rfl)) (pgs_cons (pg_name (i := 5) sc_first_misfit.nd rfl (.inl rfl)) pgs_nil)))) pgs_nil))) (pss_cons (ps_if (PW.pt (pw_or (pt_cmpR op_lt (pv 3) pe_int (nomark _)) (pw_or (pt_cmpR op_lt (pv 4) (pv 3) (nomark _)) (pw_or1 (pt_cmpR op_gt (pv 4) (pv 0) (nomark _)))))) (pss_one (ps_ret (pv 2))) pss_nil)
      (pss_one (ps_set (i := 0) sc_first_misfit.nd rfl (.inl rfl) (pe_op op_sub (pe_op op_add (pv 0) (pe_callB call_len_str (by rfl) T.m_len PySem.boot_len (pa_cons (pv 5) pa_nil))) (pe_op op_sub (pv 4) (pv 3)))))))
      (pss_one (ps_ret pe_non))), ?_⟩
    refine ⟨_, rfl, l, us, rfl, SqL.of hus, ?_⟩
    refine for_enumS (K := K) (a := l) (xs := us) (fun i σ H' => Same H H' ∧ fitsL n (es.take i) ∧ ∃ y3 y4 y5 y6 : Option V, σ = [some (.int ((sizeL n (es.take i) : Nat) : Int)), some (.ref l), y3, y4, y5, y6])
      ⟨Same.refl _, True.intro, none, none, none, none, rfl⟩ (fun i σ H' _ ⟨s, _⟩ => SqL.of (s _ _ hus)) ?_ ?_
    · rintro i x t σ H1 hx ⟨sm, hf, y3, y4, y5, y6, rfl⟩ nt
      obtain ⟨e, he⟩ : ∃ e, es[i]? = some e := ⟨_, List.getElem?_eq_getElem (by rw [← lu]; exact (List.getElem?_eq_some_iff.mp hx).1)⟩
      obtain ⟨x', hx', te, rfl, hte⟩ := paired_get hue he
      rw [hx] at hx'
      have h1 := Option.some.inj hx'
      subst h1
      have len2 := (hS e (List.mem_of_getElem? he)).1
      have l2 : e.2.2.length ≤ 4000000 := by rw [len_cs]; exact len2
      have s1 := sm.trans (same_upd (o := .tup [.int ((i : Nat) : Int), .ref te]) nt)
      refine ⟨t, _, rfl, SqT.of upd_same, rfl, _, _, rfl, _, _, rfl, te, _, rfl, SqT.of (s1 _ _ hte), rfl, _, _, rfl, _, _, rfl, _, _, rfl, rfl, rfl, ?_⟩
      have bad : ¬ fit1 (sizeL n (es.take i)) e → Q (.int (i : Int)) (upd H1 t (.tup [.int ((i : Nat) : Int), .ref te])) := fun h => by
        have h1 := unfit_here hf he h
        have h2 : unfitV n es = .int (i : Int) := by
          unfold unfitV
          rw [h1]
        have h3 := q _ s1
        rw [h2] at h3
        exact h3
      refine ⟨_, rfl, e.1, 0, rfl, rfl, _, rfl, ite2 (fun c => ?_) (fun c => ?_)⟩
      · refine iteT ⟨_, rfl, bad fun f => ?_⟩
        have := of_decide_eq_true c
        have := f.1
        omega
      · refine ⟨_, rfl, _, rfl, e.2.1, e.1, rfl, rfl, _, rfl, ite2 (fun c2 => ?_) (fun c2 => ?_)⟩
        · refine iteT ⟨_, rfl, bad fun f => ?_⟩
          have := of_decide_eq_true c2
          have := f.2.1
          omega
        · refine ⟨_, rfl, _, rfl, e.2.1, _, rfl, rfl, _, rfl, ite2 (fun c3 => ?_) (fun c3 => ?_)⟩
          · refine ⟨_, rfl, bad fun f => ?_⟩
            have := of_decide_eq_true c3
            have := f.2.2
            omega
          · have f1 : fit1 (sizeL n (es.take i)) e := by
              have g1 : ¬ e.1 < 0 := fun h => c (decide_eq_true h)
              have g2 : ¬ e.2.1 < e.1 := fun h => c2 (decide_eq_true h)
              have g3 : ¬ ((sizeL n (es.take i) : Nat) : Int) < e.2.1 := fun h => c3 (decide_eq_true h)
              refine And.intro ?_ (And.intro ?_ ?_) <;> omega
            refine ⟨_, rfl, _, rfl, _, rfl, szM (by omega), _, _, rfl, rfl, _, rfl, _, rfl, _, _, rfl, rfl, _, _, rfl, rfl, ?_⟩
            have e3 : ((sizeL n (es.take i) : Nat) : Int) + (e.2.2.length : Int) - (e.2.1 - e.1) = ((sizeL n (es.take (i + 1)) : Nat) : Int) := by
              obtain ⟨a1, a2, a3⟩ := f1
              rw [take_more he, sizeL_snoc]
              have v4 : size1 (sizeL n (es.take i)) e = sizeL n (es.take i) - (e.2.1.toNat - e.1.toNat) + (cs e.2.2).length := rfl
              have v5 := len_cs e.2.2
              omega
            refine ⟨s1, ?_, some (.int ((i : Nat) : Int)), some (.int e.1), some (.int e.2.1), some (.str e.2.2), ?_⟩
            · rw [take_more he]
              exact (fitsL_snoc _ _ _).mpr ⟨hf, f1⟩
            · rw [← e3]
              rfl
    · rintro σ H1 ⟨sm, hf, y3, y4, y5, y6, rfl⟩
      rw [lu, List.take_length] at hf
      have h1 : unfitV n es = .non := by
        unfold unfitV
        rw [unfit_none.mpr hf]
      rw [h1] at q
      exact q _ sm
/-! ### check -/
def spCheck (C : Addr) : Sp := fun vs H Q E => ∃ (n : Nat) (l : Addr) (es : List Ed), vs = [.int (n : Int), .ref l] ∧ EdsAt H l es ∧ Sized es ∧ es.length ≤ 2000 ∧ (fitsL n es → ∀ H', Same H H' → Q .non H') ∧ (∀ k, unfit n es = some k → ErrAt C H E k)
theorem ok_check_fits (T : Txt K mg) : FnOk P w K mg base (L2.CX P w) 4 T.a_check_fits T.fd_check_fits ["length", "edits"] (spCheck T.C_EditError) := by
  have G_first_misfit : FnOk P w K mg base CX0 2 T.a_first_misfit T.fd_first_misfit ["length", "edits"] spFU := ok_first_misfit T
  have G_EditError_init : FnOk P w K mg base CX0 2 T.a_EditError_init T.fd_EditError_init ["self", "index"] (spInit1 "index" T.C_EditError okNum) := ok_EditError_init T
  refine T.F_check_fits.okX sc_check_fits (fun vs H Q E h => ?_) (fun cdv A outer s H vs Q E hr h => ?_)
  · obtain ⟨n, l, es, rfl, _⟩ := h
    rfl
  · have hr_first_misfit : Room 2 _ := hr.mono (by decide)
    have hr_EditError_init : Room 3 _ := hr
    obtain ⟨n, l, es, rfl, hE, hS, hn, q1, q2⟩ := h
    refine ⟨_, (pss_cons (ps_set (i := 2) sc_check_fits.nd rfl (.inl rfl) (pe_call G_first_misfit hr_first_misfit (by rfl) T.g_first_misfit T.F_first_misfit.kp T.b_first_misfit .nil pass0 (pa_cons (pv 0) (pa_cons (pv 1) pa_nil))))
      (pss_one (ps_if (pt_cmpR op_notN (pv 2) pe_non (nomark _)) (pss_one (ps_raise rfl (takes_of rfl rfl rfl rfl) (pmk_oex T.E_EditError.oex T.E_EditError.iC T.E_EditError.tI G_EditError_init hr_EditError_init T.b_EditError_init .nil pass0 (by rfl) T.E_EditError.g (pa_cons (pv 2) pa_nil)))) pss_nil))), ?_⟩
    refine ⟨_, rfl, _, rfl, n, l, es, rfl, hE, hS, hn, fun H1 s1 => ?_⟩
    cases hun : unfit n es with
    | none =>
      have e1 : unfitV n es = .non := by unfold unfitV; rw [hun]
      rw [e1]
      refine ⟨_, rfl, rfl, _, rfl, iteF ?_⟩
      exact q1 (unfit_none.mp hun) _ s1
    | some k =>
      obtain ⟨_, hkl⟩ := unfit_take hun
      have e1 : unfitV n es = .int (k : Int) := by unfold unfitV; rw [hun]
      rw [e1]
      refine ⟨_, rfl, rfl, _, rfl, iteT ?_⟩
      refine mk1 (ta := tCons (tVar 2) tNil) (f := "index") (ok := okNum) ?_ ?_
      · refine ⟨_, rfl, .int (k : Int), rfl, ⟨_, rfl, by omega, by omega⟩, fun d H' sm nd hd => ?_⟩
        have nd0 : H d = none := by
          cases e : H d with
          | none => rfl
          | some o =>
            rw [s1 _ _ e] at nd
            cases nd
        exact q2 k hun d H' (s1.trans sm) nd0 hd
      · rintro Q1 Q2 h ⟨x, e1, q⟩
        exact ⟨x, e1, h _ _ q⟩

/-! ### apply -/
theorem ok_apply (T : Txt K mg) : FnOk P w K mg base (L2.CX P w) 8 T.a_apply T.fd_apply ["text", "edits"] (spApply T.C_EditError) := by
  have G_check_fits : FnOk P w K mg base (L2.CX P w) 4 T.a_check_fits T.fd_check_fits ["length", "edits"] (spCheck T.C_EditError) := ok_check_fits T
  refine T.F_apply.okX sc_apply (fun vs H Q E h => ?_) (fun cdv A outer s H vs Q E hr h => ?_)
  · obtain ⟨z, l, es, rfl, _⟩ := h
    rfl
  · have hr_check_fits : Room 4 _ := hr.mono (by decide)
    obtain ⟨z, l, es, rfl, hE, hS, hn, hz, ho, hl, q1, q2⟩ := h
    have lz := len_cs z
    refine ⟨_, (pss_cons (ps_expr (pe_call G_check_fits hr_check_fits (by rfl) T.g_check_fits T.F_check_fits.kp T.b_check_fits .nil (passes_call (takes_of rfl rfl rfl rfl) (fun _ _ _ _ z => z)) (pa_cons (pe_callB call_len_str (by rfl) T.m_len PySem.boot_len (pa_cons (pv 0) pa_nil)) (pa_cons (pv 1) pa_nil))))
      (pss_cons (ps_for (passes_of rfl) rfl (pi_list (pv 1)) (pg_tup (by rfl) (pgs_cons (pg_name (i := 2) sc_apply.nd rfl (.inl rfl)) (pgs_cons (pg_name (i := 3) sc_apply.nd rfl (.inl rfl)) (pgs_cons (pg_name (i := 4) sc_apply.nd rfl (.inl rfl)) pgs_nil)))) (pss_one (ps_set (i := 0) sc_apply.nd rfl (.inl rfl) (pe_op op_add_str (pe_op op_add_str (pe_slice sl_str (pv 0) po_none (po_some (pv 2))) (pv 4)) (pe_slice sl_str (pv 0) (po_some (pv 3)) po_none)))))
      (pss_one (ps_ret (pv 0))))), ?_⟩
    refine ⟨_, rfl, _, rfl, szM (by omega), _, rfl, z.length, l, es, rfl, hE, hS, hn, fun hf H1 s1 => ?_, fun k hk => ?_⟩
    · rw [lz] at hf
      obtain ⟨us, hus, hue⟩ := id hE
      have lu := paired_len hue
      refine ⟨_, rfl, l, rfl, ⟨_, SqL.of (s1 _ _ hus)⟩, ?_⟩
      refine for_list (K := K) (a := l) (xs := us) (fun i σ H' => H' = H1 ∧ ∃ (now : Str) (y2 y3 y4 : Option V), σ = [some (.str now), some (.ref l), y2, y3, y4] ∧ cs now = appl (cs z) (es.take i))
        ⟨rfl, z, none, none, none, rfl, rfl⟩ (fun i σ H' _ ⟨e, _⟩ => by rw [e]; exact SqL.of (s1 _ _ hus)) ?_ ?_
      · rintro i x σ H2 hx ⟨rfl, now, y2, y3, y4, rfl, hnow⟩
        obtain ⟨e, he⟩ : ∃ e, es[i]? = some e := ⟨_, List.getElem?_eq_getElem (by rw [← lu]; exact (List.getElem?_eq_some_iff.mp hx).1)⟩
        obtain ⟨x', hx', t, rfl, ht0⟩ := paired_get hue he
        rw [hx] at hx'
        have h1 := Option.some.inj hx'
        subst h1
        have ht := s1 _ _ ht0
        have hf1 := fitsL_get hf he
        rw [← appl_len (fitsL_take i hf), ← hnow] at hf1
        obtain ⟨a, b, hab, h2, h3⟩ := fit_nat hf1
        have lim1 := hl (i + 1) (fitsL_take _ hf)
        rw [take_more he, appl_snoc, ← hnow] at lim1
        rw [hab] at ht lim1
        have ht : H2 t = some (.tup [.int (a : Int), .int (b : Int), .str e.2.2]) := ht
        have lim2 : (spliceL (cs now) a b (cs e.2.2)).length ≤ 4000000 := lim1
        have lim0 := hl i (fitsL_take _ hf)
        rw [← hnow] at lim0
        have sp := spl_pre (cs now) a b (cs e.2.2)
        have l1 : (cutS now none (some (a : Int))).length = ((cs now).take a).length := by rw [len_cs, cut_pre]
        refine ⟨t, _, rfl, SqT.of ht, rfl, _, _, rfl, _, _, rfl, _, _, rfl, rfl, ?_⟩
        refine ⟨_, rfl, _, rfl, _, rfl, now, rfl, szM (by rw [len_cs]; exact lim0), _, rfl, _, _, rfl, rfl, szM (by rw [l1, len_cs]; omega), ?_⟩
        refine ⟨_, rfl, _, rfl, _, rfl, now, rfl, szM (by rw [len_cs]; exact lim0), _, _, rfl, rfl, ?_, rfl, _, _, _, _, rfl, ?_⟩
        · have h9 : (cutS now none (some (a : Int)) ++ e.2.2 ++ cutS now (some (b : Int)) none).length = (cutS now none (some (a : Int)) ++ e.2.2).length + (cutS now (some (b : Int)) none).length := by
            rw [len_cs, len_cs, len_cs, cs_app, List.length_append]
          rw [← h9, len_cs, cs_splice]
          exact szM lim2
        · rw [cs_splice, take_more he, appl_snoc, ← hnow]
          rw [hab]
          rfl
      · rintro σ H2 ⟨rfl, now, y2, y3, y4, rfl, hnow⟩
        rw [lu, List.take_length] at hnow
        refine ⟨_, rfl, ?_⟩
        rw [mkS_eq hnow]
        exact q1 hf _ s1
    · rw [lz] at hk
      exact q2 k hk

/-! ### inverse -/
theorem paired_rev {α β : Type} {F : α → β → Prop} : ∀ {xs : List α} {ys : List β}, Paired F xs ys → Paired F xs.reverse ys.reverse
  | _, _, .nil => .nil
  | _, _, .cons h r => by
    rw [List.reverse_cons, List.reverse_cons]
    exact paired_app (paired_rev r) (.cons h .nil)
theorem ok_inverse (T : Txt K mg) : FnOk P w K mg base (L2.CX P w) 8 T.a_inverse T.fd_inverse ["text", "edits"] (spInverse T.C_EditError) := by
  have G_check_fits : FnOk P w K mg base (L2.CX P w) 4 T.a_check_fits T.fd_check_fits ["length", "edits"] (spCheck T.C_EditError) := ok_check_fits T
  refine T.F_inverse.okX sc_inverse (fun vs H Q E h => ?_) (fun cdv A outer s H vs Q E hr h => ?_)
  · obtain ⟨z, l, es, rfl, _⟩ := h
    rfl
  · have hr_check_fits : Room 4 _ := hr.mono (by decide)
    obtain ⟨z, l, es, rfl, hE, hS, hn, hz, ho, hl, q1, q2⟩ := h
    have lz := len_cs z
    refine ⟨_, (pss_cons (ps_expr (pe_call G_check_fits hr_check_fits (by rfl) T.g_check_fits T.F_check_fits.kp T.b_check_fits .nil (passes_call (takes_of rfl rfl rfl rfl) (fun _ _ _ _ z => z)) (pa_cons (pe_callB call_len_str (by rfl) T.m_len PySem.boot_len (pa_cons (pv 0) pa_nil)) (pa_cons (pv 1) pa_nil))))
      (pss_cons (ps_set (i := 2) sc_inverse.nd rfl (.inl rfl) (pe_lst pa_nil))
      (pss_cons (ps_for (passes_of rfl) rfl (pi_list (pv 1)) (pg_tup (by rfl) (pgs_cons (pg_name (i := 3) sc_inverse.nd rfl (.inl rfl)) (pgs_cons (pg_name (i := 4) sc_inverse.nd rfl (.inl rfl)) (pgs_cons (pg_name (i := 5) sc_inverse.nd rfl (.inl rfl)) pgs_nil)))) (pss_cons (ps_expr (pe_bm PySem.F.plainAttrs_list PySem.F.slot_list_append PySem.F.type_list_append mt_append (pv 2) (pa_cons (pe_tup (pa_cons (pv 3) (pa_cons (pe_op op_add (pv 3) (pe_callB call_len_str (by rfl) T.m_len PySem.boot_len (pa_cons (pv 5) pa_nil))) (pa_cons (pe_slice sl_str (pv 0) (po_some (pv 3)) (po_some (pv 4))) pa_nil)))) pa_nil)))
      (pss_one (ps_set (i := 0) sc_inverse.nd rfl (.inl rfl) (pe_op op_add_str (pe_op op_add_str (pe_slice sl_str (pv 0) po_none (po_some (pv 3))) (pv 5)) (pe_slice sl_str (pv 0) (po_some (pv 4)) po_none))))))
      (pss_cons (ps_expr (pe_bm0 PySem.F.plainAttrs_list PySem.F.slot_list_reverse PySem.F.type_list_reverse mt_reverse (pv 2)))
      (pss_one (ps_ret (pv 2))))))), ?_⟩
    refine ⟨_, rfl, _, rfl, szM (by omega), _, rfl, z.length, l, es, rfl, hE, hS, hn, fun hf H1 s1 => ?_, fun k hk => ?_⟩
    · rw [lz] at hf
      obtain ⟨us, hus, hue⟩ := id hE
      have lu := paired_len hue
      refine ⟨Nat.zero_le _, fun p np => ?_⟩
      have hp0 : H p = none := by
        cases e : H p with
        | none => rfl
        | some o =>
          rw [s1 _ _ e] at np
          cases np
      refine ⟨_, rfl, l, rfl, ⟨_, SqL.of ((s1.trans (same_upd np)) _ _ hus)⟩, ?_⟩
      refine for_list (K := K) (a := l) (xs := us) (fun i σ H' => Same H H' ∧ ∃ (now : Str) (ws : List V) (y3 y4 y5 : Option V), σ = [some (.str now), some (.ref l), some (.ref p), y3, y4, y5] ∧ cs now = appl (cs z) (es.take i) ∧ H' p = some (.lst ws) ∧ EdsIn H' ws (backL (cs z) (es.take i)).reverse)
        ⟨s1.trans (same_upd np), z, [], none, none, none, rfl, rfl, upd_same, .nil⟩ (fun i σ H' _ ⟨s, _⟩ => SqL.of (s _ _ hus)) ?_ ?_
      · rintro i x σ H2 hx ⟨sm, now, ws, y3, y4, y5, rfl, hnow, hp, hw⟩
        obtain ⟨e, he⟩ : ∃ e, es[i]? = some e := ⟨_, List.getElem?_eq_getElem (by rw [← lu]; exact (List.getElem?_eq_some_iff.mp hx).1)⟩
        obtain ⟨x', hx', t, rfl, ht0⟩ := paired_get hue he
        rw [hx] at hx'
        have h1 := Option.some.inj hx'
        subst h1
        have ht := sm _ _ ht0
        have hf1 := fitsL_get hf he
        rw [← appl_len (fitsL_take i hf), ← hnow] at hf1
        obtain ⟨a, b, hab, h2, h3⟩ := fit_nat hf1
        have lim1 := hl (i + 1) (fitsL_take _ hf)
        rw [take_more he, appl_snoc, ← hnow] at lim1
        rw [hab] at ht lim1
        have ht : H2 t = some (.tup [.int (a : Int), .int (b : Int), .str e.2.2]) := ht
        have lim2 : (spliceL (cs now) a b (cs e.2.2)).length ≤ 4000000 := lim1
        have lim0 := hl i (fitsL_take _ hf)
        rw [← hnow] at lim0
        have sp := spl_pre (cs now) a b (cs e.2.2)
        have l1 : (cutS now none (some (a : Int))).length = ((cs now).take a).length := by rw [len_cs, cut_pre]
        have szn : now.length ≤ sizeLine := szM (by rw [len_cs]; exact lim0)
        have lw := paired_len hw
        rw [List.length_reverse, backL_len, List.length_take] at lw
        refine ⟨t, _, rfl, SqT.of ht, rfl, _, _, rfl, _, _, rfl, _, _, rfl, rfl, ?_⟩
        -- back.append((start, start + len(new), text[start:end]))
        refine ⟨_, rfl, .inl ⟨rfl, _, SqL.of hp⟩, _, rfl, _, rfl, _, rfl, _, rfl, szM (by rw [len_cs]; omega), _, _, rfl, rfl, _, rfl, _, rfl, _, rfl, _, rfl, _, rfl, now, rfl, szn, by show 3 ≤ sizeLine; decide, fun t2 nt2 => ?_⟩
        have hp2 : (upd H2 t2 (.tup [.int (a : Int), .int ((a : Int) + (e.2.2.length : Int)), .str (cutS now (some (a : Int)) (some (b : Int)))])) p = some (.lst ws) := by rw [upd_ne (ne_of_none hp nt2)]; exact hp
        refine ⟨p, ws, _, rfl, rfl, hp2, sz2 (by omega), ?_⟩
        -- text = ..
        refine ⟨_, rfl, _, rfl, _, rfl, now, rfl, szn, _, rfl, _, _, rfl, rfl, szM (by rw [l1, len_cs]; omega), ?_⟩
        refine ⟨_, rfl, _, rfl, _, rfl, now, rfl, szn, _, _, rfl, rfl, ?_, ?_, _, ws ++ [.ref t2], _, _, _, rfl, ?_, upd_same, ?_⟩
        · have h9 : (cutS now none (some (a : Int)) ++ e.2.2 ++ cutS now (some (b : Int)) none).length = (cutS now none (some (a : Int)) ++ e.2.2).length + (cutS now (some (b : Int)) none).length := by
            rw [len_cs, len_cs, len_cs, cs_app, List.length_append]
          rw [← h9, len_cs, cs_splice]
          exact szM lim2
        · exact same_mut (sm.trans (same_upd nt2)) hp0
        · rw [cs_splice, take_more he, appl_snoc, ← hnow]
          rw [hab]
          rfl
        · have ebk : (e.1, e.1 + (e.2.2.length : Int), cutS now (some (a : Int)) (some (b : Int))) = back1 (cs now) e := by
            rw [hab]
            show ((a : Int), (a : Int) + (e.2.2.length : Int), cutS now (some (a : Int)) (some (b : Int))) = ((a : Int), (a : Int) + (((cs e.2.2).length : Nat) : Int), (⟨(((cs now).take b).drop a).toArray⟩ : Str))
            rw [len_cs, mkS_eq (cut_mid now a b)]
          have tt : Tups H2 (upd (upd H2 t2 (.tup [.int (a : Int), .int ((a : Int) + (e.2.2.length : Int)), .str (cutS now (some (a : Int)) (some (b : Int)))])) p (.lst (ws ++ [.ref t2]))) := (Tups.new nt2).trans (Tups.mut hp2)
          rw [take_more he, backL_snoc, ← hnow, List.reverse_cons]
          refine paired_app (hw.mono tt) (.cons ⟨t2, rfl, ?_⟩ .nil)
          have ea : e.1 = (a : Int) := by rw [hab]
          rw [← ebk, ea]
          exact (Tups.mut hp2) _ _ upd_same
      · rintro σ H2 ⟨sm, now, ws, y3, y4, y5, rfl, hnow, hp, hw⟩
        rw [lu, List.take_length] at hw
        refine ⟨_, rfl, .inl ⟨rfl, _, SqL.of hp⟩, p, ws, rfl, rfl, hp, _, rfl, ?_⟩
        have hw2 : EdsIn H2 ws.reverse (backL (cs z) es).reverse.reverse := paired_rev hw
        rw [List.reverse_reverse] at hw2
        exact q1 hf p _ (same_mut sm hp0) hp0 ⟨ws.reverse, upd_same, hw2.mono (Tups.mut hp)⟩
    · rw [lz] at hk
      exact q2 k hk

theorem ok_top (T : Txt K mg) : FnOk P w K mg base CX0 12 T.a_law T.fd_law ["script"] (spLaw K) := ok_law T (ok_apply T) (ok_inverse T)
end
theorem all_mk {l : PySem.W.OpenLaw} {w : World} {K : PySem.W.Frag} {h : Heap} {mg : Str → Option Value} {fa : Addr} (X : K.In h) (G : h.Ns mainGlobals mg) (hfa : mg "law" = some (.ref fa))
    {C_MendedError : Addr} (g_MendedError : PySem.W.nsIn K mainGlobals "MendedError" = some (some (.ref C_MendedError)))
    {C_EditError : Addr} (g_EditError : PySem.W.nsIn K mainGlobals "EditError" = some (some (.ref C_EditError)))
    {C_Entangled : Addr} (g_Entangled : PySem.W.nsIn K mainGlobals "Entangled" = some (some (.ref C_Entangled)))
    {f0 : Addr} {od0 an0 : Option Addr} {sl0 : Array (Option Value)} {oc0 kV0 dc0 pm0 cd0 ct0 : Value}
    {f1 : Addr} {od1 an1 : Option Addr} {sl1 : Array (Option Value)} {oc1 kV1 dc1 pm1 cd1 ct1 : Value}
    {f2 : Addr} {od2 an2 : Option Addr} {sl2 : Array (Option Value)} {oc2 kV2 dc2 pm2 cd2 ct2 : Value}
    {f3 : Addr} {od3 an3 : Option Addr} {sl3 : Array (Option Value)} {oc3 kV3 dc3 pm3 cd3 ct3 : Value}
    {f4 : Addr} {od4 an4 : Option Addr} {sl4 : Array (Option Value)} {oc4 kV4 dc4 pm4 cd4 ct4 : Value}
    {f5 : Addr} {od5 an5 : Option Addr} {sl5 : Array (Option Value)} {oc5 kV5 dc5 pm5 cd5 ct5 : Value}
    {f6 : Addr} {od6 an6 : Option Addr} {sl6 : Array (Option Value)} {oc6 kV6 dc6 pm6 cd6 ct6 : Value}
    {f7 : Addr} {od7 an7 : Option Addr} {sl7 : Array (Option Value)} {oc7 kV7 dc7 pm7 cd7 ct7 : Value}
    {f8 : Addr} {od8 an8 : Option Addr} {sl8 : Array (Option Value)} {oc8 kV8 dc8 pm8 cd8 ct8 : Value}
    {f9 : Addr} {od9 an9 : Option Addr} {sl9 : Array (Option Value)} {oc9 kV9 dc9 pm9 cd9 ct9 : Value}
    {f10 : Addr} {od10 an10 : Option Addr} {sl10 : Array (Option Value)} {oc10 kV10 dc10 pm10 cd10 ct10 : Value}
    {f11 : Addr} {od11 an11 : Option Addr} {sl11 : Array (Option Value)} {oc11 kV11 dc11 pm11 cd11 ct11 : Value}
    {f12 : Addr} {od12 an12 : Option Addr} {sl12 : Array (Option Value)} {oc12 kV12 dc12 pm12 cd12 ct12 : Value}
    {f13 : Addr} {od13 an13 : Option Addr} {sl13 : Array (Option Value)} {oc13 kV13 dc13 pm13 cd13 ct13 : Value}
    {f14 : Addr} {od14 an14 : Option Addr} {sl14 : Array (Option Value)} {oc14 kV14 dc14 pm14 cd14 ct14 : Value}
    {f15 : Addr} {od15 an15 : Option Addr} {sl15 : Array (Option Value)} {oc15 kV15 dc15 pm15 cd15 ct15 : Value}
    {f16 : Addr} {od16 an16 : Option Addr} {sl16 : Array (Option Value)} {oc16 kV16 dc16 pm16 cd16 ct16 : Value}
    {f17 : Addr} {od17 an17 : Option Addr} {sl17 : Array (Option Value)} {oc17 kV17 dc17 pm17 cd17 ct17 : Value}
    {f18 : Addr} {od18 an18 : Option Addr} {sl18 : Array (Option Value)} {oc18 kV18 dc18 pm18 cd18 ct18 : Value}
    {f19 : Addr} {od19 an19 : Option Addr} {sl19 : Array (Option Value)} {oc19 kV19 dc19 pm19 cd19 ct19 : Value}
    {f20 : Addr} {od20 an20 : Option Addr} {sl20 : Array (Option Value)} {oc20 kV20 dc20 pm20 cd20 ct20 : Value}
    {f21 : Addr} {od21 an21 : Option Addr} {sl21 : Array (Option Value)} {oc21 kV21 dc21 pm21 cd21 ct21 : Value}
    {f22 : Addr} {od22 an22 : Option Addr} {sl22 : Array (Option Value)} {oc22 kV22 dc22 pm22 cd22 ct22 : Value}
    {f23 : Addr} {od23 an23 : Option Addr} {sl23 : Array (Option Value)} {oc23 kV23 dc23 pm23 cd23 ct23 : Value}
    {f24 : Addr} {od24 an24 : Option Addr} {sl24 : Array (Option Value)} {oc24 kV24 dc24 pm24 cd24 ct24 : Value}
    {f25 : Addr} {od25 an25 : Option Addr} {sl25 : Array (Option Value)} {oc25 kV25 dc25 pm25 cd25 ct25 : Value}
    (a0 : PySem.W.findIn K (.ref C_EditError) "__init__" = some (some (.ref f0)))
    (l0 : K.lookup f0 = some ⟨oc0, od0, .func (PySem.W.fnOf "__init__" "EditError.__init__" (defArgs s_EditError_init) (defBody s_EditError_init) (defScope s_EditError_init) .none kV0 dc0 pm0 an0 cd0 ct0), sl0⟩) (c0 : PySem.W.codeIn K cd0 "EditError.__init__" = true) (k0 : PySem.W.keepIn K (.ref f0) = true)
    (a1 : PySem.W.nsIn K mainGlobals "_first_misfit" = some (some (.ref f1)))
    (l1 : K.lookup f1 = some ⟨oc1, od1, .func (PySem.W.fnOf "_first_misfit" "_first_misfit" (defArgs s_first_misfit) (defBody s_first_misfit) (defScope s_first_misfit) .none kV1 dc1 pm1 an1 cd1 ct1), sl1⟩) (c1 : PySem.W.codeIn K cd1 "_first_misfit" = true) (k1 : PySem.W.keepIn K (.ref f1) = true)
    (a2 : PySem.W.nsIn K mainGlobals "check_fits" = some (some (.ref f2)))
    (l2 : K.lookup f2 = some ⟨oc2, od2, .func (PySem.W.fnOf "check_fits" "check_fits" (defArgs s_check_fits) (defBody s_check_fits) (defScope s_check_fits) .none kV2 dc2 pm2 an2 cd2 ct2), sl2⟩) (c2 : PySem.W.codeIn K cd2 "check_fits" = true) (k2 : PySem.W.keepIn K (.ref f2) = true)
    (a3 : PySem.W.nsIn K mainGlobals "apply" = some (some (.ref f3)))
    (l3 : K.lookup f3 = some ⟨oc3, od3, .func (PySem.W.fnOf "apply" "apply" (defArgs s_apply) (defBody s_apply) (defScope s_apply) .none kV3 dc3 pm3 an3 cd3 ct3), sl3⟩) (c3 : PySem.W.codeIn K cd3 "apply" = true) (k3 : PySem.W.keepIn K (.ref f3) = true)
    (a4 : PySem.W.nsIn K mainGlobals "inverse" = some (some (.ref f4)))
    (l4 : K.lookup f4 = some ⟨oc4, od4, .func (PySem.W.fnOf "inverse" "inverse" (defArgs s_inverse) (defBody s_inverse) (defScope s_inverse) .none kV4 dc4 pm4 an4 cd4 ct4), sl4⟩) (c4 : PySem.W.codeIn K cd4 "inverse" = true) (k4 : PySem.W.keepIn K (.ref f4) = true)
    (a5 : PySem.W.nsIn K mainGlobals "_law_reel" = some (some (.ref f5)))
    (l5 : K.lookup f5 = some ⟨oc5, od5, .func (PySem.W.fnOf "_law_reel" "_law_reel" (defArgs s_law_reel) (defBody s_law_reel) (defScope s_law_reel) .none kV5 dc5 pm5 an5 cd5 ct5), sl5⟩) (c5 : PySem.W.codeIn K cd5 "_law_reel" = true) (k5 : PySem.W.keepIn K (.ref f5) = true)
    (a6 : PySem.W.nsIn K mainGlobals "_law_draw" = some (some (.ref f6)))
    (l6 : K.lookup f6 = some ⟨oc6, od6, .func (PySem.W.fnOf "_law_draw" "_law_draw" (defArgs s_law_draw) (defBody s_law_draw) (defScope s_law_draw) .none kV6 dc6 pm6 an6 cd6 ct6), sl6⟩) (c6 : PySem.W.codeIn K cd6 "_law_draw" = true) (k6 : PySem.W.keepIn K (.ref f6) = true)
    (a7 : PySem.W.nsIn K mainGlobals "_law_pick" = some (some (.ref f7)))
    (l7 : K.lookup f7 = some ⟨oc7, od7, .func (PySem.W.fnOf "_law_pick" "_law_pick" (defArgs s_law_pick) (defBody s_law_pick) (defScope s_law_pick) .none kV7 dc7 pm7 an7 cd7 ct7), sl7⟩) (c7 : PySem.W.codeIn K cd7 "_law_pick" = true) (k7 : PySem.W.keepIn K (.ref f7) = true)
    (a8 : PySem.W.nsIn K mainGlobals "_law_word" = some (some (.ref f8)))
    (l8 : K.lookup f8 = some ⟨oc8, od8, .func (PySem.W.fnOf "_law_word" "_law_word" (defArgs s_law_word) (defBody s_law_word) (defScope s_law_word) .none kV8 dc8 pm8 an8 cd8 ct8), sl8⟩) (c8 : PySem.W.codeIn K cd8 "_law_word" = true) (k8 : PySem.W.keepIn K (.ref f8) = true)
    (a9 : PySem.W.nsIn K mainGlobals "_law_number" = some (some (.ref f9)))
    (l9 : K.lookup f9 = some ⟨oc9, od9, .func (PySem.W.fnOf "_law_number" "_law_number" (defArgs s_law_number) (defBody s_law_number) (defScope s_law_number) .none kV9 dc9 pm9 an9 cd9 ct9), sl9⟩) (c9 : PySem.W.codeIn K cd9 "_law_number" = true) (k9 : PySem.W.keepIn K (.ref f9) = true)
    (a10 : PySem.W.nsIn K mainGlobals "_law_signs" = some (some (.ref f10)))
    (l10 : K.lookup f10 = some ⟨oc10, od10, .func (PySem.W.fnOf "_law_signs" "_law_signs" (defArgs s_law_signs) (defBody s_law_signs) (defScope s_law_signs) .none kV10 dc10 pm10 an10 cd10 ct10), sl10⟩) (c10 : PySem.W.codeIn K cd10 "_law_signs" = true) (k10 : PySem.W.keepIn K (.ref f10) = true)
    (a11 : PySem.W.nsIn K mainGlobals "_law_stepped" = some (some (.ref f11)))
    (l11 : K.lookup f11 = some ⟨oc11, od11, .func (PySem.W.fnOf "_law_stepped" "_law_stepped" (defArgs s_law_stepped) (defBody s_law_stepped) (defScope s_law_stepped) .none kV11 dc11 pm11 an11 cd11 ct11), sl11⟩) (c11 : PySem.W.codeIn K cd11 "_law_stepped" = true) (k11 : PySem.W.keepIn K (.ref f11) = true)
    (a12 : PySem.W.nsIn K mainGlobals "_law_text" = some (some (.ref f12)))
    (l12 : K.lookup f12 = some ⟨oc12, od12, .func (PySem.W.fnOf "_law_text" "_law_text" (defArgs s_law_text) (defBody s_law_text) (defScope s_law_text) .none kV12 dc12 pm12 an12 cd12 ct12), sl12⟩) (c12 : PySem.W.codeIn K cd12 "_law_text" = true) (k12 : PySem.W.keepIn K (.ref f12) = true)
    (a13 : PySem.W.nsIn K mainGlobals "_law_new" = some (some (.ref f13)))
    (l13 : K.lookup f13 = some ⟨oc13, od13, .func (PySem.W.fnOf "_law_new" "_law_new" (defArgs s_law_new) (defBody s_law_new) (defScope s_law_new) .none kV13 dc13 pm13 an13 cd13 ct13), sl13⟩) (c13 : PySem.W.codeIn K cd13 "_law_new" = true) (k13 : PySem.W.keepIn K (.ref f13) = true)
    (a14 : PySem.W.nsIn K mainGlobals "_law_edit_row" = some (some (.ref f14)))
    (l14 : K.lookup f14 = some ⟨oc14, od14, .func (PySem.W.fnOf "_law_edit_row" "_law_edit_row" (defArgs s_law_edit_row) (defBody s_law_edit_row) (defScope s_law_edit_row) .none kV14 dc14 pm14 an14 cd14 ct14), sl14⟩) (c14 : PySem.W.codeIn K cd14 "_law_edit_row" = true) (k14 : PySem.W.keepIn K (.ref f14) = true)
    (a15 : PySem.W.nsIn K mainGlobals "_law_unfit" = some (some (.ref f15)))
    (l15 : K.lookup f15 = some ⟨oc15, od15, .func (PySem.W.fnOf "_law_unfit" "_law_unfit" (defArgs s_law_unfit) (defBody s_law_unfit) (defScope s_law_unfit) .none kV15 dc15 pm15 an15 cd15 ct15), sl15⟩) (c15 : PySem.W.codeIn K cd15 "_law_unfit" = true) (k15 : PySem.W.keepIn K (.ref f15) = true)
    (a16 : PySem.W.nsIn K mainGlobals "_law_planted" = some (some (.ref f16)))
    (l16 : K.lookup f16 = some ⟨oc16, od16, .func (PySem.W.fnOf "_law_planted" "_law_planted" (defArgs s_law_planted) (defBody s_law_planted) (defScope s_law_planted) .none kV16 dc16 pm16 an16 cd16 ct16), sl16⟩) (c16 : PySem.W.codeIn K cd16 "_law_planted" = true) (k16 : PySem.W.keepIn K (.ref f16) = true)
    (a17 : PySem.W.nsIn K mainGlobals "_law_splice" = some (some (.ref f17)))
    (l17 : K.lookup f17 = some ⟨oc17, od17, .func (PySem.W.fnOf "_law_splice" "_law_splice" (defArgs s_law_splice) (defBody s_law_splice) (defScope s_law_splice) .none kV17 dc17 pm17 an17 cd17 ct17), sl17⟩) (c17 : PySem.W.codeIn K cd17 "_law_splice" = true) (k17 : PySem.W.keepIn K (.ref f17) = true)
    (a18 : PySem.W.nsIn K mainGlobals "_law_first_unfit" = some (some (.ref f18)))
    (l18 : K.lookup f18 = some ⟨oc18, od18, .func (PySem.W.fnOf "_law_first_unfit" "_law_first_unfit" (defArgs s_law_first_unfit) (defBody s_law_first_unfit) (defScope s_law_first_unfit) .none kV18 dc18 pm18 an18 cd18 ct18), sl18⟩) (c18 : PySem.W.codeIn K cd18 "_law_first_unfit" = true) (k18 : PySem.W.keepIn K (.ref f18) = true)
    (a19 : PySem.W.nsIn K mainGlobals "_law_same_edit" = some (some (.ref f19)))
    (l19 : K.lookup f19 = some ⟨oc19, od19, .func (PySem.W.fnOf "_law_same_edit" "_law_same_edit" (defArgs s_law_same_edit) (defBody s_law_same_edit) (defScope s_law_same_edit) .none kV19 dc19 pm19 an19 cd19 ct19), sl19⟩) (c19 : PySem.W.codeIn K cd19 "_law_same_edit" = true) (k19 : PySem.W.keepIn K (.ref f19) = true)
    (a20 : PySem.W.nsIn K mainGlobals "_law_same_edits" = some (some (.ref f20)))
    (l20 : K.lookup f20 = some ⟨oc20, od20, .func (PySem.W.fnOf "_law_same_edits" "_law_same_edits" (defArgs s_law_same_edits) (defBody s_law_same_edits) (defScope s_law_same_edits) .none kV20 dc20 pm20 an20 cd20 ct20), sl20⟩) (c20 : PySem.W.codeIn K cd20 "_law_same_edits" = true) (k20 : PySem.W.keepIn K (.ref f20) = true)
    (a21 : PySem.W.nsIn K mainGlobals "_law_back" = some (some (.ref f21)))
    (l21 : K.lookup f21 = some ⟨oc21, od21, .func (PySem.W.fnOf "_law_back" "_law_back" (defArgs s_law_back) (defBody s_law_back) (defScope s_law_back) .none kV21 dc21 pm21 an21 cd21 ct21), sl21⟩) (c21 : PySem.W.codeIn K cd21 "_law_back" = true) (k21 : PySem.W.keepIn K (.ref f21) = true)
    (a22 : PySem.W.nsIn K mainGlobals "_law_refused" = some (some (.ref f22)))
    (l22 : K.lookup f22 = some ⟨oc22, od22, .func (PySem.W.fnOf "_law_refused" "_law_refused" (defArgs s_law_refused) (defBody s_law_refused) (defScope s_law_refused) .none kV22 dc22 pm22 an22 cd22 ct22), sl22⟩) (c22 : PySem.W.codeIn K cd22 "_law_refused" = true) (k22 : PySem.W.keepIn K (.ref f22) = true)
    (a23 : PySem.W.nsIn K mainGlobals "_law_led_back" = some (some (.ref f23)))
    (l23 : K.lookup f23 = some ⟨oc23, od23, .func (PySem.W.fnOf "_law_led_back" "_law_led_back" (defArgs s_law_led_back) (defBody s_law_led_back) (defScope s_law_led_back) .none kV23 dc23 pm23 an23 cd23 ct23), sl23⟩) (c23 : PySem.W.codeIn K cd23 "_law_led_back" = true) (k23 : PySem.W.keepIn K (.ref f23) = true)
    (a24 : PySem.W.nsIn K mainGlobals "_law_good" = some (some (.ref f24)))
    (l24 : K.lookup f24 = some ⟨oc24, od24, .func (PySem.W.fnOf "_law_good" "_law_good" (defArgs s_law_good) (defBody s_law_good) (defScope s_law_good) .none kV24 dc24 pm24 an24 cd24 ct24), sl24⟩) (c24 : PySem.W.codeIn K cd24 "_law_good" = true) (k24 : PySem.W.keepIn K (.ref f24) = true)
    (a25 : PySem.W.nsIn K mainGlobals "law" = some (some (.ref f25)))
    (l25 : K.lookup f25 = some ⟨oc25, od25, .func (PySem.W.fnOf "law" "law" (defArgs s_law) (defBody s_law) (defScope s_law) .none kV25 dc25 pm25 an25 cd25 ct25), sl25⟩) (c25 : PySem.W.codeIn K cd25 "law" = true) (k25 : PySem.W.keepIn K (.ref f25) = true)
    (bga_MendedError : PySem.W.specialIn K (.ref C_MendedError) "__getattribute__" = some (some (.builtin "type.__getattribute__"))) (brd_MendedError : PySem.W.readsIn K C_MendedError (.type "type") = true) (bfi_MendedError : PySem.W.findCls K (.ref C_MendedError) (.type "type") "__init__" = some (.val (.builtin "ValueError.__init__")))
    {nm_EditError q_EditError : Str} {N_EditError : Addr} {bs_EditError : List Value} {sn_EditError : List Str} {sub_EditError : List Value} {ab_EditError : Bool} {col_EditError : Option Bool} {dd_EditError : Option Addr} {m0_EditError m1_EditError m2_EditError m3_EditError m5_EditError : Option Value}
    (xL_EditError : K.lookup C_EditError = some (excClassObj nm_EditError q_EditError C_EditError N_EditError bs_EditError (.ref C_MendedError :: [.type "ValueError", .type "Exception", .type "BaseException", .type "object"]) true sn_EditError sub_EditError ab_EditError col_EditError dd_EditError m0_EditError m1_EditError m2_EditError m3_EditError m5_EditError "ValueError.__new__"))
    (sa_EditError : PySem.W.findIn K (.ref C_EditError) "__setattr__" = some (some (.builtin "object.__setattr__")))
    (ga_EditError : PySem.W.findIn K (.ref C_EditError) "__getattribute__" = some (some (.builtin "BaseException.__getattribute__")))
    (gg_EditError : PySem.W.findIn K (.ref C_EditError) "__getattr__" = some none)
    (kC_EditError : PySem.W.keepIn K (.ref C_EditError) = true)
    (eC_EditError : PySem.W.subIn K (.ref C_EditError) (.type "BaseException") = some true)
    (tC_EditError : PySem.W.typeIn K (.ref C_EditError) = some (.type "type"))
    (hd_EditError : PySem.W.hasDictIn K C_EditError = true)
    (ha_EditError : PySem.W.findIn K (.ref C_EditError) "__class__" = some (some (.builtin "object.__class__")))
    (hm_EditError : PySem.W.mroIn K C_EditError (.type "object") = some true)
    (sC_EditError : PySem.W.subIn K (.ref C_EditError) (.ref C_EditError) = some true)
    (tI_EditError : PySem.W.typeIn K (.ref f0) = some (.type "function"))
    (n_EditError_index : PySem.W.findIn K (.ref C_EditError) "index" = some none)
    (hn : PySem.W.specialIn K (.builtin "object.__class__") "__get__" = some (some (.builtin "getset_descriptor.__get__"))) (ht : PySem.W.takesIn K (.builtin "object.__class__") = some true)
    (s_EditError_MendedError : PySem.W.subIn K (.ref C_EditError) (.ref C_MendedError) = some true)
    (iC_MendedError : PySem.W.isClsIn K C_MendedError = true) (tY_MendedError : PySem.W.typeIn K (.ref C_MendedError) = some (.type "type"))
    (s_EditError_ValueError : PySem.W.subIn K (.ref C_EditError) (.type "ValueError") = some true)
    (s_EditError_Entangled : PySem.W.subIn K (.ref C_EditError) (.ref C_Entangled) = some false)
    (iC_Entangled : PySem.W.isClsIn K C_Entangled = true) (tY_Entangled : PySem.W.typeIn K (.ref C_Entangled) = some (.type "type"))
    (z0 : PySem.W.nsIn K mainGlobals "range" = some none)
    (z1 : PySem.W.nsIn K mainGlobals "min" = some none)
    (z2 : PySem.W.nsIn K mainGlobals "max" = some none)
    (z3 : PySem.W.nsIn K mainGlobals "len" = some none)
    (z4 : PySem.W.nsIn K mainGlobals "abs" = some none)
    (z5 : PySem.W.nsIn K mainGlobals "int" = some none)
    (z6 : PySem.W.nsIn K mainGlobals "sum" = some none)
    (z7 : PySem.W.nsIn K mainGlobals "isinstance" = some none)
    (z8 : PySem.W.nsIn K mainGlobals "bool" = some none)
    (z9 : PySem.W.nsIn K mainGlobals "list" = some none)
    (z10 : PySem.W.nsIn K mainGlobals "tuple" = some none)
    (z11 : PySem.W.nsIn K mainGlobals "str" = some none)
    (z12 : PySem.W.nsIn K mainGlobals "enumerate" = some none)
    (z13 : PySem.W.nsIn K mainGlobals "ValueError" = some none)
    : ∃ fd : FuncData, (∀ (s : Shared) (v : Value), BindsTo s fd ⟨[v], []⟩ [("script", v)]) ∧ ∀ base : Heap, K.In base → base.Ns mainGlobals mg → FnOk l.prog w K mg base CX0 12 fa fd ["script"] (spLaw K) := by
  have e := hfa.symm.trans (PySem.W.mg_of X G a25)
  cases e
  have F0 := fun_mk (st := s_EditError_init) l0 c0 k0
  have b0 := F0.binds (ps := ["self", "index"]) fun _ _ _ _ _ _ us hl => match us, hl with | [_, _], _ => rfl
  have F1 := fun_mk (st := s_first_misfit) l1 c1 k1
  have b1 := F1.binds (ps := ["length", "edits"]) fun _ _ _ _ _ _ us hl => match us, hl with | [_, _], _ => rfl
  have F2 := fun_mk (st := s_check_fits) l2 c2 k2
  have b2 := F2.binds (ps := ["length", "edits"]) fun _ _ _ _ _ _ us hl => match us, hl with | [_, _], _ => rfl
  have F3 := fun_mk (st := s_apply) l3 c3 k3
  have b3 := F3.binds (ps := ["text", "edits"]) fun _ _ _ _ _ _ us hl => match us, hl with | [_, _], _ => rfl
  have F4 := fun_mk (st := s_inverse) l4 c4 k4
  have b4 := F4.binds (ps := ["text", "edits"]) fun _ _ _ _ _ _ us hl => match us, hl with | [_, _], _ => rfl
  have F5 := fun_mk (st := s_law_reel) l5 c5 k5
  have b5 := F5.binds (ps := ["script"]) fun _ _ _ _ _ _ us hl => match us, hl with | [_], _ => rfl
  have F6 := fun_mk (st := s_law_draw) l6 c6 k6
  have b6 := F6.binds (ps := ["reel", "size"]) fun _ _ _ _ _ _ us hl => match us, hl with | [_, _], _ => rfl
  have F7 := fun_mk (st := s_law_pick) l7 c7 k7
  have b7 := F7.binds (ps := ["reel", "row"]) fun _ _ _ _ _ _ us hl => match us, hl with | [_, _], _ => rfl
  have F8 := fun_mk (st := s_law_word) l8 c8 k8
  have b8 := F8.binds (ps := ["reel", "letters", "least", "most"]) fun _ _ _ _ _ _ us hl => match us, hl with | [_, _, _, _], _ => rfl
  have F9 := fun_mk (st := s_law_number) l9 c9 k9
  have b9 := F9.binds (ps := ["value"]) fun _ _ _ _ _ _ us hl => match us, hl with | [_], _ => rfl
  have F10 := fun_mk (st := s_law_signs) l10 c10 k10
  have b10 := F10.binds (ps := []) fun _ _ _ _ _ _ us hl => match us, hl with | [], _ => rfl
  have F11 := fun_mk (st := s_law_stepped) l11 c11 k11
  have b11 := F11.binds (ps := ["reel", "size"]) fun _ _ _ _ _ _ us hl => match us, hl with | [_, _], _ => rfl
  have F12 := fun_mk (st := s_law_text) l12 c12 k12
  have b12 := F12.binds (ps := ["reel"]) fun _ _ _ _ _ _ us hl => match us, hl with | [_], _ => rfl
  have F13 := fun_mk (st := s_law_new) l13 c13 k13
  have b13 := F13.binds (ps := ["reel"]) fun _ _ _ _ _ _ us hl => match us, hl with | [_], _ => rfl
  have F14 := fun_mk (st := s_law_edit_row) l14 c14 k14
  have b14 := F14.binds (ps := ["reel", "text", "count"]) fun _ _ _ _ _ _ us hl => match us, hl with | [_, _, _], _ => rfl
  have F15 := fun_mk (st := s_law_unfit) l15 c15 k15
  have b15 := F15.binds (ps := ["reel", "size"]) fun _ _ _ _ _ _ us hl => match us, hl with | [_, _], _ => rfl
  have F16 := fun_mk (st := s_law_planted) l16 c16 k16
  have b16 := F16.binds (ps := ["reel", "text", "edits", "many"]) fun _ _ _ _ _ _ us hl => match us, hl with | [_, _, _, _], _ => rfl
  have F17 := fun_mk (st := s_law_splice) l17 c17 k17
  have b17 := F17.binds (ps := ["text", "edits"]) fun _ _ _ _ _ _ us hl => match us, hl with | [_, _], _ => rfl
  have F18 := fun_mk (st := s_law_first_unfit) l18 c18 k18
  have b18 := F18.binds (ps := ["size", "edits"]) fun _ _ _ _ _ _ us hl => match us, hl with | [_, _], _ => rfl
  have F19 := fun_mk (st := s_law_same_edit) l19 c19 k19
  have b19 := F19.binds (ps := ["told", "due"]) fun _ _ _ _ _ _ us hl => match us, hl with | [_, _], _ => rfl
  have F20 := fun_mk (st := s_law_same_edits) l20 c20 k20
  have b20 := F20.binds (ps := ["told", "due"]) fun _ _ _ _ _ _ us hl => match us, hl with | [_, _], _ => rfl
  have F21 := fun_mk (st := s_law_back) l21 c21 k21
  have b21 := F21.binds (ps := ["text", "edits"]) fun _ _ _ _ _ _ us hl => match us, hl with | [_, _], _ => rfl
  have F22 := fun_mk (st := s_law_refused) l22 c22 k22
  have b22 := F22.binds (ps := ["text", "edits"]) fun _ _ _ _ _ _ us hl => match us, hl with | [_, _], _ => rfl
  have F23 := fun_mk (st := s_law_led_back) l23 c23 k23
  have b23 := F23.binds (ps := ["text", "edits", "back"]) fun _ _ _ _ _ _ us hl => match us, hl with | [_, _, _], _ => rfl
  have F24 := fun_mk (st := s_law_good) l24 c24 k24
  have b24 := F24.binds (ps := ["text", "edits"]) fun _ _ _ _ _ _ us hl => match us, hl with | [_, _], _ => rfl
  have F25 := fun_mk (st := s_law) l25 c25 k25
  have b25 := F25.binds (ps := ["script"]) fun _ _ _ _ _ _ us hl => match us, hl with | [_], _ => rfl
  let T : Txt K mg :=
    { C_MendedError := C_MendedError,
      G_MendedError := PySem.W.mg_of X G g_MendedError,
      C_EditError := C_EditError,
      G_EditError := PySem.W.mg_of X G g_EditError,
      C_Entangled := C_Entangled,
      G_Entangled := PySem.W.mg_of X G g_Entangled,
      a_EditError_init := _, fd_EditError_init := _, F_EditError_init := F0, b_EditError_init := b0,
      a_first_misfit := _, fd_first_misfit := _, F_first_misfit := F1, b_first_misfit := b1, g_first_misfit := PySem.W.mg_of X G a1,
      a_check_fits := _, fd_check_fits := _, F_check_fits := F2, b_check_fits := b2, g_check_fits := PySem.W.mg_of X G a2,
      a_apply := _, fd_apply := _, F_apply := F3, b_apply := b3, g_apply := PySem.W.mg_of X G a3,
      a_inverse := _, fd_inverse := _, F_inverse := F4, b_inverse := b4, g_inverse := PySem.W.mg_of X G a4,
      a_law_reel := _, fd_law_reel := _, F_law_reel := F5, b_law_reel := b5, g_law_reel := PySem.W.mg_of X G a5,
      a_law_draw := _, fd_law_draw := _, F_law_draw := F6, b_law_draw := b6, g_law_draw := PySem.W.mg_of X G a6,
      a_law_pick := _, fd_law_pick := _, F_law_pick := F7, b_law_pick := b7, g_law_pick := PySem.W.mg_of X G a7,
      a_law_word := _, fd_law_word := _, F_law_word := F8, b_law_word := b8, g_law_word := PySem.W.mg_of X G a8,
      a_law_number := _, fd_law_number := _, F_law_number := F9, b_law_number := b9, g_law_number := PySem.W.mg_of X G a9,
      a_law_signs := _, fd_law_signs := _, F_law_signs := F10, b_law_signs := b10, g_law_signs := PySem.W.mg_of X G a10,
      a_law_stepped := _, fd_law_stepped := _, F_law_stepped := F11, b_law_stepped := b11, g_law_stepped := PySem.W.mg_of X G a11,
      a_law_text := _, fd_law_text := _, F_law_text := F12, b_law_text := b12, g_law_text := PySem.W.mg_of X G a12,
      a_law_new := _, fd_law_new := _, F_law_new := F13, b_law_new := b13, g_law_new := PySem.W.mg_of X G a13,
      a_law_edit_row := _, fd_law_edit_row := _, F_law_edit_row := F14, b_law_edit_row := b14, g_law_edit_row := PySem.W.mg_of X G a14,
      a_law_unfit := _, fd_law_unfit := _, F_law_unfit := F15, b_law_unfit := b15, g_law_unfit := PySem.W.mg_of X G a15,
      a_law_planted := _, fd_law_planted := _, F_law_planted := F16, b_law_planted := b16, g_law_planted := PySem.W.mg_of X G a16,
      a_law_splice := _, fd_law_splice := _, F_law_splice := F17, b_law_splice := b17, g_law_splice := PySem.W.mg_of X G a17,
      a_law_first_unfit := _, fd_law_first_unfit := _, F_law_first_unfit := F18, b_law_first_unfit := b18, g_law_first_unfit := PySem.W.mg_of X G a18,
      a_law_same_edit := _, fd_law_same_edit := _, F_law_same_edit := F19, b_law_same_edit := b19, g_law_same_edit := PySem.W.mg_of X G a19,
      a_law_same_edits := _, fd_law_same_edits := _, F_law_same_edits := F20, b_law_same_edits := b20, g_law_same_edits := PySem.W.mg_of X G a20,
      a_law_back := _, fd_law_back := _, F_law_back := F21, b_law_back := b21, g_law_back := PySem.W.mg_of X G a21,
      a_law_refused := _, fd_law_refused := _, F_law_refused := F22, b_law_refused := b22, g_law_refused := PySem.W.mg_of X G a22,
      a_law_led_back := _, fd_law_led_back := _, F_law_led_back := F23, b_law_led_back := b23, g_law_led_back := PySem.W.mg_of X G a23,
      a_law_good := _, fd_law_good := _, F_law_good := F24, b_law_good := b24, g_law_good := PySem.W.mg_of X G a24,
      a_law := _, fd_law := _, F_law := F25, b_law := b25, g_law := PySem.W.mg_of X G a25,
      B_MendedError := ⟨bga_MendedError, brd_MendedError, bfi_MendedError⟩,
      E_EditError := errK_mk (PySem.W.mg_of X G g_EditError) xL_EditError (by rfl) sa_EditError ga_EditError gg_EditError a0 tI_EditError kC_EditError eC_EditError tC_EditError hd_EditError ha_EditError hn ht hm_EditError sC_EditError,
      n_EditError_index := n_EditError_index,
      k_EditError_MendedError := kit_refT s_EditError_MendedError iC_MendedError tY_MendedError,
      k_EditError_ValueError := kit_refTy s_EditError_ValueError (by decide +kernel),
      k_EditError_Entangled := kit_refF sC_EditError s_EditError_Entangled iC_Entangled tY_Entangled,
      m_range := PySem.W.mg_none_of X G z0,
      m_min := PySem.W.mg_none_of X G z1,
      m_max := PySem.W.mg_none_of X G z2,
      m_len := PySem.W.mg_none_of X G z3,
      m_abs := PySem.W.mg_none_of X G z4,
      m_int := PySem.W.mg_none_of X G z5,
      m_sum := PySem.W.mg_none_of X G z6,
      m_isinstance := PySem.W.mg_none_of X G z7,
      m_bool := PySem.W.mg_none_of X G z8,
      m_list := PySem.W.mg_none_of X G z9,
      m_tuple := PySem.W.mg_none_of X G z10,
      m_str := PySem.W.mg_none_of X G z11,
      m_enumerate := PySem.W.mg_none_of X G z12,
      m_ValueError := PySem.W.mg_none_of X G z13 }
  exact ⟨PySem.W.fnOf "law" "law" (defArgs s_law) (defBody s_law) (defScope s_law) .none kV25 dc25 pm25 an25 cd25 ct25, fun s v => .of_eq rfl, fun base _ _ => ok_top T⟩
end M
open PySem PySem.W PyProof.Rows
set_option maxRecDepth 100000 in
set_option maxHeartbeats 0 in
theorem PySem.Challenge.cw_mendedtree_k55_inverse_holds : PySem.Challenge.rw_mendedtree_k55_inverse.Holds := by
  w_on; o_law; k_head; (case hw => w_witness2)
  k_fill
  refine L2.walk_of (l := PySem.Challenge.rw_mendedtree_k55_inverse) (n := 63) (k := 12) (x := "script") (CX := fun _ => L2.CX0) (sp := fun w => M.spLaw _) rfl (by decide) rfl ⟨rfl, by decide, by decide⟩ (fun w h Y => PySem.W.kIn_of Y) ?F (fun _ _ a ns hl _ hS => ⟨a, ns, rfl, hS, hl, fun _ => rfl⟩) (fun _ _ _ _ _ h => h)
  case F =>
    intro w mg fa h KX G hmg
    refine' M.all_mk KX G hmg ?g_MendedError ?g_EditError ?g_Entangled ?a0 ?l0 ?c0 ?k0 ?a1 ?l1 ?c1 ?k1 ?a2 ?l2 ?c2 ?k2 ?a3 ?l3 ?c3 ?k3 ?a4 ?l4 ?c4 ?k4 ?a5 ?l5 ?c5 ?k5 ?a6 ?l6 ?c6 ?k6 ?a7 ?l7 ?c7 ?k7 ?a8 ?l8 ?c8 ?k8 ?a9 ?l9 ?c9 ?k9 ?a10 ?l10 ?c10 ?k10 ?a11 ?l11 ?c11 ?k11 ?a12 ?l12 ?c12 ?k12 ?a13 ?l13 ?c13 ?k13 ?a14 ?l14 ?c14 ?k14 ?a15 ?l15 ?c15 ?k15 ?a16 ?l16 ?c16 ?k16 ?a17 ?l17 ?c17 ?k17 ?a18 ?l18 ?c18 ?k18 ?a19 ?l19 ?c19 ?k19 ?a20 ?l20 ?c20 ?k20 ?a21 ?l21 ?c21 ?k21 ?a22 ?l22 ?c22 ?k22 ?a23 ?l23 ?c23 ?k23 ?a24 ?l24 ?c24 ?k24 ?a25 ?l25 ?c25 ?k25 ?bga_MendedError ?brd_MendedError ?bfi_MendedError ?xL_EditError ?sa_EditError ?ga_EditError ?gg_EditError ?kC_EditError ?eC_EditError ?tC_EditError ?hd_EditError ?ha_EditError ?hm_EditError ?sC_EditError ?tI_EditError ?n_EditError_index ?hn ?ht ?s_EditError_MendedError ?iC_MendedError ?tY_MendedError ?s_EditError_ValueError ?s_EditError_Entangled ?iC_Entangled ?tY_Entangled ?z0 ?z1 ?z2 ?z3 ?z4 ?z5 ?z6 ?z7 ?z8 ?z9 ?z10 ?z11 ?z12 ?z13
    (case g_MendedError => k_is); (case g_EditError => k_is); (case g_Entangled => k_is); (case a0 => k_is); (case l0 => k_is); (case c0 => k_is); (case k0 => k_is); (case a1 => k_is); (case l1 => k_is); (case c1 => k_is); (case k1 => k_is); (case a2 => k_is); (case l2 => k_is); (case c2 => k_is); (case k2 => k_is); (case a3 => k_is); (case l3 => k_is); (case c3 => k_is); (case k3 => k_is); (case a4 => k_is); (case l4 => k_is); (case c4 => k_is); (case k4 => k_is); (case a5 => k_is); (case l5 => k_is); (case c5 => k_is); (case k5 => k_is); (case a6 => k_is); (case l6 => k_is); (case c6 => k_is); (case k6 => k_is); (case a7 => k_is); (case l7 => k_is); (case c7 => k_is); (case k7 => k_is); (case a8 => k_is); (case l8 => k_is); (case c8 => k_is); (case k8 => k_is); (case a9 => k_is); (case l9 => k_is); (case c9 => k_is); (case k9 => k_is); (case a10 => k_is); (case l10 => k_is); (case c10 => k_is); (case k10 => k_is); (case a11 => k_is); (case l11 => k_is); (case c11 => k_is); (case k11 => k_is); (case a12 => k_is); (case l12 => k_is); (case c12 => k_is); (case k12 => k_is); (case a13 => k_is); (case l13 => k_is); (case c13 => k_is); (case k13 => k_is); (case a14 => k_is); (case l14 => k_is); (case c14 => k_is); (case k14 => k_is); (case a15 => k_is); (case l15 => k_is); (case c15 => k_is); (case k15 => k_is); (case a16 => k_is); (case l16 => k_is); (case c16 => k_is); (case k16 => k_is); (case a17 => k_is); (case l17 => k_is); (case c17 => k_is); (case k17 => k_is); (case a18 => k_is); (case l18 => k_is); (case c18 => k_is); (case k18 => k_is); (case a19 => k_is); (case l19 => k_is); (case c19 => k_is); (case k19 => k_is); (case a20 => k_is); (case l20 => k_is); (case c20 => k_is); (case k20 => k_is); (case a21 => k_is); (case l21 => k_is); (case c21 => k_is); (case k21 => k_is); (case a22 => k_is); (case l22 => k_is); (case c22 => k_is); (case k22 => k_is); (case a23 => k_is); (case l23 => k_is); (case c23 => k_is); (case k23 => k_is); (case a24 => k_is); (case l24 => k_is); (case c24 => k_is); (case k24 => k_is); (case a25 => k_is); (case l25 => k_is); (case c25 => k_is); (case k25 => k_is); (case bga_MendedError => k_is); (case brd_MendedError => k_is); (case bfi_MendedError => k_is); (case xL_EditError => k_is); (case sa_EditError => k_is); (case ga_EditError => k_is); (case gg_EditError => k_is); (case kC_EditError => k_is); (case eC_EditError => k_is); (case tC_EditError => k_is); (case hd_EditError => k_is); (case ha_EditError => k_is); (case hm_EditError => k_is); (case sC_EditError => k_is); (case tI_EditError => k_is); (case n_EditError_index => k_is); (case hn => k_is); (case ht => k_is); (case s_EditError_MendedError => k_is); (case iC_MendedError => k_is); (case tY_MendedError => k_is); (case s_EditError_ValueError => k_is); (case s_EditError_Entangled => k_is); (case iC_Entangled => k_is); (case tY_Entangled => k_is); (case z0 => k_is); (case z1 => k_is); (case z2 => k_is); (case z3 => k_is); (case z4 => k_is); (case z5 => k_is); (case z6 => k_is); (case z7 => k_is); (case z8 => k_is); (case z9 => k_is); (case z10 => k_is); (case z11 => k_is); (case z12 => k_is); (case z13 => k_is)
