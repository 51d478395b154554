import PyProof.Rows.All
import PySem.Challenge.RW_mendedtree_k60_swap
import HandS.ForMost
import HandS.ForExc
import HandS.IsInst
import HandS.Codes
import HandS.FStr
import HandS.FStrTup
import HandS.ExcInit
import HandS.ExcIs
import HandS.ExcField
import HandS.ClsMeth
import HandS.ExcValue
import HandS.Style
set_option Elab.async false
set_option linter.all false
set_option maxRecDepth 100000
set_option maxHeartbeats 4000000
namespace L2
open PySem PySem.Spec PyProof.Rows
/-- what the written part says of an own base class whose __init__ is ValueError's -/
structure BaseC (K : PySem.W.Frag) (C0 : Addr) : Prop where
  ga : PySem.W.specialIn K (.ref C0) "__getattribute__" = some (some (.builtin "type.__getattribute__"))
  rd : PySem.W.readsIn K C0 (.type "type") = true
  fi : PySem.W.findCls K (.ref C0) (.type "type") "__init__" = some (.val (.builtin "ValueError.__init__"))
section
variable {X : Cx} {e : Expr} {es : List Expr} {ta : TA} {p1 p2 pos : Pos} {x : Str} {C0 : Addr}
/-- Base.__init__(self, ..), Base an own class over ValueError without an __init__ of its own -/
theorem pe_baseInit {later : Sem Bool} (hg : Gl X x) (hm : X.mg x = some (.ref C0)) (B : BaseC X.K C0) (ha : PA X (e :: es) ta) (hdb : (x == ("__debug__" : Str)) = false := by decide)
    (told : eval (.Call (.Attribute (.Name x p1) "__init__" p2) (e :: es) [] pos) X.env = (do
      let cls ← eval (.Name x p1) X.env
      standAt p2.atName
      let (m, bound) ← holding [cls] (getMethod cls "__init__" later)
      callWith pos m bound (backTo pos (starEach (e :: es) X.env)) (backToKw pos (keywordEach [] X.env))) := by rfl)
    (one : starEach (e :: es) X.env = (false, eval e X.env) :: starEach es X.env := by rfl) (plain : (backTo pos (starEach es X.env)).any (·.1) = false := by rfl) :
    PE X (.Call (.Attribute (.Name x p1) "__init__" p2) (e :: es) [] pos) (tVeI X.K ta) := by
  constructor
  intro pins s σ H Q I h
  refine PySem.W.methodCall_KW (ld_glob I hg hm (PySem.W.method_cls I.kIn B.ga (PySem.W.cls_value I.kIn B.rd B.fi rfl ?_)) hdb) told
  refine PyProof.Rows.callWith_method1 (id := "ValueError.__init__") (thn (ha.run pos pins _ σ H _ (I.tok _) h) ?_) one plain
  rintro us s1 ⟨vs, H1, I1, r1, a, C, ws, rfl, few, T, here, q⟩
  cases r1 with
  | @cons _ u _ us' ra rw' =>
    have eu : u = Value.ref a := ra
    subst eu
    have n : us'.length ≤ sizeLine := by
      have := Paired.length rw'
      rw [sizeLine_eq]
      omega
    exact oinit_ok T I1 here n fun s2 I2 => ⟨.non, H1, I2, rfl, q⟩
end
end L2

namespace PySem.W
open PySem PySem.Spec PySem.Calls PyProof.Rows
section
variable {prog : Program} {w : World} {A : Around} {E : Value → Shared → Prop} {K : Frag} {D : Addr}
/-- what BaseException's reading of __class__ gives, asked of an error with or without a dict -/
theorem bexc_class {x : Addr} {ox : Obj} {od : Option Obj} {s : Shared} {tk : Tok} {R : Value → Shared → Prop} (C : L2.ExcC K D) (X : K.In s.heap) (I : InstAt s.heap x ox D od) (q : R (.ref D) s)
    (hf : findObj K D od "__class__" = some (.bind (.builtin "getset_descriptor.__get__") (.builtin "object.__class__"))) :
    wpAny (model prog w) A (call (.builtin "BaseException.__getattribute__") [.ref x, .str "__class__" tk]) R E s := by
  have ty := I.type (M := model prog w)
  have isExc : Looks (model prog w) s.heap (isInstance (.ref x) (.type "BaseException")) true := ty.andThen (looks_subIn X C.hs)
  refine wpAny_call (codeAny_call_builtin PySem.F.excAttr_ValueError.ga.plain PySem.F.entry_bexc_ga (@check_slot (model prog w) _ _ s "BaseException.__getattribute__" "BaseException" "__getattribute__" (.ref x) [.str "__class__" tk] [] _ (by decide +kernel) (by decide +kernel) isExc (PySem.F.args_bexc_ga (.ref x) (.str "__class__" tk)) ?_))
  unfold Builtin.«object.__getattribute__»
  refine wpAny_bind (wpAny_of_eq (a := ((Value.ref x : Value), [Value.str "__class__" tk])) (by first | rfl | (simp only [slotArgs]; rfl)) (wpAny_bind (wpAny_pure (wpAny_bind (ty.at (wpAny_bind ((looks_find (M := model prog w) X I hf).at ?_)))))))
  exact wpAny_bind (wpAny_holding (wpAny_call (class_get (ox := ox) (od := od) X I C.hm (wpAny_pure (by first | exact wpAny_pure q | exact q)))))
theorem if_no {b : Bool} {m n : Sem Value} {R : Value → Shared → Prop} {F : Value → Shared → Prop} {u : Shared} (e : b = false) (k : wpAny (model prog w) A n R F u) : wpAny (model prog w) A (if b = true then m else n) R F u := by
  subst e
  exact k
theorem class_of_err {x : Addr} {ox od : Obj} {s : Shared} {Q : Option Value → Shared → Prop} (C : L2.ExcC K D) (X : K.In s.heap) (I : InstAt s.heap x ox D (some od)) (q : Q (some (.ref D)) { s with toks := s.toks + 1 }) :
    wpAny (model prog w) A (getAttr? (.ref x) "__class__") Q E s := by
  have some_cls : (clsIn K D).isSome = true := by
    obtain ⟨c, e, _⟩ := any_some C.hd
    rw [e] <;> rfl
  have found := findObj_data (od := od) some_cls C.ha C.hn C.ht
  have other : (Value.builtin "BaseException.__getattribute__" == Value.builtin "object.__getattribute__") = false := by decide +kernel
  obtain ⟨hp, g, d, t, os⟩ := s
  have ty := I.type (M := model prog w)
  unfold getAttr? getAttrBy? getAttrBy
  refine wpAny_bind (wpAny_mkText (wpAny_bind (wpAny_attempt (wpAny_holding (wpAny_bind (ty.at (wpAny_bind ((looks_findIn (M := model prog w) X C.hg).at ?_))))))))
  refine if_no (by rw [other]; rfl) ?_
  unfold getAttrByItsOwn hookBefore
  refine wpAny_bind ?_
  rw [if_pos (by rfl : onTheHeap (Value.ref D) = true)]
  refine (looks_findIn (M := model prog w) X C.hk).at (wpAny_bind (wpAny_attempt (wpAny_holding ?_)))
  unfold callGetattribute
  refine if_no (by rfl) ?_
  unfold boundAndCalled
  rw [PySem.F.excAttr_ValueError.ga.bind (.ref x)]
  refine wpAny_bind (wpAny_pure (bexc_class C X I ?_ found))
  first
    | exact wpAny_pure (wpAny_pure q)
    | exact wpAny_bind (wpAny_pure (wpAny_pure q))
    | exact wpAny_pure q
    | exact wpAny_pure (wpAny_bind (wpAny_pure (wpAny_pure q)))
/-- isinstance of an error that has a dict -/
theorem own_kitx {x : Addr} {ox : Obj} (C : L2.ExcC K D) : KitX K (.ref x) (.ref D) (fun h => ∃ od, InstAt h x ox D (some od)) :=
  { ty := fun _ _ _ ⟨_, I⟩ => I.type
    it := fun M h X _ A' Q' E' s' k q => (mc_isType (s := s') (fun b o e => k b o (X b o e)) C.hd).at q
    ne := (handS_kitx_exc (x := x) (ox := ox) C.hg C.hk C.hs C.hd C.ha C.hn C.ht C.hm).ne
    ca := fun X ⟨_, I⟩ q => class_of_err C X I q }
end
end PySem.W
namespace L2
open PySem PySem.Spec PyProof.Rows
section
variable {X : Cx} {a D dd : Addr} {oe : Obj} {pn : List (Addr × Obj)}
theorem suite_inst {pins : List (Addr × Obj)} {σ : L2.St} {H : Hp} {s : Shared} {fs : List (Str × V)} (I : Inv (X.suite a ((a, oe) :: pn)) pins σ H s) (hz : Zc (.ref D) (some dd) oe) (hf : ∃ vs, oe.data = .fields vs) (hx : H dd = some (.xd fs)) :
    ∃ od, PySem.W.InstAt s.heap a oe D (some od) := by
  have here := (I.pin (a, oe) (by simp [Cx.suite])).1
  obtain ⟨vs, hv⟩ := hf
  have hdx : ObjOk X.prog X.w H s.heap dd (.xd fs) := I.hok dd _ hx
  obtain ⟨m, names, _⟩ := hdx
  obtain ⟨o, ho, _⟩ := lookIn_ns names
  refine ⟨o, here, hz.1, ?_, by rw [hz.2]; exact ho⟩
  unfold PySem.W.notCls
  rw [hv] <;> rfl
/-- isinstance(e, c), e the exception that the suite holds, with its dict at dd -/
def rIsD (K : PySem.W.Frag) (D a dd : Addr) : List V → Hp → VK → Prop := fun xs H Q => ∃ (c : V) (cv : Value) (b : Bool) (fs : List (Str × V)), xs = [.ref a, c] ∧ ClsV c cv ∧ H dd = some (.xd fs) ∧ PySem.W.kitOne K (.ref D) cv = some b ∧ Q (.bl b) H
theorem call_isD (C : ExcC X.K D) (hz : Zc (.ref D) (some dd) oe) (hf : ∃ vs, oe.data = .fields vs) : CallR (X.suite a ((a, oe) :: pn)) (.builtin "isinstance") (rIsD X.K D a dd) := by
  rintro pins s σ H xs us Q I r ⟨c, cv, b, fs, rfl, hcv, hx, e, q⟩
  obtain ⟨w1, w2, rfl, p1, p2⟩ := vals2 r
  have e1 : w1 = Value.ref a := p1
  have e2 := hcv.eq p2
  subst e1 e2
  exact PySem.W.kia_one (PySem.W.own_kitx C) I.kIn (suite_inst I hz hf hx) e nofun fun tk => ⟨.bl b, H, I.kept (t' := tk) fun _ _ z => z, rfl, q⟩
/-- isinstance(e, (c1, c2, ..)) -/
def rIsDT (K : PySem.W.Frag) (D a dd : Addr) : List V → Hp → VK → Prop := fun xs H Q => ∃ (tp : Addr) (cs : List V) (us : List Value) (b : Bool) (fs : List (Str × V)), xs = [.ref a, .ref tp] ∧ H tp = some (.tup cs) ∧ Paired ClsV cs us ∧ H dd = some (.xd fs) ∧ PySem.W.kitAny K (.ref D) us = some b ∧ Q (.bl b) H
theorem call_isDT (C : ExcC X.K D) (hz : Zc (.ref D) (some dd) oe) (hf : ∃ vs, oe.data = .fields vs) : CallR (X.suite a ((a, oe) :: pn)) (.builtin "isinstance") (rIsDT X.K D a dd) := by
  rintro pins s σ H xs us Q I r ⟨tp, cs, ws, b, fs, rfl, hT, k, hx, e, q⟩
  obtain ⟨w1, w2, rfl, p1, p2⟩ := vals2 r
  have e1 : w1 = Value.ref a := p1
  have e2 : w2 = Value.ref tp := p2
  subst e1 e2
  have hok : ObjOk X.prog X.w H s.heap tp (.tup cs) := I.hok tp _ hT
  obtain ⟨_, its, rv, ⟨oc, od, dt, sl⟩, g1, g2, n, g3⟩ := hok
  have e3 := ClsV.all k rv
  dsimp only at g2 g3
  subst e3 g2 g3
  exact PySem.W.kia_tup (PySem.W.own_kitx C) I.kIn (suite_inst I hz hf hx) g1 e nofun fun tk => ⟨.bl b, H, I.kept (t' := tk) fun _ _ z => z, rfl, q⟩
end
end L2

namespace L2
open PySem PySem.Spec PyProof.Rows
/-- an own error class (name) at C, with an __init__ of its own at fI -/
structure ErrK (K : PySem.W.Frag) (mg : Str → Option Value) (name : Str) (C fI : Addr) : Prop where
  g : mg name = some (.ref C)
  oex : OexC K C
  iC : PySem.W.findIn K (.ref C) "__init__" = some (some (.ref fI))
  tI : PySem.W.typeIn K (.ref fI) = some (.type "function")
  exc : ExcC K C
  xf : XfC K C
  self : PySem.W.exmOne K (.ref C) (.ref C) = some true
theorem errK_mk {K : PySem.W.Frag} {mg : Str → Option Value} {name : Str} {C fI : Addr}
    {nm q : Str} {N : Addr} {bs bm : List Value} {sn : List Str} {sub : List Value} {ab : Bool} {col : Option Bool} {dd : Option Addr} {m0 m1 m2 m3 m5 : Option Value}
    (g : mg name = some (.ref C)) (xL : K.lookup C = some (excClassObj nm q C N bs bm true sn sub ab col dd m0 m1 m2 m3 m5 "ValueError.__new__")) (hbm : PySem.HandSPX.refsVE bm = true)
    (sa : PySem.W.findIn K (.ref C) "__setattr__" = some (some (.builtin "object.__setattr__"))) (ga : PySem.W.findIn K (.ref C) "__getattribute__" = some (some (.builtin "BaseException.__getattribute__"))) (gg : PySem.W.findIn K (.ref C) "__getattr__" = some none)
    (iC : PySem.W.findIn K (.ref C) "__init__" = some (some (.ref fI))) (tI : PySem.W.typeIn K (.ref fI) = some (.type "function")) (kC : PySem.W.keepIn K (.ref C) = true) (eC : PySem.W.subIn K (.ref C) (.type "BaseException") = some true) (tC : PySem.W.typeIn K (.ref C) = some (.type "type"))
    (hd : PySem.W.hasDictIn K C = true) (ha : PySem.W.findIn K (.ref C) "__class__" = some (some (.builtin "object.__class__"))) (hn : PySem.W.specialIn K (.builtin "object.__class__") "__get__" = some (some (.builtin "getset_descriptor.__get__")))
    (ht : PySem.W.takesIn K (.builtin "object.__class__") = some true) (hm : PySem.W.mroIn K C (.type "object") = some true) (sC : PySem.W.subIn K (.ref C) (.ref C) = some true) : ErrK K mg name C fI :=
  { g := g, oex := ⟨⟨nm, q, N, bs, bm, sn, sub, ab, col, dd, m0, m1, m2, m3, m5, xL, hbm⟩, sa, eC, tC, kC⟩, iC := iC, tI := tI, exc := ⟨ga, gg, eC, hd, ha, hn, ht, hm⟩, xf := ⟨ga, gg, eC, hd⟩, self := PySem.W.exm_ref eC hd tC sC }
/-- what making such an error with one field leaves: an error whose dict holds the field, all else as it was -/
def spInit1 (f : Str) (C : Addr) (ok : V → Prop) : Sp := fun vs H Q _ => ∃ (a : Addr) (v : V), vs = [.ref a, v] ∧ ok v ∧ H a = some (exo a C none) ∧ ∀ dx, H dx = none → dx ≠ a → Q .non (upd (upd H dx (exd dx [(f, v)])) a (exo a C (some dx)))
theorem made1 {H : Hp} {a dx C : Addr} {f : Str} {v : V} {fs : List (Str × V)} (na : H a = none) (nd : (upd H a (exo a C none)) dx = none) (hne : dx ≠ a) :
    H dx = none ∧ Same H (upd (del (upd (upd (upd H a (exo a C none)) dx (exd dx fs)) a (exo a C (some dx))) a) dx (.xd fs)) ∧ (upd (del (upd (upd (upd H a (exo a C none)) dx (exd dx fs)) a (exo a C (some dx))) a) dx (.xd fs)) dx = some (.xd fs) := by
  have nd' : H dx = none := by
    rw [upd_ne hne] at nd
    exact nd
  refine ⟨nd', fun b o e => ?_, upd_same⟩
  have h1 : b ≠ dx := ne_of_none e nd'
  have h2 : b ≠ a := ne_of_none e na
  rw [upd_ne h1, del_ne h2, upd_ne h2, upd_ne h1, upd_ne h2]
  exact e
/-- the reading of C(e), from such a promise of __init__ -/
theorem mk1 {C : Addr} {f : Str} {ok : V → Prop} {ta : TA} {σ : L2.St} {H : Hp} {Q : XK} (h : ta σ H fun vs H1 => ∃ v, vs = [v] ∧ ok v ∧ ∀ d H', Same H1 H' → H1 d = none → H' d = some (.xd [(f, v)]) → Q (.ref C) (some d) H')
    (mono : ∀ Q1 Q2 : List V → Hp → Prop, (∀ vs H1, Q1 vs H1 → Q2 vs H1) → ta σ H Q1 → ta σ H Q2) : tMkO C (spInit1 f C ok) [] ta σ H Q := by
  refine mono _ _ (fun vs H1 h1 => ?_) h
  obtain ⟨v, rfl, hv, q⟩ := h1
  refine ⟨by show 1 ≤ 1000; decide, fun a na => ⟨a, v, rfl, hv, upd_same, fun dx nd hne => ⟨rfl, dx, [(f, v)], upd_same, ?_, ?_, ?_⟩⟩⟩
  · rw [upd_ne hne, upd_same]
  · exact (made1 (f := f) (v := v) (fs := [(f, v)]) na nd hne).1
  · obtain ⟨m1, m2, m3⟩ := made1 (f := f) (v := v) (fs := [(f, v)]) na nd hne
    exact q dx _ m2 m1 m3
end L2
namespace L2
open PySem PySem.Spec PyProof.Rows
theorem kit_refT {K : PySem.W.Frag} {C D : Addr} (h : PySem.W.subIn K (.ref C) (.ref D) = some true) (i : PySem.W.isClsIn K D = true) (t : PySem.W.typeIn K (.ref D) = some (.type "type")) : PySem.W.kitOne K (.ref C) (.ref D) = some true := by
  unfold PySem.W.kitOne
  split
  · rfl
  · show (if ((PySem.W.clsIn K D).isSome && PySem.W.typeIn K (.ref D) == some (.type "type")) = true then PySem.W.subIn K (.ref C) (.ref D) else none) = some true
    have i' : (PySem.W.clsIn K D).isSome = true := i
    rw [i', t, h]
    rfl
theorem kit_refF {K : PySem.W.Frag} {C D : Addr} (h0 : PySem.W.subIn K (.ref C) (.ref C) = some true) (h : PySem.W.subIn K (.ref C) (.ref D) = some false) (i : PySem.W.isClsIn K D = true) (t : PySem.W.typeIn K (.ref D) = some (.type "type")) : PySem.W.kitOne K (.ref C) (.ref D) = some false := by
  have hne : (Value.ref C == Value.ref D) = false := by
    rw [beq_eq_false_iff_ne]
    intro e
    have e' : C = D := Value.ref.inj e
    rw [← e', h0] at h
    cases h
  unfold PySem.W.kitOne
  rw [hne]
  show (if ((PySem.W.clsIn K D).isSome && PySem.W.typeIn K (.ref D) == some (.type "type")) = true then PySem.W.subIn K (.ref C) (.ref D) else none) = some false
  have i' : (PySem.W.clsIn K D).isSome = true := i
  rw [i', t, h]
  rfl
theorem kit_refTy {K : PySem.W.Frag} {C : Addr} {T : String} {b : Bool} (h : PySem.W.subIn K (.ref C) (.type T) = some b) (m : PySem.W.kitMeta T = true) : PySem.W.kitOne K (.ref C) (.type T) = some b := by
  unfold PySem.W.kitOne
  have hne : (Value.ref C == Value.type T) = false := by
    rw [beq_eq_false_iff_ne]
    intro e
    cases e
  rw [hne]
  show (if PySem.W.kitMeta T = true then PySem.W.subIn K (.ref C) (.type T) else none) = some b
  rw [if_pos m, h]
end L2

namespace L2
open PySem PySem.Spec PyProof.Rows
theorem passX0 {P : Program} {w : World} {X : Cx} (e1 : X.prog = P) (e2 : X.w = w) : Passes (L2.CX P w) X E0 := fun _ _ _ _ _ _ _ c => by
  obtain ⟨_, _, _, _, _, _, _, _, _, _, _, _, z⟩ := c
  exact z.elim
section
variable {X : Cx} {a : Addr} {oe : Obj} {pn : List (Addr × Obj)} {cls : Value} {d : Option Addr}
/-- isinstance(e, c) in the suite that holds e -/
def rIsX (K : PySem.W.Frag) (a : Addr) (cls : Value) (d : Option Addr) : List V → Hp → VK → Prop := fun xs H Q => ∃ (D dd : Addr), cls = .ref D ∧ d = some dd ∧ ExcC K D ∧ rIsD K D a dd xs H Q
theorem call_isX (hz : Zc cls d oe) (hf : ∃ vs, oe.data = .fields vs) : CallR (X.suite a ((a, oe) :: pn)) (.builtin "isinstance") (rIsX X.K a cls d) := by
  rintro pins s σ H xs us Q I r ⟨D, dd, rfl, rfl, C, h⟩
  exact call_isD C hz hf pins s σ H xs us Q I r h
/-- isinstance(e, (c1, ..)) -/
def rIsXT (K : PySem.W.Frag) (a : Addr) (cls : Value) (d : Option Addr) : List V → Hp → VK → Prop := fun xs H Q => ∃ (D dd : Addr), cls = .ref D ∧ d = some dd ∧ ExcC K D ∧ rIsDT K D a dd xs H Q
theorem call_isXT (hz : Zc cls d oe) (hf : ∃ vs, oe.data = .fields vs) : CallR (X.suite a ((a, oe) :: pn)) (.builtin "isinstance") (rIsXT X.K a cls d) := by
  rintro pins s σ H xs us Q I r ⟨D, dd, rfl, rfl, C, h⟩
  exact call_isDT C hz hf pins s σ H xs us Q I r h
end
end L2

namespace L2
open PySem PySem.Spec PyProof.Rows
/-- an error object of the own class at C, held as a value, its dict at d -/
def erv (a C : Addr) (d : Option Addr) : HO := .ext fun hp => ∃ (oe : Obj) (vs : Array Value), hp.get? a = some oe ∧ Zc (.ref C) d oe ∧ oe.data = .fields vs
section
variable {X : Cx} {pins : List (Addr × Obj)} {σ : L2.St} {H : Hp} {s : Shared} {a C dd : Addr} {fs : List (Str × V)}
theorem erv_ok {P : Program} {w : World} {hp : Heap} {d : Option Addr} {oe : Obj} {vs : Array Value} (h1 : hp.get? a = some oe) (h2 : Zc (.ref C) d oe) (h3 : oe.data = .fields vs) : ObjOk P w H hp a (erv a C d) :=
  ⟨⟨oe, vs, h1, h2, h3⟩, ⟨oe, h1⟩, fun _ _ ⟨o1, v1, k1, k2, k3⟩ more => ⟨o1, v1, more _ k1, k2, k3⟩⟩
/-- what makes an error also gives it as a value -/
theorem pe_ofMk {e : Expr} {t : L2.St → Hp → XK → Prop} (h : PMk X e t) :
    PE X e (fun σ H Q => t σ H fun cls d H1 => ∃ C, cls = .ref C ∧ ∀ a, H1 a = none → Q (.ref a) (upd H1 a (erv a C d))) := by
  constructor
  intro pins s σ H Q I hw
  refine thn (h pins s σ H _ I hw) ?_
  rintro u s1 ⟨a, oe, vs, sI, H1, cls, d, eu, I1, kp, n1, ho, hz, hd, _, n2, os, bare, _, C, ec, q⟩
  subst eu
  subst ec
  refine ⟨.ref a, upd H1 a (erv a C d), ?_, rfl, q a n2⟩
  exact I1.call' (ch := []) os (Un.laidN kp n1 n2) (I1.hok.laidN kp n2 (erv_ok ho hz hd)) bare (by simp)
/-- where the error and its dict stand -/
theorem erv_inst (I : Inv X pins σ H s) (ha : H a = some (erv a C (some dd))) (hx : H dd = some (.xd fs)) :
    ∃ (oe : Obj) (m : Str → Option Value) (od : Option Obj), PySem.W.InstAt s.heap a oe C od ∧ (∃ o, od = some o) ∧ (∀ n, PySem.W.lookIn n (od.getD oe) = some (m n)) ∧ ∀ f, RelO (fs.lookup f) (m f) := by
  have k1 : ObjOk X.prog X.w H s.heap a (.ext fun hp => ∃ (oe : Obj) (vs : Array Value), hp.get? a = some oe ∧ Zc (.ref C) (some dd) oe ∧ oe.data = .fields vs) := I.hok a _ ha
  obtain ⟨⟨oe, vs, g1, g2, g3⟩, _⟩ := k1
  have k2 : ObjOk X.prog X.w H s.heap dd (.xd fs) := I.hok dd _ hx
  obtain ⟨m, k3, k4⟩ := k2
  obtain ⟨o, k5, k6⟩ := lookIn_ns k3
  refine ⟨oe, m, some o, ⟨g1, g2.1, ?_, ?_⟩, ⟨o, rfl⟩, k6, k4⟩
  · unfold PySem.W.notCls
    rw [g3] <;> rfl
  · rw [g2.2]
    exact k5
/-- isinstance(x, c), x an error that is held as a value -/
def rIsV (K : PySem.W.Frag) : List V → Hp → VK → Prop := fun xs H Q => ∃ (a C dd : Addr) (fs : List (Str × V)) (c : V) (cv : Value) (b : Bool), xs = [.ref a, c] ∧ H a = some (erv a C (some dd)) ∧ H dd = some (.xd fs) ∧ ExcC K C ∧ ClsV c cv ∧ PySem.W.kitOne K (.ref C) cv = some b ∧ Q (.bl b) H
theorem call_isV : CallR X (.builtin "isinstance") (rIsV X.K) := by
  rintro pins s σ H xs us Q I r ⟨a, C, dd, fs, c, cv, b, rfl, ha, hx, T, hcv, e, q⟩
  obtain ⟨w1, w2, rfl, p1, p2⟩ := vals2 r
  have e1 : w1 = Value.ref a := p1
  have e2 := hcv.eq p2
  subst e1 e2
  obtain ⟨oe, m, od, J, ⟨o, eo⟩, _⟩ := erv_inst I ha hx
  subst eo
  exact PySem.W.kia_one (PySem.W.own_kitx T) I.kIn ⟨o, J⟩ e nofun fun tk => ⟨.bl b, H, I.kept (t' := tk) fun _ _ z => z, rfl, q⟩
/-- x.f, x an error that is held as a value -/
def tFxE (K : PySem.W.Frag) (f : Str) (te : TE) : TE := fun σ H Q => te σ H fun x H1 => ∃ (a C dd : Addr) (fs : List (Str × V)) (v : V), x = .ref a ∧ XfC K C ∧ PySem.W.findIn K (.ref C) f = some none ∧ H1 a = some (erv a C (some dd)) ∧ H1 dd = some (.xd fs) ∧ fs.lookup f = some v ∧ Q v H1
theorem pe_fxE {e : Expr} {te : TE} {pos : Pos} {n : Str} (he : PE X e te) (hb : attributeBase e n X.env (eval e X.env) = eval e X.env := by rfl) : PE X (.Attribute e n pos) (tFxE X.K n te) := by
  constructor
  intro pins s σ H Q I h
  refine attr_of hb (thn (he.run pins s σ H _ I h) ?_)
  rintro y s1 ⟨x, H1, I1, rx, a, C, dd, fs, v, ex, T, hno, ha, hx, l, q⟩
  subst ex
  have ey : y = Value.ref a := rx
  subst ey
  obtain ⟨oe, m, od, J, ⟨o, eo⟩, k1, k2⟩ := erv_inst I1 ha hx
  subst eo
  have k3 := k2 n
  rw [l] at k3
  obtain ⟨val, k4, k5⟩ := RelO.some_of k3
  have k6 : PySem.W.lookIn n o = some (some val) := by
    rw [← k4]
    exact k1 n
  exact HandSPX.exc_get I1.kIn J T.ga T.gg T.exC (PySem.W.findObj_own T.hdC hno rfl k6) (handed_of k5) ⟨v, H1, I1.tok _, k5, q⟩
end
end L2

namespace L2
open PySem PySem.Spec PyProof.Rows
/-- a flat item as repr tells it -/
def sText : V → Str
  | .int i => toString i
  | .str y => reprText y
  | _ => Str.empty
def sOk : V → Prop
  | .int i => i.natAbs.log2 < 1920
  | .str y => ∀ c ∈ y.cps.toList, c < 16 ^ 8
  | _ => False
def sCost : V → Nat
  | .int _ => 1925
  | .str y => 10 * y.length + 4
  | _ => 0
theorem sText_len {v : V} (h : sOk v) : (sText v).length + 2 ≤ sCost v := by
  cases v with
  | int i =>
    have := PyProof.Rows.int_text_len_1921 (i := i) h
    show (Str.ofString (toString i)).length + 2 ≤ 1925
    omega
  | str y =>
    have := StrLaws.reprText_len y h
    show (reprText y).length + 2 ≤ 10 * y.length + 4
    omega
  | _ => exact False.elim h
def sCosts (l : List V) : Nat := (l.map sCost).sum
theorem sCosts_cons (v : V) (l : List V) : sCosts (v :: l) = sCost v + sCosts l := by
  unfold sCosts
  rw [List.map_cons, List.sum_cons]
theorem s_piled : ∀ l : List V, (∀ v ∈ l, sOk v) → piled (l.map sText) ≤ sCosts l
  | [], _ => Nat.zero_le _
  | v :: l, h => by
    have h1 := sText_len (h v List.mem_cons_self)
    have h2 := s_piled l fun x hx => h x (List.mem_cons_of_mem _ hx)
    rw [List.map_cons, piled_cons, sCosts_cons]
    omega
theorem repr_allS {prog : Program} {w : World} : ∀ {l : List V} {its : List Value}, Vals l its → (∀ v ∈ l, sOk v) → sCosts l ≤ sizeLine → ReprAll prog w its (l.map sText)
  | [], _, r, _, _ => by
    cases r
    exact .nil
  | v :: l, _, r, h, hz => by
    cases r with
    | @cons _ u _ us r1 r2 =>
      have h1 := h v List.mem_cons_self
      have hl := sText_len h1
      rw [sCosts_cons] at hz
      have k : ReprIs prog w u (sText v) := by
        cases v with
        | int i =>
          obtain ⟨t, rfl⟩ := r1
          exact ReprIs.int t h1
        | str y =>
          obtain ⟨t, rfl⟩ := r1
          exact ReprIs.str y t (by have : (reprText y).length + 2 ≤ sCost (.str y) := hl; omega)
        | _ => exact False.elim h1
      exact .cons k (repr_allS r2 (fun x hx => h x (List.mem_cons_of_mem _ hx)) (by omega))
section
variable {X : Cx}
/-- {t}, t a tuple of ints and texts: some text -/
def tFmtS (K : PySem.W.Frag) (te : TE) : TE := fun σ H Q => te σ H fun x H1 => ∃ (a : Addr) (l : List V), x = .ref a ∧ SqT K H1 a l ∧ (∀ v ∈ l, sOk v) ∧ sCosts l + 7 ≤ sizeLine ∧ ∀ m : Str, m.length ≤ sCosts l + 7 → Q (.str m) H1
theorem pe_fmtS {e : Expr} {te : TE} {pos : Pos} {k : Nat} (hr : Room k X.A) (he : PE X e te) : PE X (.FormattedValue e (-1) none pos) (tFmtS X.K te) := by
  refine ⟨fun pins s σ H Q I h => ?_⟩
  refine wpAny_FormattedValue_plain (thn (he.run pins s σ H _ I h) fun v s1 hv => ?_)
  obtain ⟨x, H1, I1, r1, a, l, rfl, ht, hc, hz, q⟩ := hv
  cases r1
  obtain ⟨its, rv, ⟨o, ho, hcl, n, hd⟩, _⟩ := I1.tuple ht
  have hp := s_piled l hc
  have htx := fmt_text (l.map sText)
  have hu := hr.units
  exact fmt_tuple (ts := l.map sText) (by omega) ho hcl hd (repr_allS rv hc (by omega)) (by omega) fun m u tk hm => ⟨.str m, H1, I1.tok _, ⟨u, rfl⟩, q m (by omega)⟩
end
/-- x = e and what follows, e's reading first -/
theorem seq_asg {te : TE} {g : TG} {b : TS} {D : Ends} {σ : L2.St} {H : Hp} (h : te σ H fun x H1 => g x σ H1 fun σ2 H2 => b D σ2 H2) : tSeq (tAsg te g) b D σ H := h
/-- what making an error leaves: an error whose dict holds the fields fs, all else as it was -/
def spInitN (C : Addr) (n : Nat) (ok : Hp → List V → Prop) (fs : List V → List (Str × V)) : Sp := fun vs H Q _ => ∃ (a : Addr) (ws : List V), vs = .ref a :: ws ∧ ws.length = n ∧ ok H ws ∧ H a = some (exo a C none) ∧
  ∀ dx H', H dx = none → dx ≠ a → H' a = some (exo a C (some dx)) → H' dx = some (exd dx (fs ws)) → (∀ b, b ≠ a → b ≠ dx → H' b = H b) → Q .non H'
theorem mkN {C : Addr} {n : Nat} {ok : Hp → List V → Prop} {fs : List V → List (Str × V)} {ta : TA} {σ : L2.St} {H : Hp} {Q : XK}
    (h : ta σ H fun ws H1 => ws.length = n ∧ ws.length ≤ 1000 ∧ (∀ a, H1 a = none → ok (upd H1 a (exo a C none)) ws) ∧ ∀ d H', Same H1 H' → H1 d = none → H' d = some (.xd (fs ws)) → Q (.ref C) (some d) H')
    (mono : ∀ Q1 Q2 : List V → Hp → Prop, (∀ vs H1, Q1 vs H1 → Q2 vs H1) → ta σ H Q1 → ta σ H Q2) : tMkO C (spInitN C n ok fs) [] ta σ H Q := by
  refine mono _ _ (fun ws H1 h1 => ?_) h
  obtain ⟨hn, hz, hk, q⟩ := h1
  refine ⟨hz, fun a na => ⟨a, ws, by rw [List.append_nil], hn, hk a na, upd_same, fun dx H' nd hne ha hd hb => ⟨rfl, dx, fs ws, ha, hd, ?_, ?_⟩⟩⟩
  · rw [upd_ne hne] at nd
    exact nd
  · rw [upd_ne hne] at nd
    refine q dx _ (fun b o e => ?_) nd upd_same
    have h1 : b ≠ a := ne_of_none e na
    have h2 : b ≠ dx := ne_of_none e nd
    rw [upd_ne h2, del_ne h1, hb b h1 h2, upd_ne h1]
    exact e
end L2

namespace M
open PySem PySem.Spec PyProof.Rows L2
def topS (i : Nat) : Stmt := PySem.Challenge.pw_mendedtree_k60_swap.main.body.getD i (.Pass ⟨0, 0, 0, 0⟩)
abbrev s_Entangled_init : Stmt := inClass (topS 9) 0
theorem sc_Entangled_init : FnScope ["self", "first", "second"] ["self", "first", "second"] (defScope s_Entangled_init) := ⟨rfl, rfl, rfl, by decide +kernel, rfl, by decide +kernel, by decide +kernel⟩
abbrev s_swap : Stmt := topS 17
theorem sc_swap : FnScope ["first", "second", "begin", "end", "text", "later_begin", "later_end", "later_text", "moved"] ["first", "second"] (defScope s_swap) := ⟨rfl, rfl, rfl, by decide +kernel, rfl, by decide +kernel, by decide +kernel⟩
abbrev s_law_reel : Stmt := topS 19
theorem sc_law_reel : FnScope ["script", "reel", "k", "cell", "rest", "turn", "mixed"] ["script"] (defScope s_law_reel) := ⟨rfl, rfl, rfl, by decide +kernel, rfl, by decide +kernel, by decide +kernel⟩
abbrev s_law_draw : Stmt := topS 20
theorem sc_law_draw : FnScope ["reel", "size", "count", "at"] ["reel", "size"] (defScope s_law_draw) := ⟨rfl, rfl, rfl, by decide +kernel, rfl, by decide +kernel, by decide +kernel⟩
abbrev s_law_pick : Stmt := topS 21
theorem sc_law_pick : FnScope ["reel", "row"] ["reel", "row"] (defScope s_law_pick) := ⟨rfl, rfl, rfl, by decide +kernel, rfl, by decide +kernel, by decide +kernel⟩
abbrev s_law_word : Stmt := topS 22
theorem sc_law_word : FnScope ["reel", "letters", "least", "most", "k"] ["reel", "letters", "least", "most"] (defScope s_law_word) := ⟨rfl, rfl, rfl, by decide +kernel, rfl, by decide +kernel, by decide +kernel⟩
abbrev s_law_number : Stmt := topS 23
theorem sc_law_number : FnScope ["value"] ["value"] (defScope s_law_number) := ⟨rfl, rfl, rfl, by decide +kernel, rfl, by decide +kernel, by decide +kernel⟩
abbrev s_law_signs : Stmt := topS 24
theorem sc_law_signs : FnScope ["signs"] [] (defScope s_law_signs) := ⟨rfl, rfl, rfl, by decide +kernel, rfl, by decide +kernel, by decide +kernel⟩
abbrev s_law_stepped : Stmt := topS 25
theorem sc_law_stepped : FnScope ["reel", "size", "letters", "first", "step", "k"] ["reel", "size"] (defScope s_law_stepped) := ⟨rfl, rfl, rfl, by decide +kernel, rfl, by decide +kernel, by decide +kernel⟩
abbrev s_law_text : Stmt := topS 26
theorem sc_law_text : FnScope ["reel", "form"] ["reel"] (defScope s_law_text) := ⟨rfl, rfl, rfl, by decide +kernel, rfl, by decide +kernel, by decide +kernel⟩
abbrev s_law_new : Stmt := topS 27
theorem sc_law_new : FnScope ["reel", "size"] ["reel"] (defScope s_law_new) := ⟨rfl, rfl, rfl, by decide +kernel, rfl, by decide +kernel, by decide +kernel⟩
abbrev s_law_edit_row : Stmt := topS 28
theorem sc_law_edit_row : FnScope ["reel", "text", "count", "edits", "now", "near", "turn", "form", "start", "end", "new"] ["reel", "text", "count"] (defScope s_law_edit_row) := ⟨rfl, rfl, rfl, by decide +kernel, rfl, by decide +kernel, by decide +kernel⟩
abbrev s_law_splice : Stmt := topS 29
theorem sc_law_splice : FnScope ["text", "edits", "now", "edit"] ["text", "edits"] (defScope s_law_splice) := ⟨rfl, rfl, rfl, by decide +kernel, rfl, by decide +kernel, by decide +kernel⟩
abbrev s_law_tags : Stmt := topS 30
theorem sc_law_tags : FnScope ["size", "edits", "tags", "k", "edit", "char"] ["size", "edits"] (defScope s_law_tags) := ⟨rfl, rfl, rfl, by decide +kernel, rfl, by decide +kernel, by decide +kernel⟩
abbrev s_law_same_edit : Stmt := topS 31
theorem sc_law_same_edit : FnScope ["told", "due"] ["told", "due"] (defScope s_law_same_edit) := ⟨rfl, rfl, rfl, by decide +kernel, rfl, by decide +kernel, by decide +kernel⟩
abbrev s_law_due : Stmt := topS 32
theorem sc_law_due : FnScope ["first", "second", "by"] ["first", "second"] (defScope s_law_due) := ⟨rfl, rfl, rfl, by decide +kernel, rfl, by decide +kernel, by decide +kernel⟩
abbrev s_law_told : Stmt := topS 33
theorem sc_law_told : FnScope ["first", "second", "told", "e", "other"] ["first", "second"] (defScope s_law_told) := ⟨rfl, rfl, rfl, by decide +kernel, rfl, by decide +kernel, by decide +kernel⟩
abbrev s_law_by_base : Stmt := topS 34
theorem sc_law_by_base : FnScope ["first", "second", "e"] ["first", "second"] (defScope s_law_by_base) := ⟨rfl, rfl, rfl, by decide +kernel, rfl, by decide +kernel, by decide +kernel⟩
abbrev s_law_pair_ok : Stmt := topS 35
theorem sc_law_pair_ok : FnScope ["first", "second", "due", "told"] ["first", "second"] (defScope s_law_pair_ok) := ⟨rfl, rfl, rfl, by decide +kernel, rfl, by decide +kernel, by decide +kernel⟩
abbrev s_law_made_ok : Stmt := topS 36
theorem sc_law_made_ok : FnScope ["first", "second", "made"] ["first", "second"] (defScope s_law_made_ok) := ⟨rfl, rfl, rfl, by decide +kernel, rfl, by decide +kernel, by decide +kernel⟩
abbrev s_law_same_result : Stmt := topS 37
theorem sc_law_same_result : FnScope ["text", "first", "second", "due", "told", "swapped"] ["text", "first", "second"] (defScope s_law_same_result) := ⟨rfl, rfl, rfl, by decide +kernel, rfl, by decide +kernel, by decide +kernel⟩
abbrev s_law_all_second_ones : Stmt := topS 38
theorem sc_law_all_second_ones : FnScope ["reel", "text", "start", "end", "first", "words", "far", "first_far", "size", "low", "high", "new", "second"] ["reel"] (defScope s_law_all_second_ones) := ⟨rfl, rfl, rfl, by decide +kernel, rfl, by decide +kernel, by decide +kernel⟩
abbrev s_law : Stmt := topS 39
theorem sc_law : FnScope ["script", "reel", "text", "turn", "pair"] ["script"] (defScope s_law) := ⟨rfl, rfl, rfl, by decide +kernel, rfl, by decide +kernel, by decide +kernel⟩
structure Txt (K : PySem.W.Frag) (mg : Str → Option Value) where
  a_Entangled_init : Addr
  fd_Entangled_init : FuncData
  F_Entangled_init : Fun K "__init__" "Entangled.__init__" s_Entangled_init a_Entangled_init fd_Entangled_init
  b_Entangled_init : Binds K fd_Entangled_init ["self", "first", "second"] []
  a_swap : Addr
  fd_swap : FuncData
  F_swap : Fun K "swap" "swap" s_swap a_swap fd_swap
  b_swap : Binds K fd_swap ["first", "second"] []
  g_swap : mg "swap" = some (.ref a_swap)
  a_law_reel : Addr
  fd_law_reel : FuncData
  F_law_reel : Fun K "_law_reel" "_law_reel" s_law_reel a_law_reel fd_law_reel
  b_law_reel : Binds K fd_law_reel ["script"] []
  g_law_reel : mg "_law_reel" = some (.ref a_law_reel)
  a_law_draw : Addr
  fd_law_draw : FuncData
  F_law_draw : Fun K "_law_draw" "_law_draw" s_law_draw a_law_draw fd_law_draw
  b_law_draw : Binds K fd_law_draw ["reel", "size"] []
  g_law_draw : mg "_law_draw" = some (.ref a_law_draw)
  a_law_pick : Addr
  fd_law_pick : FuncData
  F_law_pick : Fun K "_law_pick" "_law_pick" s_law_pick a_law_pick fd_law_pick
  b_law_pick : Binds K fd_law_pick ["reel", "row"] []
  g_law_pick : mg "_law_pick" = some (.ref a_law_pick)
  a_law_word : Addr
  fd_law_word : FuncData
  F_law_word : Fun K "_law_word" "_law_word" s_law_word a_law_word fd_law_word
  b_law_word : Binds K fd_law_word ["reel", "letters", "least", "most"] []
  g_law_word : mg "_law_word" = some (.ref a_law_word)
  a_law_number : Addr
  fd_law_number : FuncData
  F_law_number : Fun K "_law_number" "_law_number" s_law_number a_law_number fd_law_number
  b_law_number : Binds K fd_law_number ["value"] []
  g_law_number : mg "_law_number" = some (.ref a_law_number)
  a_law_signs : Addr
  fd_law_signs : FuncData
  F_law_signs : Fun K "_law_signs" "_law_signs" s_law_signs a_law_signs fd_law_signs
  b_law_signs : Binds K fd_law_signs [] []
  g_law_signs : mg "_law_signs" = some (.ref a_law_signs)
  a_law_stepped : Addr
  fd_law_stepped : FuncData
  F_law_stepped : Fun K "_law_stepped" "_law_stepped" s_law_stepped a_law_stepped fd_law_stepped
  b_law_stepped : Binds K fd_law_stepped ["reel", "size"] []
  g_law_stepped : mg "_law_stepped" = some (.ref a_law_stepped)
  a_law_text : Addr
  fd_law_text : FuncData
  F_law_text : Fun K "_law_text" "_law_text" s_law_text a_law_text fd_law_text
  b_law_text : Binds K fd_law_text ["reel"] []
  g_law_text : mg "_law_text" = some (.ref a_law_text)
  a_law_new : Addr
  fd_law_new : FuncData
  F_law_new : Fun K "_law_new" "_law_new" s_law_new a_law_new fd_law_new
  b_law_new : Binds K fd_law_new ["reel"] []
  g_law_new : mg "_law_new" = some (.ref a_law_new)
  a_law_edit_row : Addr
  fd_law_edit_row : FuncData
  F_law_edit_row : Fun K "_law_edit_row" "_law_edit_row" s_law_edit_row a_law_edit_row fd_law_edit_row
  b_law_edit_row : Binds K fd_law_edit_row ["reel", "text", "count"] []
  g_law_edit_row : mg "_law_edit_row" = some (.ref a_law_edit_row)
  a_law_splice : Addr
  fd_law_splice : FuncData
  F_law_splice : Fun K "_law_splice" "_law_splice" s_law_splice a_law_splice fd_law_splice
  b_law_splice : Binds K fd_law_splice ["text", "edits"] []
  g_law_splice : mg "_law_splice" = some (.ref a_law_splice)
  a_law_tags : Addr
  fd_law_tags : FuncData
  F_law_tags : Fun K "_law_tags" "_law_tags" s_law_tags a_law_tags fd_law_tags
  b_law_tags : Binds K fd_law_tags ["size", "edits"] []
  g_law_tags : mg "_law_tags" = some (.ref a_law_tags)
  a_law_same_edit : Addr
  fd_law_same_edit : FuncData
  F_law_same_edit : Fun K "_law_same_edit" "_law_same_edit" s_law_same_edit a_law_same_edit fd_law_same_edit
  b_law_same_edit : Binds K fd_law_same_edit ["told", "due"] []
  g_law_same_edit : mg "_law_same_edit" = some (.ref a_law_same_edit)
  a_law_due : Addr
  fd_law_due : FuncData
  F_law_due : Fun K "_law_due" "_law_due" s_law_due a_law_due fd_law_due
  b_law_due : Binds K fd_law_due ["first", "second"] []
  g_law_due : mg "_law_due" = some (.ref a_law_due)
  a_law_told : Addr
  fd_law_told : FuncData
  F_law_told : Fun K "_law_told" "_law_told" s_law_told a_law_told fd_law_told
  b_law_told : Binds K fd_law_told ["first", "second"] []
  g_law_told : mg "_law_told" = some (.ref a_law_told)
  a_law_by_base : Addr
  fd_law_by_base : FuncData
  F_law_by_base : Fun K "_law_by_base" "_law_by_base" s_law_by_base a_law_by_base fd_law_by_base
  b_law_by_base : Binds K fd_law_by_base ["first", "second"] []
  g_law_by_base : mg "_law_by_base" = some (.ref a_law_by_base)
  a_law_pair_ok : Addr
  fd_law_pair_ok : FuncData
  F_law_pair_ok : Fun K "_law_pair_ok" "_law_pair_ok" s_law_pair_ok a_law_pair_ok fd_law_pair_ok
  b_law_pair_ok : Binds K fd_law_pair_ok ["first", "second"] []
  g_law_pair_ok : mg "_law_pair_ok" = some (.ref a_law_pair_ok)
  a_law_made_ok : Addr
  fd_law_made_ok : FuncData
  F_law_made_ok : Fun K "_law_made_ok" "_law_made_ok" s_law_made_ok a_law_made_ok fd_law_made_ok
  b_law_made_ok : Binds K fd_law_made_ok ["first", "second"] []
  g_law_made_ok : mg "_law_made_ok" = some (.ref a_law_made_ok)
  a_law_same_result : Addr
  fd_law_same_result : FuncData
  F_law_same_result : Fun K "_law_same_result" "_law_same_result" s_law_same_result a_law_same_result fd_law_same_result
  b_law_same_result : Binds K fd_law_same_result ["text", "first", "second"] []
  g_law_same_result : mg "_law_same_result" = some (.ref a_law_same_result)
  a_law_all_second_ones : Addr
  fd_law_all_second_ones : FuncData
  F_law_all_second_ones : Fun K "_law_all_second_ones" "_law_all_second_ones" s_law_all_second_ones a_law_all_second_ones fd_law_all_second_ones
  b_law_all_second_ones : Binds K fd_law_all_second_ones ["reel"] []
  g_law_all_second_ones : mg "_law_all_second_ones" = some (.ref a_law_all_second_ones)
  a_law : Addr
  fd_law : FuncData
  F_law : Fun K "law" "law" s_law a_law fd_law
  b_law : Binds K fd_law ["script"] []
  g_law : mg "law" = some (.ref a_law)
  m_range : mg "range" = none
  m_min : mg "min" = none
  m_max : mg "max" = none
  m_len : mg "len" = none
  m_abs : mg "abs" = none
  m_int : mg "int" = none
  m_sum : mg "sum" = none
  m_isinstance : mg "isinstance" = none
  m_bool : mg "bool" = none
  m_list : mg "list" = none
  m_tuple : mg "tuple" = none
  m_str : mg "str" = none
  m_enumerate : mg "enumerate" = none
  m_ValueError : mg "ValueError" = none
  C_MendedError : Addr
  G_MendedError : mg "MendedError" = some (.ref C_MendedError)
  C_Entangled : Addr
  G_Entangled : mg "Entangled" = some (.ref C_Entangled)
  C_BadMark : Addr
  G_BadMark : mg "BadMark" = some (.ref C_BadMark)
  C_EditError : Addr
  G_EditError : mg "EditError" = some (.ref C_EditError)
  C_GrammarError : Addr
  G_GrammarError : mg "GrammarError" = some (.ref C_GrammarError)
  C_HistoryError : Addr
  G_HistoryError : mg "HistoryError" = some (.ref C_HistoryError)
  C_NoLayer : Addr
  G_NoLayer : mg "NoLayer" = some (.ref C_NoLayer)
  C_NoMark : Addr
  G_NoMark : mg "NoMark" = some (.ref C_NoMark)
  C_NoNode : Addr
  G_NoNode : mg "NoNode" = some (.ref C_NoNode)
  C_NoWitness : Addr
  G_NoWitness : mg "NoWitness" = some (.ref C_NoWitness)
  C_PatternError : Addr
  G_PatternError : mg "PatternError" = some (.ref C_PatternError)
  C_QueryError : Addr
  G_QueryError : mg "QueryError" = some (.ref C_QueryError)
  C_TableError : Addr
  G_TableError : mg "TableError" = some (.ref C_TableError)
  C_TreeError : Addr
  G_TreeError : mg "TreeError" = some (.ref C_TreeError)
  C_UnknownLanguage : Addr
  G_UnknownLanguage : mg "UnknownLanguage" = some (.ref C_UnknownLanguage)
  B_MendedError : BaseC K C_MendedError
  E_Entangled : ErrK K mg "Entangled" C_Entangled a_Entangled_init
  n_Entangled_first : PySem.W.findIn K (.ref C_Entangled) "first" = some none
  n_Entangled_second : PySem.W.findIn K (.ref C_Entangled) "second" = some none
  x_Entangled_MendedError : PySem.W.exmOne K (.ref C_Entangled) (.ref C_MendedError) = some true
  k_Entangled_MendedError : PySem.W.kitOne K (.ref C_Entangled) (.ref C_MendedError) = some true
  k_Entangled_ValueError : PySem.W.kitOne K (.ref C_Entangled) (.type "ValueError") = some true
  k_Entangled_BadMark : PySem.W.kitOne K (.ref C_Entangled) (.ref C_BadMark) = some false
  k_Entangled_EditError : PySem.W.kitOne K (.ref C_Entangled) (.ref C_EditError) = some false
  k_Entangled_GrammarError : PySem.W.kitOne K (.ref C_Entangled) (.ref C_GrammarError) = some false
  k_Entangled_HistoryError : PySem.W.kitOne K (.ref C_Entangled) (.ref C_HistoryError) = some false
  k_Entangled_NoLayer : PySem.W.kitOne K (.ref C_Entangled) (.ref C_NoLayer) = some false
  k_Entangled_NoMark : PySem.W.kitOne K (.ref C_Entangled) (.ref C_NoMark) = some false
  k_Entangled_NoNode : PySem.W.kitOne K (.ref C_Entangled) (.ref C_NoNode) = some false
  k_Entangled_NoWitness : PySem.W.kitOne K (.ref C_Entangled) (.ref C_NoWitness) = some false
  k_Entangled_PatternError : PySem.W.kitOne K (.ref C_Entangled) (.ref C_PatternError) = some false
  k_Entangled_QueryError : PySem.W.kitOne K (.ref C_Entangled) (.ref C_QueryError) = some false
  k_Entangled_TableError : PySem.W.kitOne K (.ref C_Entangled) (.ref C_TableError) = some false
  k_Entangled_TreeError : PySem.W.kitOne K (.ref C_Entangled) (.ref C_TreeError) = some false
  k_Entangled_UnknownLanguage : PySem.W.kitOne K (.ref C_Entangled) (.ref C_UnknownLanguage) = some false
/-! ### heaps: what a def leaves as it was -/
/-- all that was tracked but at r stands as it was -/
def But (r : Addr) (H H' : Hp) : Prop := ∀ b o, b ≠ r → H b = some o → H' b = some o
theorem But.refl (r : Addr) (H : Hp) : But r H H := fun _ _ _ h => h
theorem But.trans {r : Addr} {H H1 H2 : Hp} (a : But r H H1) (b : But r H1 H2) : But r H H2 := fun c o n h => b c o n (a c o n h)
theorem But.of {r : Addr} {H H' : Hp} (e : Same H H') : But r H H' := fun b o _ h => e b o h
theorem But.set {r : Addr} {H : Hp} {o : HO} : But r H (upd H r o) := fun b u n h => by rw [upd_ne n]; exact h
theorem But.new {r p : Addr} {H : Hp} {o : HO} (h : H p = none) : But r H (upd H p o) := fun b u _ e => by rw [upd_ne (ne_of_none e h)]; exact e
theorem same_upd {H : Hp} {p : Addr} {o : HO} (h : H p = none) : Same H (upd H p o) := fun b x e => by rw [upd_ne (ne_of_none e h)]; exact e
/-- the list that the drawing goes along: a place, then numbers -/
def ReelAt (H : Hp) (r : Addr) : Prop := ∃ (z : Int) (c : List Int), H r = some (.lst (.int z :: c.map V.int)) ∧ 1 ≤ c.length ∧ c.length ≤ 100000
theorem ReelAt.new {H : Hp} {r p : Addr} {o : HO} (h : ReelAt H r) (n : H p = none) : ReelAt (upd H p o) r := by
  obtain ⟨z, c, h1, h2⟩ := h
  exact ⟨z, c, by rw [upd_ne (ne_of_none h1 n)]; exact h1, h2⟩
theorem ReelAt.ne {H : Hp} {r p : Addr} (h : ReelAt H r) (n : H p = none) : r ≠ p := by
  obtain ⟨z, c, h1, h2⟩ := h
  exact ne_of_none h1 n
theorem atI_lt {xs : List V} {z : Int} (h0 : 0 ≤ z) (h : z.toNat < xs.length) : atI xs z = some (xs[z.toNat]'h) :=
  at_of (j := z.toNat) (by omega) (List.getElem?_eq_getElem h)
theorem at_of' {α : Type} {xs : List α} {z : Int} {c : α} (h0 : 0 ≤ z) (h : xs[z.toNat]? = some c) : atI xs z = some c := by
  have e : z = ((z.toNat : Nat) : Int) := by omega
  rw [e]
  exact atI_nat h
theorem fmod_range (a : Int) {n : Int} (h : 0 < n) : 0 ≤ a.fmod n ∧ a.fmod n < n := ⟨Int.fmod_nonneg_of_pos a h, Int.fmod_lt_of_pos a h⟩
theorem sz1 {n : Nat} (h : n ≤ 100000) : n ≤ sizeLine := Nat.le_trans h (by decide)
theorem sz2 {n : Nat} (h : n < 100000) : n < sizeLine := Nat.lt_of_lt_of_le h (by decide)
/-- a text's signs -/
abbrev cs (x : Str) : List Nat := x.cps.toList
theorem len_cs (x : Str) : x.length = (cs x).length := by
  show x.cps.size = x.cps.toList.length
  rw [Array.length_toList]
theorem cs_mk (l : List Nat) : cs ⟨l.toArray⟩ = l := rfl
theorem cs_inj {x y : Str} (h : cs x = cs y) : x = y := by
  cases x with
  | mk a =>
    cases y with
    | mk b =>
      have e : a = b := Array.toList_inj.mp h
      rw [e]
theorem cs_app (x y : Str) : cs (x ++ y) = cs x ++ cs y := by
  show (x.cps ++ y.cps).toList = _
  rw [Array.toList_append]
theorem cs_join {e : Str} (he : cs e = []) : ∀ ys : List Str, cs (Str.join e ys) = (ys.map cs).flatten
  | [] => rfl
  | [x] => by
    show cs x = ([x].map cs).flatten
    simp
  | x :: y :: r => by
    show cs (x ++ e ++ Str.join e (y :: r)) = _
    rw [cs_app, cs_app, he, List.append_nil, cs_join he (y :: r)]
    rfl
theorem cs_joinT {e : Str} (he : cs e = []) (ys : List Str) : cs (Txt.join e ys) = (ys.map cs).flatten := by rw [TL.join_eq]; exact cs_join he ys
/-- the text of one sign -/
abbrev sg (c : Nat) : Str := ⟨#[c]⟩
theorem sg_flat : ∀ l : List Nat, ((l.map sg).map cs).flatten = l
  | [] => rfl
  | c :: r => by
    show [c] ++ ((r.map sg).map cs).flatten = c :: r
    rw [sg_flat r]
    rfl
theorem sg_lens : ∀ l : List Nat, ((l.map sg).map (·.length)).sum = l.length
  | [] => rfl
  | c :: r => by
    show 1 + ((r.map sg).map (·.length)).sum = r.length + 1
    rw [sg_lens r]
    omega
theorem join_sg {e : Str} (he : cs e = []) (l : List Nat) : Txt.join e (l.map sg) = ⟨l.toArray⟩ := cs_inj (by rw [cs_joinT he, sg_flat])
theorem But.seq {r : Addr} {K : PySem.W.Frag} {H H' : Hp} {a : Addr} {xs : List V} (e : But r H H') (n : a ≠ r) (h : SqL K H a xs) : SqL K H' a xs := by
  rcases h with (h | ⟨o, h⟩) | h
  · exact .inl (.inl (e _ _ n h))
  · exact .inl (.inr ⟨o, e _ _ n h⟩)
  · exact .inr h
theorem But.free {r : Addr} {H H' : Hp} (e : But r H H') {l : Addr} (n : l ≠ r) (h : H' l = none) : H l = none := by
  cases q : H l with
  | none => rfl
  | some o =>
    rw [e l o n q] at h
    cases h
/-- a text whose signs are signs -/
def TOk (x : Str) : Prop := ∀ c ∈ cs x, c < 1114112
def tokB (x : Str) : Bool := x.cps.toList.all fun c => decide (c < 1114112)
theorem tok_of {x : Str} (h : tokB x = true) : TOk x := fun c hc => of_decide_eq_true (List.all_eq_true.mp h c hc)

section
variable {P : Program} {w : World} {K : PySem.W.Frag} {mg : Str → Option Value} {base : Heap}
/-! ### the reel -/
def spReel (K : PySem.W.Frag) : Sp := fun vs H Q _ => ∃ (a : Addr) (ns : List Int), vs = [.ref a] ∧ SqL K H a (ns.map V.int) ∧
  ∀ H' p, Same H H' → H p = none → ReelAt H' p → Q (.ref p) H'
def spDraw : Sp := fun vs H Q _ => ∃ (r : Addr) (n : Int), vs = [.ref r, .int n] ∧ ReelAt H r ∧ 0 < n ∧
  ∀ (v : Int) H', 0 ≤ v → v < n → But r H H' → ReelAt H' r → Q (.int v) H'
theorem ok_draw (T : Txt K mg) : FnOk P w K mg base CX0 1 T.a_law_draw T.fd_law_draw ["reel", "size"] spDraw := by
  refine T.F_law_draw.ok sc_law_draw (fun vs H Q E h => ?_) (fun cdv A outer s H vs Q E hr h => ?_)
  · obtain ⟨r, n, rfl, _⟩ := h
    rfl
  · obtain ⟨r, n, rfl, ⟨z, c, hr0, hc, hc2⟩, hn, q⟩ := h
    refine ⟨_, (pss_cons (ps_set (i := 2) sc_law_draw.nd rfl (.inl rfl) (pe_op op_sub (pe_callB call_len_seq (by rfl) T.m_len PySem.boot_len (pa_cons (pv 0) pa_nil)) pe_int))
      (pss_cons (ps_set (i := 3) sc_law_draw.nd rfl (.inl rfl) (pe_ix ix_list (pv 0) pe_int (fun _ _ => rfl)))
      (pss_cons (ps_asg (pe_op op_add (pv 3) pe_int) (pg_sub (pv 0) pe_int set_list))
      (pss_one (ps_ret (pe_op op_modN (pe_callTy call_int1 (by rfl) T.m_int (by decide +kernel) (pa_cons (pe_op op_add (pe_ix ix_list (pv 0) (pe_op op_add pe_int (pe_op op_modN (pe_callTy call_int1 (by rfl) T.m_int (by decide +kernel) (pa_cons (pv 3) pa_nil)) (pv 2))) (fun _ _ => rfl)) (pe_op op_mul (pe_op op_fdivN (pv 3) (pv 2)) pe_int)) pa_nil)) (pv 1))))))), ?_⟩
    have hl : (V.int z :: c.map V.int).length = c.length + 1 := by rw [List.length_cons, List.length_map]
    -- count = len(reel) - 1
    refine ⟨.ref r, rfl, r, _, rfl, .inl (SqL.of hr0), _, _, rfl, rfl, ?_⟩
    -- at = reel[0]
    refine ⟨.ref r, rfl, r, _, 0, .int z, rfl, rfl, SqL.of hr0, atI_nat (j := 0) rfl, ?_⟩
    -- reel[0] = at + 1
    refine ⟨_, rfl, z, 1, rfl, rfl, .ref r, rfl, r, _, 0, 0, rfl, rfl, hr0, by rw [hl]; unfold ixN; rw [if_pos (by omega), if_pos (by omega)]; rfl, ?_⟩
    have e1 : (V.int z :: c.map V.int).set 0 (.int (z + 1)) = .int (z + 1) :: c.map V.int := rfl
    rw [e1]
    have hc0 : (0 : Int) < ((V.int z :: c.map V.int).length : Int) - 1 := by rw [hl]; omega
    have fm := fmod_range z hc0
    have hat : 0 ≤ 1 + z.fmod (((V.int z :: c.map V.int).length : Int) - 1) := by omega
    have hat2 : (1 + z.fmod (((V.int z :: c.map V.int).length : Int) - 1)).toNat < (V.int (z + 1) :: c.map V.int).length := by
      have e2 : (V.int (z + 1) :: c.map V.int).length = c.length + 1 := by rw [List.length_cons, List.length_map]
      rw [hl] at fm ⊢
      rw [e2]
      omega
    obtain ⟨y, hy⟩ : ∃ y, atI (V.int (z + 1) :: c.map V.int) (1 + z.fmod (((V.int z :: c.map V.int).length : Int) - 1)) = some (.int y) := by
      have e := atI_lt hat hat2
      have e2 : (V.int (z + 1) :: c.map V.int) = ((z + 1) :: c).map V.int := rfl
      refine ⟨((z + 1) :: c)[(1 + z.fmod (((V.int z :: c.map V.int).length : Int) - 1)).toNat]'(by rw [e2, List.length_map] at hat2; exact hat2), ?_⟩
      rw [e]
      congr 1
      simp only [e2, List.getElem_map]
    -- return int(reel[1 + int(at) % count] + at // count * 389) % size
    refine ⟨.ref r, rfl, _, rfl, .inl ⟨z, rfl, ?_⟩⟩
    refine ⟨_, rfl, z, _, rfl, rfl, by omega, 1, _, rfl, rfl, r, _, _, .int y, rfl, rfl, SqL.of upd_same, hy, ?_⟩
    refine ⟨_, rfl, _, rfl, z, _, rfl, rfl, ⟨by omega, by rw [hl]; omega⟩, _, 389, rfl, rfl, .inr ⟨by decide, by decide⟩, _, _, rfl, rfl, .inl ⟨_, rfl, ?_⟩⟩
    refine ⟨_, rfl, _, n, rfl, rfl, by omega, ?_⟩
    exact q _ _ (fmod_range _ hn).1 (fmod_range _ hn).2 But.set ⟨z + 1, c, upd_same, hc, hc2⟩
/-- the words in which a turn of the reel's making is told -/
def Making (a o : Addr) (H : Hp) (n : Nat) (σ : L2.St) (H' : Hp) : Prop := ∃ y2 y3 y4 y5 y6, σ = [some (.ref a), some (.ref o), y2, y3, y4, y5, y6] ∧ Same H H' ∧ ∃ c : List Int, H' o = some (.lst (.int 0 :: c.map V.int)) ∧ c.length ≤ n
theorem ints_snoc (c : List Int) (x : Int) : (V.int 0 :: c.map V.int) ++ [V.int x] = .int 0 :: (c ++ [x]).map V.int := by
  rw [List.map_append]
  rfl
theorem same_mut {H H' : Hp} {p : Addr} {o : HO} (e : Same H H') (h : H p = none) : Same H (upd H' p o) := fun b x q => by
  rw [upd_ne (ne_of_none q h)]
  exact e b x q
theorem ok_reel (T : Txt K mg) : FnOk P w K mg base CX0 1 T.a_law_reel T.fd_law_reel ["script"] (spReel K) := by
  refine T.F_law_reel.ok sc_law_reel (fun vs H Q E h => ?_) (fun cdv A outer s H vs Q E hr h => ?_)
  · obtain ⟨a, ns, rfl, _⟩ := h
    rfl
  · obtain ⟨a, ns, rfl, hS, q⟩ := h
    refine ⟨_, (pss_cons (ps_set (i := 1) sc_law_reel.nd rfl (.inl rfl) (pe_lst (pa_cons pe_int pa_nil)))
      (pss_cons (ps_for PassesOwn.never rfl (pi_range1 (by rfl) T.m_range (pa_cons (pe_callB (call_min2 rfl) (by rfl) T.m_min (by decide +kernel) (pa_cons (pe_callB call_len_seq (by rfl) T.m_len PySem.boot_len (pa_cons (pv 0) pa_nil)) (pa_cons pe_int pa_nil))) pa_nil)) (pg_name (i := 2) sc_law_reel.nd rfl (.inl rfl)) (pss_cons (ps_set (i := 3) sc_law_reel.nd rfl (.inl rfl) (pe_ix ix_list (pv 0) (pv 2) (fun _ _ => rfl)))
      (pss_one (ps_if (pt_cmpR op_ge (pe_callB call_abs (by rfl) T.m_abs (by decide +kernel) (pa_cons (pv 3) pa_nil)) (pe_op op_pow pe_int pe_int) (nomark _)) (pss_cons (ps_set (i := 4) sc_law_reel.nd rfl (.inl rfl) (pe_callB call_abs (by rfl) T.m_abs (by decide +kernel) (pa_cons (pv 3) pa_nil)))
      (pss_one (ps_for PassesOwn.never rfl (pi_range1 (by rfl) T.m_range (pa_cons pe_int pa_nil)) (pg_name (i := 5) sc_law_reel.nd rfl (.inl rfl)) (pss_one (ps_if (pt_cmpR op_gt (pv 4) pe_int (nomark _)) (pss_cons (ps_expr (pe_bm PySem.F.plainAttrs_list PySem.F.slot_list_append PySem.F.type_list_append mt_append (pv 1) (pa_cons (pe_op op_mod (pe_callTy call_int1 (by rfl) T.m_int (by decide +kernel) (pa_cons (pv 4) pa_nil)) pe_int) pa_nil)))
      (pss_one (ps_set (i := 4) sc_law_reel.nd rfl (.inl rfl) (pe_op op_fdiv (pv 4) pe_int)))) pss_nil))))) (pss_cons (ps_set (i := 6) sc_law_reel.nd rfl (.inl rfl) (pe_op op_mod (pe_callTy call_int1 (by rfl) T.m_int (by decide +kernel) (pa_cons (pe_op op_add (pe_op op_add (pe_op op_mul (pv 3) pe_int) (pe_op op_mul (pv 2) pe_int)) pe_int) pa_nil)) pe_int))
      (pss_one (ps_for PassesOwn.never rfl (pi_range1 (by rfl) T.m_range (pa_cons pe_int pa_nil)) (pg_name (i := 5) sc_law_reel.nd rfl (.inl rfl)) (pss_cons (ps_set (i := 6) sc_law_reel.nd rfl (.inl rfl) (pe_op op_mod (pe_callTy call_int1 (by rfl) T.m_int (by decide +kernel) (pa_cons (pe_op op_add (pe_op op_add (pe_op op_mul (pv 6) pe_int) (pe_op op_mul (pv 5) pe_int)) pe_int) pa_nil)) pe_int))
      (pss_one (ps_expr (pe_bm PySem.F.plainAttrs_list PySem.F.slot_list_append PySem.F.type_list_append mt_append (pv 1) (pa_cons (pe_op op_mod (pe_callTy call_int1 (by rfl) T.m_int (by decide +kernel) (pa_cons (pe_op op_fdiv (pv 6) pe_int) pa_nil)) pe_int) pa_nil))))))))))))
      (pss_cons (ps_set (i := 6) sc_law_reel.nd rfl (.inl rfl) (pe_op op_mod (pe_callTy call_int1 (by rfl) T.m_int (by decide +kernel) (pa_cons (pe_op op_add (pe_op op_add (pe_op op_mul (pe_callB (cr_sum rfl) (by rfl) T.m_sum (by decide +kernel) (pa_cons (pv 1) pa_nil)) pe_int) (pe_op op_mul (pe_callB call_len_seq (by rfl) T.m_len PySem.boot_len (pa_cons (pv 1) pa_nil)) pe_int)) pe_int) pa_nil)) pe_int))
      (pss_cons (ps_for PassesOwn.never rfl (pi_range1 (by rfl) T.m_range (pa_cons pe_int pa_nil)) (pg_name (i := 5) sc_law_reel.nd rfl (.inl rfl)) (pss_cons (ps_set (i := 6) sc_law_reel.nd rfl (.inl rfl) (pe_op op_mod (pe_callTy call_int1 (by rfl) T.m_int (by decide +kernel) (pa_cons (pe_op op_add (pe_op op_add (pe_op op_mul (pv 6) pe_int) (pe_op op_mul (pv 5) pe_int)) pe_int) pa_nil)) pe_int))
      (pss_one (ps_expr (pe_bm PySem.F.plainAttrs_list PySem.F.slot_list_append PySem.F.type_list_append mt_append (pv 1) (pa_cons (pe_op op_mod (pe_callTy call_int1 (by rfl) T.m_int (by decide +kernel) (pa_cons (pe_op op_fdiv (pv 6) pe_int) pa_nil)) pe_int) pa_nil))))))
      (pss_one (ps_ret (pv 1))))))), ?_⟩
    -- reel = [0]
    refine ⟨by show 1 ≤ sizeLine; decide, fun o no => ?_⟩
    have s1 : Same H (upd H o (.lst [.int 0])) := same_upd no
    -- for k in range(min(len(script), 63))
    refine ⟨.ref a, rfl, a, _, rfl, .inl (s1.seq hS), _, _, rfl, _, rfl, by split <;> omega, by split <;> omega, ?_⟩
    refine for_range (lo := 0) (fun i σ H' => Making a o H (60 * i) σ H' ∧ i ≤ 63) ⟨⟨none, none, none, none, none, rfl, s1, [], upd_same, Nat.zero_le _⟩, Nat.zero_le _⟩ ?_ ?_
    · rintro i σ H3 hi ⟨⟨y2, y3, y4, y5, y6, rfl, s3, c, ho, hc⟩, hi63⟩
      have hi' : i < ns.length ∧ i < 63 := by
        rw [List.length_map] at hi
        split at hi <;> omega
      obtain ⟨x, hx⟩ : ∃ x, ns[i]? = some x := ⟨_, List.getElem?_eq_getElem hi'.1⟩
      -- cell = script[k]
      refine ⟨.ref a, rfl, _, rfl, a, _, _, .int x, rfl, rfl, s3.seq hS, at_of (j := i) (by omega) (by rw [List.getElem?_map, hx]; rfl), ?_⟩
      -- if abs(cell) >= 10 ** 18
      refine ⟨_, rfl, x, rfl, 10, 18, rfl, rfl, ⟨by decide, by decide, by decide⟩, _, _, rfl, rfl, _, rfl, ite2 (fun e => ?_) (fun e => ?_)⟩
      · -- rest = abs(cell); for turn in range(60)
        refine ⟨_, rfl, x, rfl, 60, rfl, by decide, by decide, ?_⟩
        refine for_range (lo := 0) (n := 60) (fun j σ H' => (∃ z : Int, σ[4]? = some (some (.int z))) ∧ Making a o H (60 * i + j) σ H') ⟨⟨_, rfl⟩, _, _, _, _, _, rfl, s3, c, ho, hc⟩ ?_ ?_
        · rintro j σ H4 hj ⟨⟨z, hz⟩, y2, y3, y4, y5, y6, rfl, s4, c, ho, hc⟩
          have hz' : y4 = some (.int z) := Option.some.inj hz
          subst hz'
          refine ⟨_, rfl, z, 0, rfl, rfl, _, rfl, ite2 (fun e => ?_) (fun e => ?_)⟩
          · refine ⟨.ref o, rfl, .inl ⟨rfl, _, SqL.of ho⟩, _, rfl, .inl ⟨z, rfl, z, 1009, rfl, rfl, (by show (0 : Int) < 1009; decide), o, _, _, rfl, rfl, ho, ?_, ?_⟩⟩
            · rw [List.length_cons, List.length_map]
              exact sz2 (by omega)
            · refine ⟨_, rfl, z, 1009, rfl, rfl, ⟨by decide, by decide⟩, ⟨_, rfl⟩, _, _, _, _, _, rfl, same_mut s4 no, c ++ [z % 1009], ?_, ?_⟩
              · rw [upd_same, ints_snoc]
              · rw [List.length_append]
                show c.length + 1 ≤ _
                omega
          · exact ⟨⟨z, rfl⟩, _, _, _, _, _, rfl, s4, c, ho, by omega⟩
        · rintro σ H4 ⟨_, y2, y3, y4, y5, y6, rfl, s4, c, ho, hc⟩
          exact ⟨⟨_, _, _, _, _, rfl, s4, c, ho, by omega⟩, by omega⟩
      · -- mixed = ..; for turn in range(4)
        refine ⟨_, rfl, x, 48271, rfl, rfl, .inr ⟨by decide, by decide⟩, _, rfl, _, 69621, rfl, rfl, .inr ⟨by decide, by decide⟩, _, _, rfl, rfl, _, 4099, rfl, rfl, .inl ⟨_, rfl, _, _, rfl, rfl, (by show (0 : Int) < 2147483647; decide), ?_⟩⟩
        refine ⟨4, rfl, by decide, by decide, ?_⟩
        refine for_range (lo := 0) (n := 4) (fun j σ H' => (∃ z : Int, σ[6]? = some (some (.int z))) ∧ Making a o H (60 * i + j) σ H') ⟨⟨_, rfl⟩, _, _, _, _, _, rfl, s3, c, ho, hc⟩ ?_ ?_
        · rintro j σ H4 hj ⟨⟨z, hz⟩, y2, y3, y4, y5, y6, rfl, s4, c, ho, hc⟩
          have hz' : y6 = some (.int z) := Option.some.inj hz
          subst hz'
          refine ⟨_, rfl, z, 16807, rfl, rfl, .inr ⟨by decide, by decide⟩, _, rfl, _, 7919, rfl, rfl, .inr ⟨by decide, by decide⟩, _, _, rfl, rfl, _, 101, rfl, rfl, .inl ⟨_, rfl, _, _, rfl, rfl, (by show (0 : Int) < 2147483629; decide), ?_⟩⟩
          refine ⟨.ref o, rfl, .inl ⟨rfl, _, SqL.of ho⟩, _, rfl, _, 2111, rfl, rfl, ⟨by decide, by decide⟩, .inl ⟨_, rfl, _, 1009, rfl, rfl, (by show (0 : Int) < 1009; decide), o, _, _, rfl, rfl, ho, ?_, ?_⟩⟩
          · rw [List.length_cons, List.length_map]
            exact sz2 (by omega)
          · refine ⟨⟨_, rfl⟩, _, _, _, _, _, rfl, same_mut s4 no, c ++ [((z * 16807 + (0 + (j : Int)) * 7919 + 101) % 2147483629 / 2111) % 1009], ?_, ?_⟩
            · rw [upd_same]
              exact congrArg (fun l => some (HO.lst l)) (ints_snoc c _)
            · rw [List.length_append]
              show c.length + 1 ≤ _
              omega
        · rintro σ H4 ⟨_, y2, y3, y4, y5, y6, rfl, s4, c, ho, hc⟩
          exact ⟨⟨_, _, _, _, _, rfl, s4, c, ho, by omega⟩, by omega⟩
    · rintro σ H3 ⟨⟨y2, y3, y4, y5, y6, rfl, s3, c, ho, hc⟩, hi63⟩
      have e0 : (V.int 0 :: c.map V.int) = ((0 : Int) :: c).map V.int := rfl
      have ho' : SqL K H3 o (((0 : Int) :: c).map V.int) := SqL.of ho
      refine ⟨.ref o, rfl, o, (0 : Int) :: c, rfl, ho', _, 69621, rfl, rfl, .inr ⟨by decide, by decide⟩, .ref o, rfl, o, _, rfl, .inl ho', _, 48271, rfl, rfl, .inr ⟨by decide, by decide⟩, _, _, rfl, rfl, _, 977, rfl, rfl, .inl ⟨_, rfl, _, _, rfl, rfl, (by show (0 : Int) < 2147483647; decide), ?_⟩⟩
      refine ⟨40, rfl, by decide, by decide, ?_⟩
      refine for_range (lo := 0) (n := 40) (fun j σ H' => (∃ z : Int, σ[6]? = some (some (.int z))) ∧ ∃ y2 y3 y4 y5 y6, σ = [some (.ref a), some (.ref o), y2, y3, y4, y5, y6] ∧ Same H H' ∧ ∃ c : List Int, H' o = some (.lst (.int 0 :: c.map V.int)) ∧ j ≤ c.length ∧ c.length ≤ 4000 + j) ⟨⟨_, rfl⟩, _, _, _, _, _, rfl, s3, c, ho, Nat.zero_le _, ?_⟩ ?_ ?_
      · have : (min' : Nat) → min' ≤ 63 → c.length ≤ 60 * min' → c.length ≤ 4000 + 0 := fun m h1 h2 => by omega
        exact this _ hi63 hc
      · rintro j σ H4 hj ⟨⟨z, hz⟩, y2, y3, y4, y5, y6, rfl, s4, c, ho, hc1, hc⟩
        have hz' : y6 = some (.int z) := Option.some.inj hz
        subst hz'
        refine ⟨_, rfl, z, 16807, rfl, rfl, .inr ⟨by decide, by decide⟩, _, rfl, _, 7919, rfl, rfl, .inr ⟨by decide, by decide⟩, _, _, rfl, rfl, _, 101, rfl, rfl, .inl ⟨_, rfl, _, _, rfl, rfl, (by show (0 : Int) < 2147483629; decide), ?_⟩⟩
        refine ⟨.ref o, rfl, .inl ⟨rfl, _, SqL.of ho⟩, _, rfl, _, 2111, rfl, rfl, ⟨by decide, by decide⟩, .inl ⟨_, rfl, _, 1009, rfl, rfl, (by show (0 : Int) < 1009; decide), o, _, _, rfl, rfl, ho, ?_, ?_⟩⟩
        · rw [List.length_cons, List.length_map]
          exact sz2 (by omega)
        · refine ⟨⟨_, rfl⟩, _, _, _, _, _, rfl, same_mut s4 no, c ++ [((z * 16807 + (0 + (j : Int)) * 7919 + 101) % 2147483629 / 2111) % 1009], ?_, ?_, ?_⟩
          · rw [upd_same]
            exact congrArg (fun l => some (HO.lst l)) (ints_snoc c _)
          · rw [List.length_append]
            show _ ≤ c.length + 1
            omega
          · rw [List.length_append]
            show c.length + 1 ≤ _
            omega
      · rintro σ H4 ⟨_, y2, y3, y4, y5, y6, rfl, s4, c, ho, hc1, hc⟩
        refine ⟨.ref o, rfl, q H4 o s4 no ⟨0, c, ho, by omega, by omega⟩⟩

/-! ### a drawn item, a drawn word -/
theorem But.seqT {r : Addr} {K : PySem.W.Frag} {H H' : Hp} {a : Addr} {xs : List V} (e : But r H H') (n : a ≠ r) (h : SqT K H a xs) : SqT K H' a xs := by
  rcases h with (h | ⟨o, h⟩) | h
  · exact .inl (.inl (e _ _ n h))
  · exact .inl (.inr ⟨o, e _ _ n h⟩)
  · exact .inr h
def spPick (K : PySem.W.Frag) : Sp := fun vs H Q _ => ∃ (r : Addr) (row : V), vs = [.ref r, row] ∧ ReelAt H r ∧
  ((∃ z, row = .str z ∧ 0 < (cs z).length ∧ (cs z).length ≤ 100000 ∧ ∀ c H', c ∈ cs z → But r H H' → ReelAt H' r → Q (.str (sg c)) H') ∨
   (∃ p xs, row = .ref p ∧ p ≠ r ∧ SqL K H p xs ∧ 0 < xs.length ∧ ∀ v H', v ∈ xs → But r H H' → ReelAt H' r → Q v H'))
theorem ok_pick (T : Txt K mg) : FnOk P w K mg base CX0 2 T.a_law_pick T.fd_law_pick ["reel", "row"] (spPick K) := by
  have G_law_draw : FnOk P w K mg base CX0 1 T.a_law_draw T.fd_law_draw ["reel", "size"] spDraw := ok_draw T
  refine T.F_law_pick.ok sc_law_pick (fun vs H Q E h => ?_) (fun cdv A outer s H vs Q E hr h => ?_)
  · obtain ⟨r, n, rfl, _⟩ := h
    rfl
  · have hr_law_draw : Room 1 _ := hr
    obtain ⟨r, row, rfl, hr0, ⟨z, rfl, hz, hz2, q⟩ | ⟨p, xs, rfl, hp, hS, hx, q⟩⟩ := h
    · refine ⟨_, (pss_one (ps_ret (pe_ix ix_seq (pv 1) (pe_call G_law_draw hr_law_draw (by rfl) T.g_law_draw T.F_law_draw.kp T.b_law_draw .nil pass0 (pa_cons (pv 0) (pa_cons (pe_callB call_len (by rfl) T.m_len PySem.boot_len (pa_cons (pv 1) pa_nil)) pa_nil))) (fun _ _ => rfl)))), ?_⟩
      have hl := len_cs z
      refine ⟨_, rfl, _, rfl, _, rfl, _, z.length, rfl, ⟨sz1 (by omega), rfl⟩, r, _, rfl, hr0, by omega, fun v H' h0 h1 hb hR => ?_⟩
      have hv : v.toNat < (cs z).length := by omega
      exact .inr (.inr ⟨z, v, (cs z)[v.toNat], rfl, rfl, sz1 (by omega), at_of' h0 (List.getElem?_eq_getElem hv), q _ _ (List.getElem_mem hv) hb hR⟩)
    · refine ⟨_, (pss_one (ps_ret (pe_ix ix_seq (pv 1) (pe_call G_law_draw hr_law_draw (by rfl) T.g_law_draw T.F_law_draw.kp T.b_law_draw .nil pass0 (pa_cons (pv 0) (pa_cons (pe_callB call_len (by rfl) T.m_len PySem.boot_len (pa_cons (pv 1) pa_nil)) pa_nil))) (fun _ _ => rfl)))), ?_⟩
      refine ⟨_, rfl, _, rfl, _, rfl, _, xs.length, rfl, .inl ⟨xs, hS, rfl⟩, r, _, rfl, hr0, by omega, fun v H' h0 h1 hb hR => ?_⟩
      have hv : v.toNat < xs.length := by omega
      exact .inl ⟨p, xs, v, xs[v.toNat], rfl, rfl, hb.seq hp hS, at_of (j := v.toNat) (by omega) (List.getElem?_eq_getElem hv), q _ _ (List.getElem_mem hv) hb hR⟩
def spWord : Sp := fun vs H Q _ => ∃ (r : Addr) (z : Str) (a b : Int), vs = [.ref r, .str z, .int a, .int b] ∧ ReelAt H r ∧ 0 < (cs z).length ∧ (cs z).length ≤ 100000 ∧ 0 ≤ a ∧ a ≤ b ∧ b ≤ 50000 ∧
  ∀ (x : Str) H', a ≤ ((cs x).length : Int) → ((cs x).length : Int) ≤ b → (∀ c ∈ cs x, c ∈ cs z) → But r H H' → ReelAt H' r → Q (.str x) H'
theorem map_snoc (l : List Nat) (c : Nat) : ((l.map sg).map V.str) ++ [V.str (sg c)] = ((l ++ [c]).map sg).map V.str := by
  rw [List.map_append, List.map_append]
  rfl
theorem ok_word (T : Txt K mg) : FnOk P w K mg base CX0 3 T.a_law_word T.fd_law_word ["reel", "letters", "least", "most"] spWord := by
  have G_law_draw : FnOk P w K mg base CX0 1 T.a_law_draw T.fd_law_draw ["reel", "size"] spDraw := ok_draw T
  have G_law_pick : FnOk P w K mg base CX0 2 T.a_law_pick T.fd_law_pick ["reel", "row"] (spPick K) := ok_pick T
  refine T.F_law_word.ok sc_law_word (fun vs H Q E h => ?_) (fun cdv A outer s H vs Q E hr h => ?_)
  · obtain ⟨r, z, a, b, rfl, _⟩ := h
    rfl
  · have hr_law_draw : Room 1 _ := hr.mono (by decide)
    have hr_law_pick : Room 2 _ := hr
    obtain ⟨r, z, a, b, rfl, hr0, hz, hz2, h0, h1, h2, q⟩ := h
    refine ⟨_, (pss_one (ps_ret (pe_join pe_str (pe_lc (own := [("k", 4)]) (g := gName 4) (by rfl) sc_law_word.nd (pi_range1 (by rfl) T.m_range (pa_cons (pe_op op_add (pv 2) (pe_call G_law_draw hr_law_draw (by rfl) T.g_law_draw T.F_law_draw.kp T.b_law_draw .nil pass0 (pa_cons (pv 0) (pa_cons (pe_op op_add (pe_op op_sub (pv 3) (pv 2)) pe_int) pa_nil)))) pa_nil)) (blkOk_by (own := [("k", 4)]) (N := ["reel", "letters", "least", "most", "k"]) (sc := defScope s_law_word) (by decide +kernel)) (fun _ _ _ _ _ => pg_name (i := 4) sc_law_word.nd rfl (Or.inl rfl)) (fun _ _ _ _ _ => pts_nil) (fun _ _ _ _ _ => (pe_call G_law_pick hr_law_pick (by rfl) T.g_law_pick T.F_law_pick.kp T.b_law_pick .nil pass0 (pa_cons (pv 0) (pa_cons (pv 1) pa_nil)))))))), ?_⟩
    refine ⟨⟨_, rfl⟩, _, rfl, _, rfl, _, rfl, _, rfl, _, _, rfl, rfl, _, 1, rfl, rfl, r, _, rfl, hr0, by omega, fun v H1 v0 v1 hb1 hR1 => ?_⟩
    refine ⟨_, _, rfl, rfl, _, rfl, by omega, by omega, fun D nD => ?_⟩
    refine lc_range (lo := 0) (n := (a + v).toNat) (fun i H' => ∃ l : List Nat, H' D = some (.lst ((l.map sg).map V.str)) ∧ l.length = i ∧ (∀ c ∈ l, c ∈ cs z) ∧ But r H1 H' ∧ ReelAt H' r)
      ⟨[], upd_same, rfl, (fun c hc => absurd hc List.not_mem_nil), But.new nD, hR1.new nD⟩ ?_ ?_
    · rintro i H' hi ⟨l, hD, hl, hm, hb, hR⟩
      refine ⟨rfl, _, rfl, _, rfl, r, _, rfl, hR, .inl ⟨z, rfl, hz, hz2, fun c H2 hc hb2 hR2 => ?_⟩⟩
      have hDr : D ≠ r := (hR1.ne nD).symm
      have hD2 := hb2 D _ hDr hD
      refine ⟨_, hD2, sz2 (by rw [List.length_map, List.length_map]; omega), l ++ [c], ?_, ?_, ?_, ?_, ?_⟩
      · rw [upd_same, map_snoc]
      · rw [List.length_append, hl]
        rfl
      · intro x hx
        rcases List.mem_append.mp hx with hx | hx
        · exact hm x hx
        · rw [List.mem_singleton.mp hx]
          exact hc
      · exact fun b o n e => by
          rw [upd_ne (ne_of_none e nD)]
          exact hb2 b o n (hb b o n e)
      · obtain ⟨z1, c1, e1, e2⟩ := hR2
        exact ⟨z1, c1, by rw [upd_ne hDr.symm]; exact e1, e2⟩
    · rintro H' ⟨l, hD, hl, hm, hb, hR⟩
      refine ⟨_, _, _, rfl, rfl, .inl (SqL.of hD), ?_, ?_⟩
      · rw [sg_lens, List.length_map]
        show l.length + l.length * 0 ≤ _
        omega
      · rw [join_sg rfl]
        exact q _ _ (by show a ≤ (l.length : Int); omega) (by show (l.length : Int) ≤ b; omega) hm (hb1.trans hb) hR

/-! ### drawn texts -/
def spNumber : Sp := fun vs H Q _ => ∃ i, vs = [.int i] ∧ Q (.bl true) H
theorem ok_number (T : Txt K mg) : FnOk P w K mg base CX0 1 T.a_law_number T.fd_law_number ["value"] spNumber := by
  refine T.F_law_number.ok sc_law_number (fun vs H Q E h => ?_) (fun cdv A outer s H vs Q E hr h => ?_)
  · obtain ⟨i, rfl, _⟩ := h
    rfl
  · obtain ⟨i, rfl, q⟩ := h
    refine ⟨_, (pss_one (ps_ret (pe_and (pe_callB call_isi (by rfl) T.m_isinstance (by decide +kernel) (pa_cons (pv 0) (pa_cons (pe_bltn (v := .ty "int") (by rfl) T.m_int (by decide +kernel) rfl) pa_nil))) (pe_one (pe_not (pe_callB call_isi (by rfl) T.m_isinstance (by decide +kernel) (pa_cons (pv 0) (pa_cons (pe_bltn (v := .ty "bool") (by rfl) T.m_bool (by decide +kernel) rfl) pa_nil)))))))), ?_⟩
    refine ⟨_, rfl, _, _, _, _, true, rfl, .ty _, .base (.int i), kit_ty (by decide +kernel), true, rfl, iteT ⟨_, rfl, _, _, _, _, false, rfl, .ty _, .base (.int i), kit_ty (by decide +kernel), false, rfl, q⟩⟩
def spSigns : Sp := fun vs H Q _ => vs = [] ∧ ∀ z : Str, (cs z).length = 96 → TOk z → Q (.str z) H
theorem ok_signs (T : Txt K mg) : FnOk P w K mg base CX0 1 T.a_law_signs T.fd_law_signs [] spSigns := by
  refine T.F_law_signs.ok sc_law_signs (fun vs H Q E h => ?_) (fun cdv A outer s H vs Q E hr h => ?_)
  · obtain ⟨rfl, _⟩ := h
    rfl
  · obtain ⟨rfl, q⟩ := h
    refine ⟨_, (pss_cons (ps_set (i := 0) sc_law_signs.nd rfl (.inl rfl) pe_str)
      (pss_one (ps_ret (pe_op op_add_str (pv 0) pe_str)))), ?_⟩
    refine ⟨_, rfl, _, _, rfl, rfl, by decide +kernel, ?_⟩
    exact q _ (by decide +kernel) (tok_of (by decide +kernel))
/-- every item of a written list of ints -/
theorem ints_of {vs : List V} {lo hi : Int} (h : ∀ v ∈ vs, ∃ i, v = V.int i ∧ lo ≤ i ∧ i ≤ hi) {v : V} (m : v ∈ vs) : ∃ i, v = V.int i ∧ lo ≤ i ∧ i ≤ hi := h v m
def intsIn (lo hi : Int) : List V → Bool
  | [] => true
  | .int i :: r => decide (lo ≤ i) && decide (i ≤ hi) && intsIn lo hi r
  | _ :: _ => false
theorem intsIn_mem {lo hi : Int} : ∀ {vs : List V}, intsIn lo hi vs = true → ∀ v ∈ vs, ∃ i, v = V.int i ∧ lo ≤ i ∧ i ≤ hi
  | [], _, v, m => absurd m List.not_mem_nil
  | .int i :: r, h, v, m => by
    unfold intsIn at h
    simp only [Bool.and_eq_true, decide_eq_true_eq] at h
    rcases List.mem_cons.mp m with rfl | m
    · exact ⟨i, rfl, h.1.1, h.1.2⟩
    · exact intsIn_mem h.2 v m
  | .non :: _, h, _, _ => by cases h
  | .bl _ :: _, h, _, _ => by cases h
  | .str _ :: _, h, _, _ => by cases h
  | .byt _ :: _, h, _, _ => by cases h
  | .flt _ :: _, h, _, _ => by cases h
  | .ref _ :: _, h, _, _ => by cases h
  | .ty _ :: _, h, _, _ => by cases h
def strsIn (lo hi : Nat) : List V → Bool
  | [] => true
  | .str z :: r => decide (lo ≤ z.cps.size) && decide (z.cps.size ≤ hi) && tokB z && strsIn lo hi r
  | _ :: _ => false
theorem strsIn_mem {lo hi : Nat} : ∀ {vs : List V}, strsIn lo hi vs = true → ∀ v ∈ vs, ∃ z, v = V.str z ∧ lo ≤ (cs z).length ∧ (cs z).length ≤ hi ∧ TOk z
  | [], _, v, m => absurd m List.not_mem_nil
  | .str z :: r, h, v, m => by
    unfold strsIn at h
    simp only [Bool.and_eq_true, decide_eq_true_eq] at h
    rcases List.mem_cons.mp m with rfl | m
    · have e : (cs z).length = z.cps.size := by
        show z.cps.toList.length = _
        rw [Array.length_toList]
      exact ⟨z, rfl, by omega, by omega, tok_of h.1.2⟩
    · exact strsIn_mem h.2 v m
  | .non :: _, h, _, _ => by cases h
  | .bl _ :: _, h, _, _ => by cases h
  | .int _ :: _, h, _, _ => by cases h
  | .byt _ :: _, h, _, _ => by cases h
  | .flt _ :: _, h, _, _ => by cases h
  | .ref _ :: _, h, _, _ => by cases h
  | .ty _ :: _, h, _, _ => by cases h
theorem strs4 {z1 z2 : Str} {a b : Str} (h1 : (cs z1).length = 96) (h2 : (cs z2).length = 96) (o1 : TOk z1) (o2 : TOk z2) (ha : strsIn 1 96 [.str a, .str b] = true) {v : V} (m : v ∈ [V.str z1, V.str z2, V.str a, V.str b]) :
    ∃ z, v = V.str z ∧ 0 < (cs z).length ∧ (cs z).length ≤ 96 ∧ TOk z := by
  rcases List.mem_cons.mp m with rfl | m
  · exact ⟨z1, rfl, by omega, by omega, o1⟩
  rcases List.mem_cons.mp m with rfl | m
  · exact ⟨z2, rfl, by omega, by omega, o2⟩
  obtain ⟨z, e, h3, h4, h5⟩ := strsIn_mem ha v m
  exact ⟨z, e, by omega, h4, h5⟩
def spStepped : Sp := fun vs H Q _ => ∃ (r : Addr) (n : Int), vs = [.ref r, .int n] ∧ ReelAt H r ∧ 0 ≤ n ∧ n ≤ 50000 ∧ ∀ (x : Str) H', ((cs x).length : Int) = n → TOk x → But r H H' → ReelAt H' r → Q (.str x) H'
theorem ok_stepped (T : Txt K mg) : FnOk P w K mg base CX0 3 T.a_law_stepped T.fd_law_stepped ["reel", "size"] spStepped := by
  have G_law_draw : FnOk P w K mg base CX0 1 T.a_law_draw T.fd_law_draw ["reel", "size"] spDraw := ok_draw T
  have G_law_pick : FnOk P w K mg base CX0 2 T.a_law_pick T.fd_law_pick ["reel", "row"] (spPick K) := ok_pick T
  have G_law_signs : FnOk P w K mg base CX0 1 T.a_law_signs T.fd_law_signs [] spSigns := ok_signs T
  refine T.F_law_stepped.ok sc_law_stepped (fun vs H Q E h => ?_) (fun cdv A outer s H vs Q E hr h => ?_)
  · obtain ⟨r, n, rfl, _⟩ := h
    rfl
  · have hr_law_draw : Room 1 _ := hr.mono (by decide)
    have hr_law_signs : Room 1 _ := hr.mono (by decide)
    have hr_law_pick : Room 2 _ := hr
    obtain ⟨r, n, rfl, hr0, h0, h1, q⟩ := h
    refine ⟨_, (pss_cons (ps_set (i := 2) sc_law_stepped.nd rfl (.inr rfl) (pe_call G_law_pick hr_law_pick (by rfl) T.g_law_pick T.F_law_pick.kp T.b_law_pick .nil pass0 (pa_cons (pv 0) (pa_cons (pe_lst (pa_cons (pe_call0 G_law_signs hr_law_signs (by rfl) T.g_law_signs T.F_law_signs.kp T.b_law_signs .nil pass0) (pa_cons (pe_call0 G_law_signs hr_law_signs (by rfl) T.g_law_signs T.F_law_signs.kp T.b_law_signs .nil pass0) (pa_cons pe_str (pa_cons pe_str pa_nil))))) pa_nil))))
      (pss_cons (ps_set (i := 3) sc_law_stepped.nd rfl (.inr rfl) (pe_call G_law_draw hr_law_draw (by rfl) T.g_law_draw T.F_law_draw.kp T.b_law_draw .nil pass0 (pa_cons (pv 0) (pa_cons pe_int pa_nil))))
      (pss_cons (ps_set (i := 4) sc_law_stepped.nd rfl (.inr rfl) (pe_call G_law_pick hr_law_pick (by rfl) T.g_law_pick T.F_law_pick.kp T.b_law_pick .nil pass0 (pa_cons (pv 0) (pa_cons (pe_lst (pa_cons pe_int (pa_cons pe_int (pa_cons pe_int (pa_cons pe_int pa_nil))))) pa_nil))))
      (pss_one (ps_ret (pe_join pe_str (pe_lc (own := [("k", 5)]) (g := gName 5) (by rfl) sc_law_stepped.nd (pi_range1 (by rfl) T.m_range (pa_cons (pv 1) pa_nil)) (blkOk_by (own := [("k", 5)]) (N := ["reel", "size", "letters", "first", "step", "k"]) (sc := defScope s_law_stepped) (by decide +kernel)) (fun _ _ _ _ _ => pg_name (i := 5) sc_law_stepped.nd rfl (Or.inl rfl)) (fun _ _ _ _ _ => pts_nil) (fun _ _ _ _ _ => (pe_ix ix_str (pv 2) (pe_op op_modN (pe_callTy call_int1 (by rfl) T.m_int (by decide +kernel) (pa_cons (pe_op op_add (pv 3) (pe_op op_mul (pv 5) (pv 4))) pa_nil)) (pe_callB call_len_str (by rfl) T.m_len PySem.boot_len (pa_cons (pv 2) pa_nil))) (fun _ _ => rfl)))))))))), ?_⟩
    -- letters
    refine ⟨_, rfl, rfl, fun z1 l1 o1 => ⟨rfl, fun z2 l2 o2 => ⟨by show 4 ≤ sizeLine; decide, fun p np => ?_⟩⟩⟩
    refine ⟨r, _, rfl, hr0.new np, .inr ⟨p, _, rfl, (hr0.ne np).symm, SqL.of upd_same, by show 0 < 4; decide, fun v H1 hv hb1 hR1 => ?_⟩⟩
    obtain ⟨z, rfl, hz0, hz1, hzo⟩ := strs4 l1 l2 o1 o2 (by decide +kernel) hv
    have hb1' : But r H H1 := (But.new np).trans hb1
    -- first
    refine ⟨_, rfl, r, _, rfl, hR1, by decide, fun f H2 f0 f1 hb2 hR2 => ?_⟩
    -- step
    refine ⟨_, rfl, by show 4 ≤ sizeLine; decide, fun p2 np2 => ?_⟩
    refine ⟨r, _, rfl, hR2.new np2, .inr ⟨p2, _, rfl, (hR2.ne np2).symm, SqL.of upd_same, by show 0 < 4; decide, fun v H3 hv hb3 hR3 => ?_⟩⟩
    obtain ⟨st, rfl, hs0, hs1⟩ : ∃ i : Int, v = .int i ∧ 0 ≤ i ∧ i ≤ 100 := by
      rcases List.mem_cons.mp hv with rfl | hv
      · exact ⟨1, rfl, by decide, by decide⟩
      rcases List.mem_cons.mp hv with rfl | hv
      · exact ⟨5, rfl, by decide, by decide⟩
      rcases List.mem_cons.mp hv with rfl | hv
      · exact ⟨7, rfl, by decide, by decide⟩
      rcases List.mem_cons.mp hv with rfl | hv
      · exact ⟨95, rfl, by decide, by decide⟩
      · exact absurd hv List.not_mem_nil
    have hb3' : But r H H3 := hb1'.trans (hb2.trans ((But.new np2).trans hb3))
    refine ⟨⟨_, rfl⟩, _, rfl, n, rfl, by omega, by omega, fun D nD => ?_⟩
    refine lc_range (lo := 0) (n := n.toNat) (fun i H' => ∃ l : List Nat, H' D = some (.lst ((l.map sg).map V.str)) ∧ l.length = i ∧ (∀ c ∈ l, c < 1114112) ∧ But r H3 H' ∧ ReelAt H' r)
      ⟨[], upd_same, rfl, (fun c hc => absurd hc List.not_mem_nil), But.new nD, hR3.new nD⟩ ?_ ?_
    · rintro i H' hi ⟨l, hD, hl, hlo, hb, hR⟩
      have fm := fmod_range (f + (0 + (i : Int)) * st) (n := (z.length : Int)) (by rw [len_cs]; omega)
      have hlz := len_cs z
      have hv : ((f + (0 + (i : Int)) * st).fmod (z.length : Int)).toNat < (cs z).length := by omega
      obtain ⟨c, hc⟩ : ∃ c, (cs z)[((f + (0 + (i : Int)) * st).fmod (z.length : Int)).toNat]? = some c := ⟨_, List.getElem?_eq_getElem hv⟩
      refine ⟨rfl, _, rfl, _, rfl, _, rfl, _, rfl, _, _, rfl, rfl, .inr ⟨by omega, by omega⟩, _, _, rfl, rfl, .inl ⟨_, rfl, ?_⟩⟩
      refine ⟨_, rfl, z, rfl, sz1 (by omega), _, _, rfl, rfl, by omega, z, _, c, rfl, rfl, sz1 (by omega), at_of' fm.1 hc, ?_⟩
      have hDr : D ≠ r := (hR3.ne nD).symm
      refine ⟨_, hD, sz2 (by rw [List.length_map, List.length_map]; omega), l ++ [c], ?_, ?_, ?_, ?_, ?_⟩
      · rw [upd_same, map_snoc]
      · rw [List.length_append, hl]
        rfl
      · intro x hx
        rcases List.mem_append.mp hx with hx | hx
        · exact hlo x hx
        · rw [List.mem_singleton.mp hx]
          exact hzo c (List.mem_of_getElem? hc)
      · exact fun b o n e => by
          rw [upd_ne (ne_of_none e nD)]
          exact hb b o n e
      · obtain ⟨z1, c1, e1, e2⟩ := hR
        exact ⟨z1, c1, by rw [upd_ne hDr.symm]; exact e1, e2⟩
    · rintro H' ⟨l, hD, hl, hlo, hb, hR⟩
      refine ⟨_, _, _, rfl, rfl, .inl (SqL.of hD), ?_, ?_⟩
      · rw [sg_lens, List.length_map]
        show l.length + l.length * 0 ≤ _
        omega
      · rw [join_sg rfl]
        exact q _ _ (by show (l.length : Int) = n; omega) hlo (hb3'.trans hb) hR
/-- a text of at most n signs -/
def spText (m : Nat) : Sp := fun vs H Q _ => ∃ (r : Addr), vs = [.ref r] ∧ ReelAt H r ∧ ∀ (x : Str) H', (cs x).length ≤ m → TOk x → But r H H' → ReelAt H' r → Q (.str x) H'

theorem ok_text (T : Txt K mg) : FnOk P w K mg base CX0 4 T.a_law_text T.fd_law_text ["reel"] (spText 2000) := by
  have G_law_draw : FnOk P w K mg base CX0 1 T.a_law_draw T.fd_law_draw ["reel", "size"] spDraw := ok_draw T
  have G_law_pick : FnOk P w K mg base CX0 2 T.a_law_pick T.fd_law_pick ["reel", "row"] (spPick K) := ok_pick T
  have G_law_word : FnOk P w K mg base CX0 3 T.a_law_word T.fd_law_word ["reel", "letters", "least", "most"] spWord := ok_word T
  have G_law_signs : FnOk P w K mg base CX0 1 T.a_law_signs T.fd_law_signs [] spSigns := ok_signs T
  have G_law_stepped : FnOk P w K mg base CX0 3 T.a_law_stepped T.fd_law_stepped ["reel", "size"] spStepped := ok_stepped T
  refine T.F_law_text.ok sc_law_text (fun vs H Q E h => ?_) (fun cdv A outer s H vs Q E hr h => ?_)
  · obtain ⟨r, rfl, _⟩ := h
    rfl
  · have hr_law_draw : Room 1 _ := hr.mono (by decide)
    have hr_law_signs : Room 1 _ := hr.mono (by decide)
    have hr_law_pick : Room 2 _ := hr.mono (by decide)
    have hr_law_word : Room 3 _ := hr
    have hr_law_stepped : Room 3 _ := hr
    obtain ⟨r, rfl, hr0, q⟩ := h
    refine ⟨_, (pss_cons (ps_set (i := 1) sc_law_text.nd rfl (.inl rfl) (pe_call G_law_draw hr_law_draw (by rfl) T.g_law_draw T.F_law_draw.kp T.b_law_draw .nil pass0 (pa_cons (pv 0) (pa_cons pe_int pa_nil))))
      (pss_cons (ps_if (pt_cmpR op_eq (pv 1) pe_int (nomark _)) (pss_one (ps_ret (pe_call G_law_stepped hr_law_stepped (by rfl) T.g_law_stepped T.F_law_stepped.kp T.b_law_stepped .nil pass0 (pa_cons (pv 0) (pa_cons (pe_op op_add pe_int (pe_call G_law_draw hr_law_draw (by rfl) T.g_law_draw T.F_law_draw.kp T.b_law_draw .nil pass0 (pa_cons (pv 0) (pa_cons pe_int pa_nil)))) pa_nil))))) pss_nil)
      (pss_cons (ps_if (pt_cmpR op_lt (pv 1) pe_int (nomark _)) (pss_one (ps_ret (pe_call G_law_stepped hr_law_stepped (by rfl) T.g_law_stepped T.F_law_stepped.kp T.b_law_stepped .nil pass0 (pa_cons (pv 0) (pa_cons (pe_call G_law_pick hr_law_pick (by rfl) T.g_law_pick T.F_law_pick.kp T.b_law_pick .nil pass0 (pa_cons (pv 0) (pa_cons (pe_lst (pa_cons pe_int (pa_cons pe_int (pa_cons pe_int (pa_cons pe_int (pa_cons pe_int (pa_cons pe_int (pa_cons pe_int pa_nil)))))))) pa_nil))) pa_nil))))) pss_nil)
      (pss_one (ps_ret (pe_call G_law_word hr_law_word (by rfl) T.g_law_word T.F_law_word.kp T.b_law_word .nil pass0 (pa_cons (pv 0) (pa_cons (pe_call G_law_pick hr_law_pick (by rfl) T.g_law_pick T.F_law_pick.kp T.b_law_pick .nil pass0 (pa_cons (pv 0) (pa_cons (pe_lst (pa_cons (pe_call0 G_law_signs hr_law_signs (by rfl) T.g_law_signs T.F_law_signs.kp T.b_law_signs .nil pass0) (pa_cons (pe_call0 G_law_signs hr_law_signs (by rfl) T.g_law_signs T.F_law_signs.kp T.b_law_signs .nil pass0) (pa_cons pe_str (pa_cons pe_str pa_nil))))) pa_nil))) (pa_cons pe_int (pa_cons (pe_call G_law_pick hr_law_pick (by rfl) T.g_law_pick T.F_law_pick.kp T.b_law_pick .nil pass0 (pa_cons (pv 0) (pa_cons (pe_lst (pa_cons pe_int (pa_cons pe_int (pa_cons pe_int (pa_cons pe_int pa_nil))))) pa_nil))) pa_nil)))))))))), ?_⟩
    -- form
    refine ⟨_, rfl, r, _, rfl, hr0, by decide, fun f H1 f0 f1 hb1 hR1 => ?_⟩
    refine ⟨_, rfl, rfl, _, rfl, ite2 (fun e => ?_) (fun e => ?_)⟩
    · refine ⟨_, rfl, _, rfl, r, _, rfl, hR1, by decide, fun a H2 a0 a1 hb2 hR2 => ?_⟩
      refine ⟨200, a, rfl, rfl, ?_⟩
      refine ⟨r, _, rfl, hR2, by omega, by omega, fun x H5 hx ho hb5 hR5 => ?_⟩
      exact q x H5 (by omega) ho (hb1.trans (hb2.trans hb5)) hR5
    · refine ⟨_, rfl, f, 4, rfl, rfl, _, rfl, ite2 (fun e => ?_) (fun e => ?_)⟩
      · refine ⟨_, rfl, _, rfl, by show 7 ≤ sizeLine; decide, fun p np => ?_⟩
        refine ⟨r, _, rfl, hR1.new np, .inr ⟨p, _, rfl, (hR1.ne np).symm, SqL.of upd_same, by show 0 < 7; decide, fun v H2 hv hb2 hR2 => ?_⟩⟩
        obtain ⟨i, rfl, i0, i1⟩ := intsIn_mem (lo := 0) (hi := 60) (by decide +kernel) v hv
        refine ⟨r, _, rfl, hR2, i0, by omega, fun x H5 hx ho hb5 hR5 => ?_⟩
        exact q x H5 (by omega) ho (hb1.trans ((But.new np).trans (hb2.trans hb5))) hR5
      · refine ⟨_, rfl, _, rfl, rfl, fun z1 l1 o1 => ⟨rfl, fun z2 l2 o2 => ⟨by show 4 ≤ sizeLine; decide, fun p np => ?_⟩⟩⟩
        refine ⟨r, _, rfl, hR1.new np, .inr ⟨p, _, rfl, (hR1.ne np).symm, SqL.of upd_same, by show 0 < 4; decide, fun v H2 hv hb2 hR2 => ?_⟩⟩
        obtain ⟨z, rfl, hz0, hz1, hzo⟩ := strs4 l1 l2 o1 o2 (by decide +kernel) hv
        refine ⟨_, rfl, by show 4 ≤ sizeLine; decide, fun p2 np2 => ?_⟩
        refine ⟨r, _, rfl, hR2.new np2, .inr ⟨p2, _, rfl, (hR2.ne np2).symm, SqL.of upd_same, by show 0 < 4; decide, fun v H3 hv hb3 hR3 => ?_⟩⟩
        obtain ⟨i, rfl, i0, i1⟩ := intsIn_mem (lo := 1) (hi := 20) (by decide +kernel) v hv
        refine ⟨r, z, 0, i, rfl, hR3, hz0, by omega, by decide, by omega, by omega, fun x H5 hx hx2 hxz hb5 hR5 => ?_⟩
        exact q x H5 (by omega) (fun c hc => hzo c (hxz c hc)) (hb1.trans ((But.new np).trans (hb2.trans ((But.new np2).trans (hb3.trans hb5))))) hR5

theorem ok_new (T : Txt K mg) : FnOk P w K mg base CX0 4 T.a_law_new T.fd_law_new ["reel"] (spText 300) := by
  have G_law_draw : FnOk P w K mg base CX0 1 T.a_law_draw T.fd_law_draw ["reel", "size"] spDraw := ok_draw T
  have G_law_pick : FnOk P w K mg base CX0 2 T.a_law_pick T.fd_law_pick ["reel", "row"] (spPick K) := ok_pick T
  have G_law_word : FnOk P w K mg base CX0 3 T.a_law_word T.fd_law_word ["reel", "letters", "least", "most"] spWord := ok_word T
  have G_law_signs : FnOk P w K mg base CX0 1 T.a_law_signs T.fd_law_signs [] spSigns := ok_signs T
  have G_law_stepped : FnOk P w K mg base CX0 3 T.a_law_stepped T.fd_law_stepped ["reel", "size"] spStepped := ok_stepped T
  refine T.F_law_new.ok sc_law_new (fun vs H Q E h => ?_) (fun cdv A outer s H vs Q E hr h => ?_)
  · obtain ⟨r, rfl, _⟩ := h
    rfl
  · have hr_law_draw : Room 1 _ := hr.mono (by decide)
    have hr_law_signs : Room 1 _ := hr.mono (by decide)
    have hr_law_pick : Room 2 _ := hr.mono (by decide)
    have hr_law_word : Room 3 _ := hr
    have hr_law_stepped : Room 3 _ := hr
    obtain ⟨r, rfl, hr0, q⟩ := h
    refine ⟨_, (pss_cons (ps_if (pt_cmpR op_eq (pe_call G_law_draw hr_law_draw (by rfl) T.g_law_draw T.F_law_draw.kp T.b_law_draw .nil pass0 (pa_cons (pv 0) (pa_cons pe_int pa_nil))) pe_int (nomark _)) (pss_one (ps_ret (pe_call G_law_stepped hr_law_stepped (by rfl) T.g_law_stepped T.F_law_stepped.kp T.b_law_stepped .nil pass0 (pa_cons (pv 0) (pa_cons (pe_call G_law_pick hr_law_pick (by rfl) T.g_law_pick T.F_law_pick.kp T.b_law_pick .nil pass0 (pa_cons (pv 0) (pa_cons (pe_lst (pa_cons pe_int (pa_cons pe_int (pa_cons pe_int (pa_cons pe_int (pa_cons pe_int (pa_cons pe_int (pa_cons pe_int (pa_cons pe_int (pa_cons pe_int pa_nil)))))))))) pa_nil))) pa_nil))))) pss_nil)
      (pss_cons (ps_set (i := 1) sc_law_new.nd rfl (.inl rfl) (pe_call G_law_pick hr_law_pick (by rfl) T.g_law_pick T.F_law_pick.kp T.b_law_pick .nil pass0 (pa_cons (pv 0) (pa_cons (pe_lst (pa_cons pe_int (pa_cons pe_int (pa_cons pe_int (pa_cons pe_int (pa_cons pe_int (pa_cons pe_int (pa_cons pe_int (pa_cons pe_int pa_nil))))))))) pa_nil))))
      (pss_one (ps_ret (pe_call G_law_word hr_law_word (by rfl) T.g_law_word T.F_law_word.kp T.b_law_word .nil pass0 (pa_cons (pv 0) (pa_cons (pe_call G_law_pick hr_law_pick (by rfl) T.g_law_pick T.F_law_pick.kp T.b_law_pick .nil pass0 (pa_cons (pv 0) (pa_cons (pe_lst (pa_cons (pe_call0 G_law_signs hr_law_signs (by rfl) T.g_law_signs T.F_law_signs.kp T.b_law_signs .nil pass0) (pa_cons (pe_call0 G_law_signs hr_law_signs (by rfl) T.g_law_signs T.F_law_signs.kp T.b_law_signs .nil pass0) (pa_cons pe_str (pa_cons pe_str pa_nil))))) pa_nil))) (pa_cons (pv 1) (pa_cons (pv 1) pa_nil))))))))), ?_⟩
    refine ⟨_, rfl, r, _, rfl, hr0, by decide, fun f H1 f0 f1 hb1 hR1 => ?_⟩
    refine ⟨rfl, _, rfl, ite2 (fun e => ?_) (fun e => ?_)⟩
    · refine ⟨_, rfl, _, rfl, by show 9 ≤ sizeLine; decide, fun p np => ?_⟩
      refine ⟨r, _, rfl, hR1.new np, .inr ⟨p, _, rfl, (hR1.ne np).symm, SqL.of upd_same, by show 0 < 9; decide, fun v H2 hv hb2 hR2 => ?_⟩⟩
      obtain ⟨i, rfl, i0, i1⟩ := intsIn_mem (lo := 15) (hi := 300) (by decide +kernel) v hv
      refine ⟨r, _, rfl, hR2, by omega, by omega, fun x H5 hx ho hb5 hR5 => ?_⟩
      exact q x H5 (by omega) ho (hb1.trans ((But.new np).trans (hb2.trans hb5))) hR5
    · refine ⟨_, rfl, by show 8 ≤ sizeLine; decide, fun p np => ?_⟩
      refine ⟨r, _, rfl, hR1.new np, .inr ⟨p, _, rfl, (hR1.ne np).symm, SqL.of upd_same, by show 0 < 8; decide, fun v H2 hv hb2 hR2 => ?_⟩⟩
      obtain ⟨i, rfl, i0, i1⟩ := intsIn_mem (lo := 0) (hi := 5) (by decide +kernel) v hv
      refine ⟨_, rfl, _, rfl, rfl, fun z1 l1 o1 => ⟨rfl, fun z2 l2 o2 => ⟨by show 4 ≤ sizeLine; decide, fun p2 np2 => ?_⟩⟩⟩
      refine ⟨r, _, rfl, hR2.new np2, .inr ⟨p2, _, rfl, (hR2.ne np2).symm, SqL.of upd_same, by show 0 < 4; decide, fun v H3 hv hb3 hR3 => ?_⟩⟩
      obtain ⟨z, rfl, hz0, hz1, hzo⟩ := strs4 l1 l2 o1 o2 (by decide +kernel) hv
      refine ⟨_, rfl, _, rfl, r, z, i, i, rfl, hR3, hz0, by omega, by omega, by omega, by omega, fun x H5 hx hx2 hxz hb5 hR5 => ?_⟩
      exact q x H5 (by omega) (fun c hc => hzo c (hxz c hc)) (hb1.trans ((But.new np).trans (hb2.trans ((But.new np2).trans (hb3.trans hb5))))) hR5


/-! ### edits, in plain Lean -/
abbrev Ed := Int × Int × Str
abbrev Ed.len (e : Ed) : Nat := (cs e.2.2).length
/-- a text with a stretch replaced -/
def spliceL (t : List Nat) (a b : Nat) (s : List Nat) : List Nat := t.take a ++ s ++ t.drop b
def spl1 (t : List Nat) (e : Ed) : List Nat := spliceL t e.1.toNat e.2.1.toNat (cs e.2.2)
def appl (t : List Nat) (es : List Ed) : List Nat := es.foldl spl1 t
def fit1 (n : Nat) (e : Ed) : Prop := 0 ≤ e.1 ∧ e.1 ≤ e.2.1 ∧ e.2.1 ≤ (n : Int)
instance (n : Nat) (e : Ed) : Decidable (fit1 n e) := by unfold fit1; infer_instance
def size1 (n : Nat) (e : Ed) : Nat := n - (e.2.1.toNat - e.1.toNat) + e.len
def sizeL (n : Nat) (es : List Ed) : Nat := es.foldl size1 n
def fitsL : Nat → List Ed → Prop
  | _, [] => True
  | n, e :: r => fit1 n e ∧ fitsL (size1 n e) r
/-- the index of the first edit that does not fit -/
def unfit : Nat → List Ed → Option Nat
  | _, [] => none
  | n, e :: r => if fit1 n e then (unfit (size1 n e) r).map (· + 1) else some 0
theorem spliceL_len {t s : List Nat} {a b : Nat} (h : a ≤ b) : (spliceL t a b s).length ≤ t.length + s.length := by
  unfold spliceL
  rw [List.length_append, List.length_append, List.length_take, List.length_drop]
  omega
theorem spl1_len {t : List Nat} {e : Ed} (h : fit1 t.length e) : (spl1 t e).length = size1 t.length e := by
  obtain ⟨h1, h2, h3⟩ := h
  unfold spl1 spliceL size1 Ed.len
  rw [List.length_append, List.length_append, List.length_take, List.length_drop]
  omega
theorem fitsL_snoc : ∀ (n : Nat) (es : List Ed) (e : Ed), fitsL n (es ++ [e]) ↔ fitsL n es ∧ fit1 (sizeL n es) e
  | n, [], e => by
    show fit1 n e ∧ True ↔ True ∧ fit1 n e
    simp
  | n, x :: r, e => by
    show fit1 n x ∧ fitsL (size1 n x) (r ++ [e]) ↔ (fit1 n x ∧ fitsL (size1 n x) r) ∧ fit1 (sizeL (size1 n x) r) e
    rw [fitsL_snoc (size1 n x) r e, and_assoc]
theorem appl_snoc (t : List Nat) (es : List Ed) (e : Ed) : appl t (es ++ [e]) = spl1 (appl t es) e := by
  unfold appl
  rw [List.foldl_append]
  rfl
theorem sizeL_snoc (n : Nat) (es : List Ed) (e : Ed) : sizeL n (es ++ [e]) = size1 (sizeL n es) e := by
  unfold sizeL
  rw [List.foldl_append]
  rfl
theorem appl_len : ∀ {t : List Nat} {es : List Ed}, fitsL t.length es → (appl t es).length = sizeL t.length es
  | t, [], _ => rfl
  | t, e :: r, h => by
    obtain ⟨h1, h2⟩ := h
    have e1 := spl1_len h1
    show (appl (spl1 t e) r).length = sizeL (size1 t.length e) r
    rw [← e1] at h2 ⊢
    exact appl_len h2
theorem fitsL_take : ∀ {n : Nat} {es : List Ed} (k : Nat), fitsL n es → fitsL n (es.take k)
  | _, [], k, _ => by rw [List.take_nil]; exact True.intro
  | _, _ :: _, 0, _ => True.intro
  | _, _ :: _, k + 1, h => ⟨h.1, fitsL_take k h.2⟩
theorem unfit_none : ∀ {n : Nat} {es : List Ed}, unfit n es = none ↔ fitsL n es
  | _, [] => by
    show none = none ↔ True
    simp
  | n, e :: r => by
    show (if fit1 n e then (unfit (size1 n e) r).map (· + 1) else some 0) = none ↔ fit1 n e ∧ fitsL (size1 n e) r
    by_cases h : fit1 n e
    · rw [if_pos h, Option.map_eq_none_iff, unfit_none]
      simp [h]
    · rw [if_neg h]
      simp [h]
theorem unfit_take : ∀ {n k : Nat} {es : List Ed}, unfit n es = some k → fitsL n (es.take k) ∧ k < es.length
  | _, _, [], h => by cases h
  | n, k, e :: r, h => by
    have h' : (if fit1 n e then (unfit (size1 n e) r).map (· + 1) else some 0) = some k := h
    by_cases c : fit1 n e
    · rw [if_pos c] at h'
      obtain ⟨j, h1, h2⟩ := Option.map_eq_some_iff.mp h'
      subst h2
      obtain ⟨h3, h4⟩ := unfit_take h1
      exact ⟨⟨c, h3⟩, Nat.succ_lt_succ h4⟩
    · rw [if_neg c] at h'
      cases h'
      exact ⟨True.intro, Nat.succ_pos _⟩
/-- the edit that leads back -/
def back1 (t : List Nat) (e : Ed) : Ed := (e.1, e.1 + (e.len : Int), ⟨((t.take e.2.1.toNat).drop e.1.toNat).toArray⟩)
/-- the edits that lead back, the last one first -/
def backL : List Nat → List Ed → List Ed
  | _, [] => []
  | t, e :: r => backL (spl1 t e) r ++ [back1 t e]
theorem backL_len : ∀ (t : List Nat) (es : List Ed), (backL t es).length = es.length
  | _, [] => rfl
  | t, e :: r => by
    show (backL (spl1 t e) r ++ [back1 t e]).length = r.length + 1
    rw [List.length_append, backL_len]
    rfl
theorem backL_snoc : ∀ (t : List Nat) (es : List Ed) (e : Ed), backL t (es ++ [e]) = back1 (appl t es) e :: backL t es
  | _, [], _ => rfl
  | t, x :: r, e => by
    show backL (spl1 t x) (r ++ [e]) ++ [back1 t x] = back1 (appl (spl1 t x) r) e :: (backL (spl1 t x) r ++ [back1 t x])
    rw [backL_snoc (spl1 t x) r e]
    rfl
theorem cs_toArray (l : List Nat) : cs ⟨l.toArray⟩ = l := rfl
/-- one step there, one step back -/
theorem back1_spl {t : List Nat} {e : Ed} (h : fit1 t.length e) : fit1 (spl1 t e).length (back1 t e) ∧ spl1 (spl1 t e) (back1 t e) = t ∧ back1 (spl1 t e) (back1 t e) = e := by
  obtain ⟨a, b, s⟩ := e
  obtain ⟨h1, h2, h3⟩ := h
  simp only at h1 h2 h3
  obtain ⟨a, rfl⟩ : ∃ n : Nat, a = (n : Int) := ⟨a.toNat, by omega⟩
  obtain ⟨b, rfl⟩ : ∃ n : Nat, b = (n : Int) := ⟨b.toNat, by omega⟩
  have hab : a ≤ b := by omega
  have hb : b ≤ t.length := by omega
  have la : (t.take a).length = a := by rw [List.length_take]; omega
  have lm : ((t.take b).drop a).length = b - a := by rw [List.length_drop, List.length_take]; omega
  have e1 : spl1 t ((a : Int), (b : Int), s) = t.take a ++ cs s ++ t.drop b := rfl
  have ea : ((a : Int) + ((cs s).length : Int)).toNat = a + (cs s).length := by omega
  have tk : (t.take a ++ cs s ++ t.drop b).take a = t.take a := by
    rw [List.append_assoc, List.take_append_of_le_length (by omega), List.take_of_length_le (by omega)]
  have dr : (t.take a ++ cs s ++ t.drop b).drop (a + (cs s).length) = t.drop b := by
    have : a + (cs s).length = (t.take a ++ cs s).length := by rw [List.length_append, la]
    rw [this, List.drop_left]
  have tt : t.take a ++ (t.take b).drop a ++ t.drop b = t := by
    have h1 : t.take a ++ (t.take b).drop a = t.take b := by
      have h2 : (t.take b).take a = t.take a := by rw [List.take_take, Nat.min_eq_left hab]
      rw [← h2, List.take_append_drop]
    rw [h1, List.take_append_drop]
  refine ⟨⟨by show (0 : Int) ≤ (a : Int); omega, by show (a : Int) ≤ (a : Int) + ((cs s).length : Int); omega, ?_⟩, ?_, ?_⟩
  · show (a : Int) + ((cs s).length : Int) ≤ ((spl1 t ((a : Int), (b : Int), s)).length : Int)
    rw [e1, List.length_append, List.length_append, la]
    omega
  · show (spl1 t ((a : Int), (b : Int), s)).take ((a : Int)).toNat ++ (t.take ((b : Int)).toNat).drop ((a : Int)).toNat ++ (spl1 t ((a : Int), (b : Int), s)).drop ((a : Int) + ((cs s).length : Int)).toNat = t
    rw [e1, ea, Int.toNat_natCast, Int.toNat_natCast, tk, dr, tt]
  · have c2 : (((t.take a ++ cs s ++ t.drop b).take (a + (cs s).length)).drop a) = cs s := by
      have h3 : a + (cs s).length = (t.take a ++ cs s).length := by rw [List.length_append, la]
      rw [h3, List.take_left]
      have h4 : (t.take a ++ cs s).drop a = (t.take a ++ cs s).drop (t.take a).length := by rw [la]
      rw [h4, List.drop_left]
    show (((a : Int)), (a : Int) + ((((t.take ((b : Int)).toNat).drop ((a : Int)).toNat).length : Nat) : Int), (⟨(((spl1 t ((a : Int), (b : Int), s)).take ((a : Int) + ((cs s).length : Int)).toNat).drop ((a : Int)).toNat).toArray⟩ : Str)) = ((a : Int), (b : Int), s)
    rw [e1, ea, Int.toNat_natCast, Int.toNat_natCast, c2, lm]
    have h5 : (a : Int) + ((b - a : Nat) : Int) = (b : Int) := by omega
    rw [h5]
theorem fitsL_app : ∀ {n : Nat} {es fs : List Ed}, fitsL n (es ++ fs) ↔ fitsL n es ∧ fitsL (sizeL n es) fs
  | n, [], fs => by
    show fitsL n fs ↔ True ∧ fitsL n fs
    simp
  | n, e :: r, fs => by
    show fit1 n e ∧ fitsL (size1 n e) (r ++ fs) ↔ (fit1 n e ∧ fitsL (size1 n e) r) ∧ fitsL (sizeL (size1 n e) r) fs
    rw [fitsL_app, and_assoc]
theorem appl_app (t : List Nat) (es fs : List Ed) : appl t (es ++ fs) = appl (appl t es) fs := by
  unfold appl
  rw [List.foldl_append]
theorem rev_ind {α : Type} {P : List α → Prop} (h0 : P []) (h1 : ∀ l a, P l → P (l ++ [a])) (l : List α) : P l := by
  have h : ∀ m : List α, P m.reverse := by
    intro m
    induction m with
    | nil => exact h0
    | cons a m ih =>
      rw [List.reverse_cons]
      exact h1 _ a ih
  have e := h l.reverse
  rw [List.reverse_reverse] at e
  exact e
/-- THE WAY BACK, k steps of it -/
theorem back_way : ∀ (k : Nat) {t : List Nat} {es : List Ed}, fitsL t.length es → k ≤ es.length →
    fitsL (appl t es).length ((backL t es).take k) ∧ appl (appl t es) ((backL t es).take k) = appl t (es.take (es.length - k)) := by
  intro k t es
  induction es using rev_ind generalizing k with
  | h0 =>
    intro _ hk
    have : k = 0 := by simpa using hk
    subst this
    exact ⟨True.intro, rfl⟩
  | h1 es e ih =>
    intro h hk
    obtain ⟨h1, h2⟩ := (fitsL_snoc _ _ _).mp h
    rw [← appl_len h1] at h2
    obtain ⟨b1, b2, _⟩ := back1_spl h2
    rw [backL_snoc, appl_snoc]
    cases k with
    | zero =>
      refine ⟨True.intro, ?_⟩
      rw [Nat.sub_zero, List.take_length, appl_snoc]
      rfl
    | succ k =>
      have hk' : k ≤ es.length := by
        rw [List.length_append] at hk
        simp only [List.length_singleton] at hk
        omega
      obtain ⟨i1, i2⟩ := ih k h1 hk'
      rw [List.take_succ_cons]
      refine ⟨⟨b1, ?_⟩, ?_⟩
      · rw [← spl1_len b1, b2]
        exact i1
      · show appl (spl1 (spl1 (appl t es) e) (back1 (appl t es) e)) ((backL t es).take k) = _
        rw [b2, i2]
        have e2 : (es ++ [e]).length - (k + 1) = es.length - k := by
          rw [List.length_append]
          simp only [List.length_singleton]
          omega
        rw [e2, List.take_append_of_le_length (by omega)]
/-- the way back of the way back -/
theorem back_back : ∀ {es : List Ed} {t : List Nat}, fitsL t.length es → backL (appl t es) (backL t es) = es := by
  intro es
  induction es using rev_ind with
  | h0 =>
    intro t _
    rfl
  | h1 es e ih =>
    intro t h
    obtain ⟨h1, h2⟩ := (fitsL_snoc _ _ _).mp h
    rw [← appl_len h1] at h2
    obtain ⟨b1, b2, b3⟩ := back1_spl h2
    rw [backL_snoc, appl_snoc]
    show backL (spl1 (spl1 (appl t es) e) (back1 (appl t es) e)) (backL t es) ++ [back1 (spl1 (appl t es) e) (back1 (appl t es) e)] = es ++ [e]
    rw [b2, b3, ih h1]

/-! ### edits of rows of anything, edits exchanged -/
def splG {α : Type} (t : List α) (a b : Nat) (s : List α) : List α := t.take a ++ s ++ t.drop b
def spl1G {α : Type} (g : Str → List α) (t : List α) (e : Ed) : List α := splG t e.1.toNat e.2.1.toNat (g e.2.2)
def applG {α : Type} (g : Str → List α) (t : List α) (es : List Ed) : List α := es.foldl (spl1G g) t
theorem applG_cs (t : List Nat) (es : List Ed) : applG cs t es = appl t es := rfl
theorem take_split {α : Type} (t : List α) (a : Nat) : t = t.take a ++ t.drop a := (List.take_append_drop a t).symm
theorem splG_mid {α : Type} {p q r s : List α} {a b : Nat} (ha : p.length = a) (hb : p.length + q.length = b) : splG (p ++ (q ++ r)) a b s = p ++ (s ++ r) := by
  subst ha
  subst hb
  unfold splG
  rw [List.take_append_of_le_length (Nat.le_refl _), List.take_length, List.append_assoc, List.drop_append, List.drop_append]
  have e1 : p.length + q.length - p.length = q.length := by omega
  rw [e1, List.drop_of_length_le (show p.length ≤ p.length + q.length by omega), List.drop_length, Nat.sub_self, List.drop_zero, List.nil_append, List.nil_append]
/-- a row in five parts -/
theorem five {α : Type} (t : List α) {a b c d : Nat} (h1 : a ≤ b) (h2 : b ≤ c) (h3 : c ≤ d) (h4 : d ≤ t.length) :
    ∃ x y z w v : List α, t = x ++ (y ++ (z ++ (w ++ v))) ∧ x.length = a ∧ y.length = b - a ∧ z.length = c - b ∧ w.length = d - c := by
  refine ⟨t.take a, (t.drop a).take (b - a), (t.drop b).take (c - b), (t.drop c).take (d - c), t.drop d, ?_, ?_, ?_, ?_, ?_⟩
  · have k1 : (t.drop c).take (d - c) ++ t.drop d = t.drop c := by
      have := List.take_append_drop (d - c) (t.drop c)
      rw [List.drop_drop, show c + (d - c) = d by omega] at this
      exact this
    have k2 : (t.drop b).take (c - b) ++ t.drop c = t.drop b := by
      have := List.take_append_drop (c - b) (t.drop b)
      rw [List.drop_drop, show b + (c - b) = c by omega] at this
      exact this
    have k3 : (t.drop a).take (b - a) ++ t.drop b = t.drop a := by
      have := List.take_append_drop (b - a) (t.drop a)
      rw [List.drop_drop, show a + (b - a) = b by omega] at this
      exact this
    rw [k1, k2, k3, List.take_append_drop]
  · rw [List.length_take]; omega
  · rw [List.length_take, List.length_drop]; omega
  · rw [List.length_take, List.length_drop]; omega
  · rw [List.length_take, List.length_drop]; omega
theorem swap_left {α : Type} {t s1 s2 : List α} {a b c d : Nat} (h1 : c ≤ d) (h2 : d ≤ a) (h3 : a ≤ b) (h4 : b ≤ t.length) :
    splG (splG t c d s2) (a - (d - c) + s2.length) (b - (d - c) + s2.length) s1 = splG (splG t a b s1) c d s2 := by
  obtain ⟨x, y, z, w, v, rfl, lx, ly, lz, lw⟩ := five t h1 h2 h3 h4
  rw [splG_mid (p := x) (q := y) lx (by omega)]
  have e1 : x ++ (s2 ++ (z ++ (w ++ v))) = (x ++ (s2 ++ z)) ++ (w ++ v) := by simp only [List.append_assoc]
  rw [e1, splG_mid (p := x ++ (s2 ++ z)) (q := w) (by simp only [List.length_append]; omega) (by simp only [List.length_append]; omega)]
  have e2 : x ++ (y ++ (z ++ (w ++ v))) = (x ++ (y ++ z)) ++ (w ++ v) := by simp only [List.append_assoc]
  rw [e2, splG_mid (p := x ++ (y ++ z)) (q := w) (by simp only [List.length_append]; omega) (by simp only [List.length_append]; omega)]
  have e3 : x ++ (y ++ z) ++ (s1 ++ v) = x ++ (y ++ (z ++ (s1 ++ v))) := by simp only [List.append_assoc]
  rw [e3, splG_mid (p := x) (q := y) lx (by omega)]
  simp only [List.append_assoc]
theorem swap_right {α : Type} {t s1 s2 : List α} {a b c d : Nat} (h1 : a ≤ b) (h2 : a + s1.length ≤ c) (h3 : c ≤ d) (h4 : d ≤ t.length - (b - a) + s1.length) (h5 : b ≤ t.length) :
    splG (splG t (c + (b - a) - s1.length) (d + (b - a) - s1.length) s2) a b s1 = splG (splG t a b s1) c d s2 := by
  obtain ⟨x, w, z, y, v, rfl, lx, lw, lz, ly⟩ := five t (c := c + (b - a) - s1.length) (d := d + (b - a) - s1.length) h1 (by omega) (by omega) (by omega)
  have e2 : x ++ (w ++ (z ++ (y ++ v))) = (x ++ (w ++ z)) ++ (y ++ v) := by simp only [List.append_assoc]
  rw [splG_mid (p := x) (q := w) lx (by omega)]
  rw [e2, splG_mid (p := x ++ (w ++ z)) (q := y) (by simp only [List.length_append]; omega) (by simp only [List.length_append]; omega)]
  have e3 : x ++ (w ++ z) ++ (s2 ++ v) = x ++ (w ++ (z ++ (s2 ++ v))) := by simp only [List.append_assoc]
  rw [e3, splG_mid (p := x) (q := w) lx (by omega)]
  have e1 : x ++ (s1 ++ (z ++ (y ++ v))) = (x ++ (s1 ++ z)) ++ (y ++ v) := by simp only [List.append_assoc]
  rw [e1, splG_mid (p := x ++ (s1 ++ z)) (q := y) (by simp only [List.length_append]; omega) (by simp only [List.length_append]; omega)]
  simp only [List.append_assoc]
/-- the pair in the other order -/
def dueE (e f : Ed) : Option (Ed × Ed) :=
  if f.2.1 ≤ e.1 then some (f, (e.1 + ((f.len : Int) - (f.2.1 - f.1)), e.2.1 + ((f.len : Int) - (f.2.1 - f.1)), e.2.2))
  else if e.1 + (e.len : Int) ≤ f.1 then some ((f.1 + (e.2.1 - e.1 - (e.len : Int)), f.2.1 + (e.2.1 - e.1 - (e.len : Int)), f.2.2), e)
  else none
theorem due_same {α : Type} {t r1 r2 : List α} {e f p q : Ed} (h : dueE e f = some (p, q)) (f1 : fit1 t.length e) (f2 : fit1 (size1 t.length e) f) (n1 : r1.length = e.len) (n2 : r2.length = f.len) :
    splG (splG t p.1.toNat p.2.1.toNat r2) q.1.toNat q.2.1.toNat r1 = splG (splG t e.1.toNat e.2.1.toNat r1) f.1.toNat f.2.1.toNat r2 := by
  obtain ⟨a1, a2, a3⟩ := f1
  obtain ⟨b1, b2, b3⟩ := f2
  obtain ⟨a, b, s⟩ := e
  obtain ⟨c, d, u⟩ := f
  obtain ⟨a, rfl⟩ : ∃ n : Nat, a = (n : Int) := ⟨a.toNat, by have : 0 ≤ a := a1; omega⟩
  obtain ⟨c, rfl⟩ : ∃ n : Nat, c = (n : Int) := ⟨c.toNat, by have : 0 ≤ c := b1; omega⟩
  obtain ⟨b, rfl⟩ : ∃ n : Nat, b = (n : Int) := ⟨b.toNat, by have : (a : Int) ≤ b := a2; omega⟩
  obtain ⟨d, rfl⟩ : ∃ n : Nat, d = (n : Int) := ⟨d.toNat, by have : (c : Int) ≤ d := b2; omega⟩
  have a2 : (a : Int) ≤ (b : Int) := a2
  have a3 : (b : Int) ≤ (t.length : Int) := a3
  have b2 : (c : Int) ≤ (d : Int) := b2
  have b3 : (d : Int) ≤ ((t.length - (((b : Int)).toNat - ((a : Int)).toNat) + (cs s).length : Nat) : Int) := b3
  have n1 : r1.length = (cs s).length := n1
  have n2 : r2.length = (cs u).length := n2
  unfold dueE at h
  simp only [Ed.len] at h
  by_cases k1 : (d : Int) ≤ (a : Int)
  · rw [if_pos k1] at h
    have h' := Prod.mk.inj (Option.some.inj h)
    rw [← h'.1, ← h'.2]
    show splG (splG t ((c : Int)).toNat ((d : Int)).toNat r2) ((a : Int) + (((cs u).length : Int) - ((d : Int) - (c : Int)))).toNat ((b : Int) + (((cs u).length : Int) - ((d : Int) - (c : Int)))).toNat r1 = splG (splG t ((a : Int)).toNat ((b : Int)).toNat r1) ((c : Int)).toNat ((d : Int)).toNat r2
    have e1 : ((a : Int) + (((cs u).length : Int) - ((d : Int) - (c : Int)))).toNat = a - (d - c) + r2.length := by omega
    have e2 : ((b : Int) + (((cs u).length : Int) - ((d : Int) - (c : Int)))).toNat = b - (d - c) + r2.length := by omega
    rw [e1, e2]
    simp only [Int.toNat_natCast]
    exact swap_left (by omega) (by omega) (by omega) (by omega)
  · rw [if_neg k1] at h
    by_cases k2 : (a : Int) + ((cs s).length : Int) ≤ (c : Int)
    · rw [if_pos k2] at h
      have h' := Prod.mk.inj (Option.some.inj h)
      rw [← h'.1, ← h'.2]
      show splG (splG t ((c : Int) + ((b : Int) - (a : Int) - ((cs s).length : Int))).toNat ((d : Int) + ((b : Int) - (a : Int) - ((cs s).length : Int))).toNat r2) ((a : Int)).toNat ((b : Int)).toNat r1 = splG (splG t ((a : Int)).toNat ((b : Int)).toNat r1) ((c : Int)).toNat ((d : Int)).toNat r2
      have e1 : ((c : Int) + ((b : Int) - (a : Int) - ((cs s).length : Int))).toNat = c + (b - a) - r1.length := by omega
      have e2 : ((d : Int) + ((b : Int) - (a : Int) - ((cs s).length : Int))).toNat = d + (b - a) - r1.length := by omega
      rw [e1, e2]
      simp only [Int.toNat_natCast] at b3 ⊢
      exact swap_right (by omega) (by omega) (by omega) (by omega) (by omega)
    · rw [if_neg k2] at h
      cases h
theorem swap_same {α : Type} {g : Str → List α} (hg : ∀ s, (g s).length = (cs s).length) {t : List α} {e f p q : Ed} (h : dueE e f = some (p, q)) (f1 : fit1 t.length e) (f2 : fit1 (size1 t.length e) f) :
    applG g t [p, q] = applG g t [e, f] := by
  have k := due_same (r1 := g e.2.2) (r2 := g f.2.2) h f1 f2 (hg _) (hg _)
  have tx : p.2.2 = f.2.2 ∧ q.2.2 = e.2.2 := by
    unfold dueE at h
    split at h
    · have h' := Prod.mk.inj (Option.some.inj h)
      rw [← h'.1, ← h'.2]
      exact ⟨rfl, rfl⟩
    · split at h
      · have h' := Prod.mk.inj (Option.some.inj h)
        rw [← h'.1, ← h'.2]
        exact ⟨rfl, rfl⟩
      · cases h
  show splG (splG t p.1.toNat p.2.1.toNat (g p.2.2)) q.1.toNat q.2.1.toNat (g q.2.2) = splG (splG t e.1.toNat e.2.1.toNat (g e.2.2)) f.1.toNat f.2.1.toNat (g f.2.2)
  rw [tx.1, tx.2]
  exact k
theorem swap_fits {n : Nat} {e f p q : Ed} (h : dueE e f = some (p, q)) (f1 : fit1 n e) (f2 : fit1 (size1 n e) f) : fitsL n [p, q] := by
  obtain ⟨a1, a2, a3⟩ := f1
  obtain ⟨b1, b2, b3⟩ := f2
  obtain ⟨a, b, s⟩ := e
  obtain ⟨c, d, u⟩ := f
  simp only [size1, Ed.len] at a1 a2 a3 b1 b2 b3
  unfold dueE at h
  simp only [Ed.len] at h
  split at h
  · have h' := Prod.mk.inj (Option.some.inj h)
    rw [← h'.1, ← h'.2]
    refine ⟨⟨b1, b2, ?_⟩, ⟨?_, ?_, ?_⟩, True.intro⟩
    · show d ≤ (n : Int)
      omega
    · show 0 ≤ a + _
      omega
    · show a + _ ≤ b + _
      omega
    · simp only [size1, Ed.len]
      omega
  · split at h
    · have h' := Prod.mk.inj (Option.some.inj h)
      rw [← h'.1, ← h'.2]
      refine ⟨⟨?_, ?_, ?_⟩, ⟨a1, a2, ?_⟩, True.intro⟩
      · show 0 ≤ c + _
        omega
      · show c + _ ≤ d + _
        omega
      · show d + _ ≤ (n : Int)
        omega
      · simp only [size1, Ed.len]
        omega
    · cases h

/-! ### edits -/
/-- the tuple of an edit -/
def EdAt (H : Hp) (v : V) (e : Ed) : Prop := ∃ t, v = .ref t ∧ H t = some (.tup [.int e.1, .int e.2.1, .str e.2.2])
/-- tuples stand as they stood -/
def Tups (H H' : Hp) : Prop := ∀ b xs, H b = some (.tup xs) → H' b = some (.tup xs)
theorem Tups.refl (H : Hp) : Tups H H := fun _ _ h => h
theorem Tups.trans {H H1 H2 : Hp} (a : Tups H H1) (b : Tups H1 H2) : Tups H H2 := fun c xs h => b c xs (a c xs h)
theorem But.tups {r : Addr} {H H' : Hp} (b : But r H H') (h : ReelAt H r) : Tups H H' := fun c xs e => b c _ (fun z => by
  obtain ⟨z1, c1, e1, _⟩ := h
  rw [z, e1] at e
  cases e) e
theorem Tups.new {H : Hp} {p : Addr} {o : HO} (h : H p = none) : Tups H (upd H p o) := fun c xs e => by rw [upd_ne (ne_of_none e h)]; exact e
theorem Tups.mut {H : Hp} {p : Addr} {xs : List V} {o : HO} (h : H p = some (.lst xs)) : Tups H (upd H p o) := fun c ys e => by
  rw [upd_ne (ne_of e h (fun z => by cases z))]
  exact e
theorem EdAt.mono {H H' : Hp} {v : V} {e : Ed} (t : Tups H H') (h : EdAt H v e) : EdAt H' v e := by
  obtain ⟨a, e1, e2⟩ := h
  exact ⟨a, e1, t a _ e2⟩
abbrev EdsIn (H : Hp) : List V → List Ed → Prop := Paired (EdAt H)
theorem EdsIn.mono {H H' : Hp} {vs : List V} {es : List Ed} (t : Tups H H') (h : EdsIn H vs es) : EdsIn H' vs es := Paired.mapP h fun _ _ => EdAt.mono t
theorem paired_len {α β : Type} {F : α → β → Prop} : ∀ {xs : List α} {ys : List β}, Paired F xs ys → xs.length = ys.length
  | _, _, .nil => rfl
  | _, _, .cons _ t => congrArg (· + 1) (paired_len t)
theorem paired_app {α β : Type} {F : α → β → Prop} : ∀ {xs xs' : List α} {ys ys' : List β}, Paired F xs ys → Paired F xs' ys' → Paired F (xs ++ xs') (ys ++ ys')
  | _, _, _, _, .nil, h => h
  | _, _, _, _, .cons r t, h => .cons r (paired_app t h)
theorem paired_get {α β : Type} {F : α → β → Prop} : ∀ {xs : List α} {ys : List β} {i : Nat} {y : β}, Paired F xs ys → ys[i]? = some y → ∃ x, xs[i]? = some x ∧ F x y
  | _, _, _, _, .nil, h => by simp at h
  | _, _, 0, y, .cons r t, h => by
    have e := Option.some.inj h
    subst e
    exact ⟨_, rfl, r⟩
  | _, _, i + 1, y, .cons r t, h => by
    obtain ⟨x, h1, h2⟩ := paired_get (i := i) (y := y) t (by simpa using h)
    exact ⟨x, by simpa using h1, h2⟩
theorem paired_take {α β : Type} {F : α → β → Prop} : ∀ {xs : List α} {ys : List β} (n : Nat), Paired F xs ys → Paired F (xs.take n) (ys.take n)
  | _, _, 0, _ => .nil
  | _, _, _ + 1, .nil => .nil
  | _, _, n + 1, .cons r t => .cons r (paired_take n t)
theorem paired_drop {α β : Type} {F : α → β → Prop} : ∀ {xs : List α} {ys : List β} (n : Nat), Paired F xs ys → Paired F (xs.drop n) (ys.drop n)
  | _, _, 0, h => h
  | _, _, _ + 1, .nil => .nil
  | _, _, n + 1, .cons r t => paired_drop n t
/-- a drawn edit -/
def EdBd (e : Ed) : Prop := 0 ≤ e.1 ∧ e.1 ≤ e.2.1 ∧ (cs e.2.2).length ≤ 2000 ∧ TOk e.2.2
/-- what stands behind i turns of the row's making -/
structure RowSt (r l : Addr) (H0 : Hp) (i : Nat) (z now : Str) (H : Hp) : Prop where
  ex : ∃ vs es, H l = some (.lst vs) ∧ EdsIn H vs es ∧ es.length = i ∧ (∀ e ∈ es, EdBd e) ∧ fitsL (cs z).length es ∧ appl (cs z) es = cs now
  ne : l ≠ r
  but : But r H0 H
  reel : ReelAt H r
  len : (cs now).length ≤ 2000
  tok : TOk now
theorem RowSt.mono {r l : Addr} {H0 H H' : Hp} {i : Nat} {z now : Str} (h : RowSt r l H0 i z now H) (b : But r H H') (hR : ReelAt H' r) : RowSt r l H0 i z now H' := by
  obtain ⟨⟨vs, es, e1, e2, e3⟩, n, b0, r0, ln, tk⟩ := h
  exact ⟨⟨vs, es, b l _ n e1, e2.mono (b.tups r0), e3⟩, n, b0.trans b, hR, ln, tk⟩
theorem RowSt.new {r l p : Addr} {H0 H : Hp} {i : Nat} {z now : Str} {o : HO} (h : RowSt r l H0 i z now H) (np : H p = none) : RowSt r l H0 i z now (upd H p o) := h.mono (But.new np) (h.reel.new np)
theorem cut_len (z : Str) (lo hi : Option Int) : (cs (cutS z lo hi)).length ≤ (cs z).length := by
  have h := cutS_length z lo hi
  rw [len_cs, len_cs] at h
  exact h
theorem cut_tok {z : Str} (h : TOk z) (lo hi : Option Int) : TOk (cutS z lo hi) := fun c hc => h c (List.mem_of_mem_drop (List.mem_of_mem_take hc))
theorem spl_tok {t : List Nat} {a b : Nat} {s : List Nat} (h : ∀ c ∈ t, c < 1114112) (h2 : ∀ c ∈ s, c < 1114112) : ∀ c ∈ spliceL t a b s, c < 1114112 := fun c hc => by
  rcases List.mem_append.mp hc with hc | hc
  · rcases List.mem_append.mp hc with hc | hc
    · exact h c (List.mem_of_mem_take hc)
    · exact h2 c hc
  · exact h c (List.mem_of_mem_drop hc)
theorem tok_empty : TOk Str.empty := fun c hc => absurd hc List.not_mem_nil
theorem cut_pre (z : Str) (a : Nat) : cs (cutS z none (some (a : Int))) = (cs z).take a := by
  show ((cs z).drop 0).take _ = _
  rw [HT.sIx_nat, HT.sIx_none, List.drop_zero, Nat.sub_zero, len_cs, ← List.take_eq_take_min]
theorem cut_suf (z : Str) (a : Nat) : cs (cutS z (some (a : Int)) none) = (cs z).drop a := by
  show ((cs z).drop _).take _ = _
  rw [HT.sIx_nat, HT.sIx_none, len_cs, List.take_of_length_le (by rw [List.length_drop]; exact Nat.le_refl _)]
  by_cases h : a ≤ (cs z).length
  · rw [Nat.min_eq_left h]
  · rw [Nat.min_eq_right (by omega), List.drop_eq_nil_of_le (Nat.le_refl _), List.drop_eq_nil_of_le (by omega)]
theorem cut_mid (z : Str) (a b : Nat) : cs (cutS z (some (a : Int)) (some (b : Int))) = ((cs z).take b).drop a := by
  show ((cs z).drop _).take _ = _
  rw [HT.sIx_nat, HT.sIx_nat, len_cs]
  by_cases h : a ≤ (cs z).length
  · rw [Nat.min_eq_left h, List.drop_take]
    by_cases h2 : b ≤ (cs z).length
    · rw [Nat.min_eq_left h2]
    · rw [Nat.min_eq_right (by omega), List.take_of_length_le (by rw [List.length_drop]; exact Nat.le_refl _), List.take_of_length_le (by rw [List.length_drop]; omega)]
  · rw [Nat.min_eq_right (show (cs z).length ≤ a by omega), List.drop_eq_nil_of_le (Nat.le_refl _), List.take_nil, List.drop_eq_nil_of_le (by rw [List.length_take]; omega)]
theorem cs_splice (z s : Str) (a b : Nat) : cs (cutS z none (some (a : Int)) ++ s ++ cutS z (some (b : Int)) none) = spliceL (cs z) a b (cs s) := by
  rw [cs_app, cs_app, cut_pre, cut_suf]
  rfl
theorem mem_ints {l : List Int} {v : V} (h : v ∈ l.map V.int) : ∃ i, i ∈ l ∧ v = .int i := by
  obtain ⟨i, h1, h2⟩ := List.mem_map.mp h
  exact ⟨i, h1, h2.symm⟩
theorem take_more {α : Type} {l : List α} {i : Nat} {x : α} (h : l[i]? = some x) : l.take (i + 1) = l.take i ++ [x] := by
  rw [List.take_add_one, h, Option.toList_some]
theorem nat_of {z : Int} (h : 0 ≤ z) : ∃ n : Nat, z = (n : Int) := ⟨z.toNat, by omega⟩
/-- within a turn: start, end and new are chosen -/
def RowMid (r l : Addr) (H0 : Hp) (i : Nat) (z now : Str) (n near form : Int) (σ : L2.St) (H : Hp) : Prop := ∃ (st en : Int) (new : Str),
  σ = [some (.ref r), some (.str z), some (.int n), some (.ref l), some (.str now), some (.int near), some (.int (0 + (i : Int))), some (.int form), some (.int st), some (.int en), some (.str new)] ∧
  0 ≤ st ∧ st ≤ en ∧ en ≤ (now.length : Int) ∧ (cs new).length ≤ 2000 ∧ TOk new ∧ RowSt r l H0 i z now H
/-- a list of n edits -/
def spRow : Sp := fun vs H Q _ => ∃ (r : Addr) (z : Str) (n : Int), vs = [.ref r, .str z, .int n] ∧ ReelAt H r ∧ (cs z).length ≤ 2000 ∧ TOk z ∧ 0 ≤ n ∧ n ≤ 1000 ∧
  ∀ l H' us es, H l = none → H' l = some (.lst us) → EdsIn H' us es → (es.length : Int) = n → (∀ e ∈ es, EdBd e) → fitsL (cs z).length es → But r H H' → ReelAt H' r → Q (.ref l) H'
def spRow2 : Sp := fun vs H Q _ => ∃ (r : Addr) (z : Str) (n : Int), vs = [.ref r, .str z, .int n] ∧ ReelAt H r ∧ (cs z).length ≤ 2000 ∧ TOk z ∧ 0 ≤ n ∧ n ≤ 1000 ∧
  ∀ l H' us es, H l = none → H' l = some (.lst us) → EdsIn H' us es → (es.length : Int) = n → (∀ e ∈ es, EdBd e) → fitsL (cs z).length es → sizeL (cs z).length es ≤ 2000 → But r H H' → ReelAt H' r → Q (.ref l) H'
theorem ok_edit_row2 (T : Txt K mg) : FnOk P w K mg base CX0 5 T.a_law_edit_row T.fd_law_edit_row ["reel", "text", "count"] spRow2 := by
  have G_law_draw : FnOk P w K mg base CX0 1 T.a_law_draw T.fd_law_draw ["reel", "size"] spDraw := ok_draw T
  have G_law_pick : FnOk P w K mg base CX0 2 T.a_law_pick T.fd_law_pick ["reel", "row"] (spPick K) := ok_pick T
  have G_law_new : FnOk P w K mg base CX0 4 T.a_law_new T.fd_law_new ["reel"] (spText 300) := ok_new T
  refine T.F_law_edit_row.ok sc_law_edit_row (fun vs H Q E h => ?_) (fun cdv A outer s H vs Q E hr h => ?_)
  · obtain ⟨r, z, n, rfl, _⟩ := h
    rfl
  · have hr_law_draw : Room 1 _ := hr.mono (by decide)
    have hr_law_pick : Room 2 _ := hr.mono (by decide)
    have hr_law_new : Room 4 _ := hr
    obtain ⟨r, z, n, rfl, hr0, hz, hzo, hn0, hn1, q⟩ := h
    refine ⟨_, (pss_cons (ps_set (i := 3) sc_law_edit_row.nd rfl (.inl rfl) (pe_lst pa_nil))
      (pss_cons (ps_set (i := 4) sc_law_edit_row.nd rfl (.inl rfl) (pv 1))
      (pss_cons (ps_set (i := 5) sc_law_edit_row.nd rfl (.inl rfl) pe_int)
      (pss_cons (ps_for PassesOwn.never rfl (pi_range1 (by rfl) T.m_range (pa_cons (pv 2) pa_nil)) (pg_name (i := 6) sc_law_edit_row.nd rfl (.inl rfl)) (pss_cons (ps_set (i := 7) sc_law_edit_row.nd rfl (.inl rfl) (pe_call G_law_draw hr_law_draw (by rfl) T.g_law_draw T.F_law_draw.kp T.b_law_draw .nil pass0 (pa_cons (pv 0) (pa_cons pe_int pa_nil))))
      (pss_cons (ps_set (i := 8) sc_law_edit_row.nd rfl (.inl rfl) (pe_call G_law_draw hr_law_draw (by rfl) T.g_law_draw T.F_law_draw.kp T.b_law_draw .nil pass0 (pa_cons (pv 0) (pa_cons (pe_op op_add (pe_callB call_len_str (by rfl) T.m_len PySem.boot_len (pa_cons (pv 4) pa_nil)) pe_int) pa_nil))))
      (C8.pss_cut (ps_if (pt_cmpR op_lt (pv 7) pe_int (nomark _)) (pss_one (ps_set (i := 8) sc_law_edit_row.nd rfl (.inl rfl) (pe_callB (call_min2 rfl) (by rfl) T.m_min (by decide +kernel) (pa_cons (pe_callB call_len_str (by rfl) T.m_len PySem.boot_len (pa_cons (pv 4) pa_nil)) (pa_cons (pe_callB (call_max2 rfl) (by rfl) T.m_max (by decide +kernel) (pa_cons pe_int (pa_cons (pe_op op_sub (pe_op op_add (pv 5) (pe_call G_law_draw hr_law_draw (by rfl) T.g_law_draw T.F_law_draw.kp T.b_law_draw .nil pass0 (pa_cons (pv 0) (pa_cons pe_int pa_nil)))) pe_int) pa_nil))) pa_nil))))) (pss_one (ps_if (pt_cmpR op_eq (pv 7) pe_int (nomark _)) (pss_one (ps_set (i := 8) sc_law_edit_row.nd rfl (.inl rfl) (pe_callB (call_max2 rfl) (by rfl) T.m_max (by decide +kernel) (pa_cons pe_int (pa_cons (pe_op op_sub (pe_callB call_len_str (by rfl) T.m_len PySem.boot_len (pa_cons (pv 4) pa_nil)) (pe_call G_law_draw hr_law_draw (by rfl) T.g_law_draw T.F_law_draw.kp T.b_law_draw .nil pass0 (pa_cons (pv 0) (pa_cons pe_int pa_nil)))) pa_nil))))) pss_nil)))
      (pss_cons (ps_set (i := 9) sc_law_edit_row.nd rfl (.inl rfl) (pe_callB (call_min2 rfl) (by rfl) T.m_min (by decide +kernel) (pa_cons (pe_callB call_len_str (by rfl) T.m_len PySem.boot_len (pa_cons (pv 4) pa_nil)) (pa_cons (pe_op op_add (pv 8) (pe_call G_law_pick hr_law_pick (by rfl) T.g_law_pick T.F_law_pick.kp T.b_law_pick .nil pass0 (pa_cons (pv 0) (pa_cons (pe_lst (pa_cons pe_int (pa_cons pe_int (pa_cons pe_int (pa_cons pe_int (pa_cons pe_int (pa_cons pe_int (pa_cons pe_int (pa_cons pe_int (pa_cons (pe_op op_fdiv (pe_callB call_len_str (by rfl) T.m_len PySem.boot_len (pa_cons (pv 4) pa_nil)) pe_int) pa_nil)))))))))) pa_nil)))) pa_nil))))
      (pss_cons (ps_set (i := 10) sc_law_edit_row.nd rfl (.inl rfl) (pe_call G_law_new hr_law_new (by rfl) T.g_law_new T.F_law_new.kp T.b_law_new .nil pass0 (pa_cons (pv 0) pa_nil)))
      (C8.pss_cut (ps_if (PW.pt (pw_and (pt_cmpR op_eq (pv 7) pe_int (nomark _)) (pw_and1 (pt_truth (pv 3) (by intro _; rfl))))) (pss_cons (ps_set (i := 8) sc_law_edit_row.nd rfl (.inl rfl) (pe_ix ix_tup (pe_ix ix_list (pv 3) (pe_un un_neg pe_int) (fun _ _ => rfl)) pe_int (fun _ _ => rfl)))
      (pss_cons (ps_set (i := 9) sc_law_edit_row.nd rfl (.inl rfl) (pe_op op_add (pv 8) (pe_callB call_len (by rfl) T.m_len PySem.boot_len (pa_cons (pe_ix ix_tup (pe_ix ix_list (pv 3) (pe_un un_neg pe_int) (fun _ _ => rfl)) pe_int (fun _ _ => rfl)) pa_nil))))
      (pss_one (ps_set (i := 10) sc_law_edit_row.nd rfl (.inl rfl) pe_str)))) (pss_one (ps_if (pt_cmpR op_eq (pv 7) pe_int (nomark _)) (pss_one (ps_set (i := 10) sc_law_edit_row.nd rfl (.inl rfl) (pe_slice sl_str (pv 4) (po_some (pv 8)) (po_some (pv 9))))) (pss_one (ps_if (pt_cmpR op_eq (pv 7) pe_int (nomark _)) (pss_cons (ps_set (i := 8) sc_law_edit_row.nd rfl (.inl rfl) pe_int)
      (pss_one (ps_set (i := 9) sc_law_edit_row.nd rfl (.inl rfl) (pe_call G_law_pick hr_law_pick (by rfl) T.g_law_pick T.F_law_pick.kp T.b_law_pick .nil pass0 (pa_cons (pv 0) (pa_cons (pe_lst (pa_cons pe_int (pa_cons (pe_callB (call_min2 rfl) (by rfl) T.m_min (by decide +kernel) (pa_cons pe_int (pa_cons (pe_callB call_len_str (by rfl) T.m_len PySem.boot_len (pa_cons (pv 4) pa_nil)) pa_nil))) (pa_cons (pe_callB call_len_str (by rfl) T.m_len PySem.boot_len (pa_cons (pv 4) pa_nil)) pa_nil)))) pa_nil)))))) pss_nil)))))
      (C8.pss_cut (ps_if (pt_cmpR op_gt (pe_op op_add (pe_callB call_len_str (by rfl) T.m_len PySem.boot_len (pa_cons (pv 4) pa_nil)) (pe_callB call_len_str (by rfl) T.m_len PySem.boot_len (pa_cons (pv 10) pa_nil))) pe_int (nomark _)) (pss_one (ps_set (i := 10) sc_law_edit_row.nd rfl (.inl rfl) pe_str)) pss_nil)
      (pss_cons (ps_expr (pe_bm PySem.F.plainAttrs_list PySem.F.slot_list_append PySem.F.type_list_append mt_append (pv 3) (pa_cons (pe_tup (pa_cons (pv 8) (pa_cons (pv 9) (pa_cons (pv 10) pa_nil)))) pa_nil)))
      (pss_cons (ps_set (i := 5) sc_law_edit_row.nd rfl (.inl rfl) (pe_op op_add (pv 8) (pe_call G_law_draw hr_law_draw (by rfl) T.g_law_draw T.F_law_draw.kp T.b_law_draw .nil pass0 (pa_cons (pv 0) (pa_cons (pe_op op_add (pe_callB call_len_str (by rfl) T.m_len PySem.boot_len (pa_cons (pv 10) pa_nil)) pe_int) pa_nil)))))
      (pss_one (ps_set (i := 4) sc_law_edit_row.nd rfl (.inl rfl) (pe_op op_add_str (pe_op op_add_str (pe_slice sl_str (pv 4) po_none (po_some (pv 8))) (pv 10)) (pe_slice sl_str (pv 4) (po_some (pv 9)) po_none))))))))))))))
      (pss_one (ps_ret (pv 3))))))), ?_⟩
    refine ⟨Nat.zero_le _, fun l nl => ?_⟩
    refine ⟨_, rfl, ?_⟩
    refine ⟨_, rfl, n, rfl, by omega, by omega, ?_⟩
    refine for_range (lo := 0) (n := n.toNat) (fun i σ H' => ∃ (now : Str) (near : Int) (y6 y7 y8 y9 y10 : Option V), σ = [some (.ref r), some (.str z), some (.int n), some (.ref l), some (.str now), some (.int near), y6, y7, y8, y9, y10] ∧ RowSt r l H i z now H')
      ⟨z, 0, none, none, none, none, none, rfl, ⟨[], [], upd_same, .nil, rfl, (fun e he => absurd he List.not_mem_nil), True.intro, rfl⟩, (hr0.ne nl).symm, But.new nl, hr0.new nl, hz, hzo⟩ ?_ ?_
    · rintro i σ H1 hi ⟨now, near, y6, y7, y8, y9, y10, rfl, S1⟩
      have hlen := S1.len
      have eln := len_cs now
      -- form, start
      refine ⟨_, rfl, r, _, rfl, S1.reel, by decide, fun form H2 f0 f1 hb2 hR2 => ?_⟩
      have S2 := S1.mono hb2 hR2
      refine ⟨_, rfl, _, rfl, _, rfl, sz1 (by omega), _, 1, rfl, rfl, r, _, rfl, hR2, by omega, fun st H3 st0 st1 hb3 hR3 => ?_⟩
      have S3 := S2.mono hb3 hR3
      -- if form < 4 ..
      refine ⟨fun σ H' => ∃ st : Int, σ = [some (.ref r), some (.str z), some (.int n), some (.ref l), some (.str now), some (.int near), some (.int (0 + (i : Int))), some (.int form), some (.int st), y9, y10] ∧ 0 ≤ st ∧ st ≤ (now.length : Int) ∧ RowSt r l H i z now H', ?_, ?_⟩
      · refine ⟨_, rfl, form, 4, rfl, rfl, _, rfl, ite2 (fun e => ?_) (fun e => ?_)⟩
        · refine ⟨_, rfl, _, rfl, sz1 (by omega), _, rfl, _, rfl, r, _, rfl, hR3, by decide, fun d H4 d0 d1 hb4 hR4 => ?_⟩
          refine ⟨near, d, rfl, rfl, _, 2, rfl, rfl, 0, _, rfl, _, _, rfl, ⟨_, rfl, ?_, ?_, S3.mono hb4 hR4⟩⟩
          · split <;> split <;> omega
          · split <;> split <;> omega
        · refine ⟨_, rfl, rfl, _, rfl, ite2 (fun e => ?_) (fun e => ?_)⟩
          · refine ⟨_, rfl, _, rfl, sz1 (by omega), _, rfl, r, _, rfl, hR3, by decide, fun d H4 d0 d1 hb4 hR4 => ?_⟩
            refine ⟨_, d, rfl, rfl, 0, _, rfl, ⟨_, rfl, ?_, ?_, S3.mono hb4 hR4⟩⟩
            · split <;> omega
            · split <;> omega
          · exact ⟨st, rfl, st0, by omega, S3⟩
      · rintro σ H4 ⟨st, rfl, st0, st1, S4⟩
        -- end
        refine ⟨_, rfl, _, rfl, sz1 (by omega), _, rfl, _, rfl, _, rfl, _, rfl, sz1 (by omega), _, 3, rfl, rfl, ⟨by decide, by decide⟩, by show 9 ≤ sizeLine; decide, fun p np => ?_⟩
        refine ⟨r, _, rfl, S4.reel.new np, .inr ⟨p, _, rfl, (S4.reel.ne np).symm, SqL.of upd_same, by show 0 < 9; decide, fun v H5 hv hb5 hR5 => ?_⟩⟩
        have S5 := (S4.new np (o := _)).mono hb5 hR5
        obtain ⟨k, hk, rfl⟩ := mem_ints (l := [0, 0, 0, 1, 1, 2, 5, 30, ((now.length : Int)) / 3]) hv
        have k0 : 0 ≤ k := by
          have : ∀ x ∈ [0, 0, 0, 1, 1, 2, 5, 30, ((now.length : Int)) / 3], (0 : Int) ≤ x := by
            intro x hx
            simp only [List.mem_cons, List.not_mem_nil, or_false] at hx
            omega
          exact this k hk
        refine ⟨st, k, rfl, rfl, _, _, rfl, ?_⟩
        -- new
        refine ⟨_, rfl, r, rfl, hR5, fun new H6 hnew hno hb6 hR6 => ?_⟩
        have S6 := S5.mono hb6 hR6
        -- if form == 5 and edits ..
        refine ⟨RowMid r l H i z now n near form, ?_, ?_⟩
        · obtain ⟨⟨us, es, u1, u2, u3, u4, u5, u6⟩, _⟩ := id S6
          have elif6 : RowMid r l H i z now n near form [some (.ref r), some (.str z), some (.int n), some (.ref l), some (.str now), some (.int near), some (.int (0 + (i : Int))), some (.int form), some (.int st), some (.int (if st + k < (now.length : Int) then st + k else (now.length : Int))), some (.str new)] H6 :=
            ⟨_, _, _, rfl, st0, by split <;> omega, by split <;> omega, by omega, hno, S6⟩
          refine ⟨_, rfl, rfl, _, rfl, ite2 (fun e => ?_) (fun e => ?_)⟩
          · refine ⟨_, rfl, !us.isEmpty, .inl ⟨us, SqL.of u1, rfl⟩, ite2 (fun e2 => ?_) (fun e2 => ?_)⟩
            · -- start = edits[-1][0] ..
              have hne : us ≠ [] := fun z => by
                rw [z] at e2
                cases e2
              obtain ⟨us0, ul, rfl⟩ : ∃ a b, us = a ++ [b] := ⟨us.dropLast, us.getLast hne, (List.dropLast_concat_getLast hne).symm⟩
              have hle := paired_len u2
              rw [List.length_append] at hle
              obtain ⟨el, hel⟩ : ∃ e, es[us0.length]? = some e := ⟨_, List.getElem?_eq_getElem (by simp only [List.length_singleton] at hle; omega)⟩
              obtain ⟨u', h1, t, rfl, ht⟩ := paired_get u2 hel
              have h2 : (us0 ++ [ul])[us0.length]? = some ul := by simp
              rw [h2] at h1
              have h3 := Option.some.inj h1
              subst h3
              have hb := u4 el (List.mem_of_getElem? hel)
              refine ⟨_, rfl, 1, rfl, l, _, _, _, rfl, rfl, SqL.of u1, atI_last _ _, t, _, 0, .int el.1, rfl, rfl, SqT.of ht, atI_nat (j := 0) rfl, ?_⟩
              refine ⟨_, rfl, _, rfl, 1, rfl, l, _, _, _, rfl, rfl, SqL.of u1, atI_last _ _, t, _, 2, .str el.2.2, rfl, rfl, SqT.of ht, atI_nat (j := 2) rfl, ?_⟩
              refine ⟨_, _, rfl, ⟨sz1 (by rw [len_cs]; exact Nat.le_trans hb.2.2.1 (by decide)), rfl⟩, el.1, _, rfl, rfl, ?_⟩
              have hes : es = es.take us0.length ++ [el] := by
                have hl2 : es.length = us0.length + 1 := by simp only [List.length_singleton] at hle; omega
                have h1 := take_more hel
                rw [List.take_of_length_le (by omega)] at h1
                exact h1
              rw [hes] at u5 u6
              obtain ⟨v1, v2⟩ := (fitsL_snoc _ _ _).mp u5
              rw [← appl_len v1] at v2
              rw [appl_snoc] at u6
              have v3 := spl1_len v2
              rw [u6] at v3
              obtain ⟨w1, w2, w3⟩ := v2
              have v4 : size1 (appl (cs z) (es.take us0.length)).length el = (appl (cs z) (es.take us0.length)).length - (el.2.1.toNat - el.1.toNat) + (cs el.2.2).length := rfl
              have v5 := len_cs el.2.2
              exact ⟨_, _, _, rfl, hb.1, by omega, by omega, by show 0 ≤ 2000; decide, tok_of (by decide +kernel), S6⟩
            · refine ⟨_, rfl, rfl, _, rfl, ite2 (fun e => ?_) (fun e => ?_)⟩
              · exfalso
                have h1 := of_decide_eq_true e
                have h2 : form = 6 := V.int.inj h1
                rename_i e0
                have h3 := of_decide_eq_true e0
                have h4 : form = 5 := V.int.inj h3
                omega
              · refine ⟨_, rfl, rfl, _, rfl, ite2 (fun e => ?_) (fun e => elif6)⟩
                exfalso
                rename_i e0 _
                have h1 : form = 7 := V.int.inj (of_decide_eq_true e)
                have h4 : form = 5 := V.int.inj (of_decide_eq_true e0)
                omega
          · refine iteF ?_
            refine ⟨_, rfl, rfl, _, rfl, ite2 (fun e => ?_) (fun e => ?_)⟩
            · refine ⟨_, rfl, _, rfl, _, rfl, _, rfl, _, rfl, now, rfl, sz1 (by omega), ?_⟩
              exact ⟨_, _, _, rfl, st0, by split <;> omega, by split <;> omega, Nat.le_trans (cut_len _ _ _) hlen, cut_tok S6.tok _ _, S6⟩
            · refine ⟨_, rfl, rfl, _, rfl, ite2 (fun e => ?_) (fun e => elif6)⟩
              refine ⟨_, rfl, _, rfl, _, rfl, sz1 (by omega), 1, _, rfl, _, rfl, _, rfl, sz1 (by omega), by show 3 ≤ sizeLine; decide, fun p np => ?_⟩
              refine ⟨r, _, rfl, S6.reel.new np, .inr ⟨p, _, rfl, (S6.reel.ne np).symm, SqL.of upd_same, by show 0 < 3; decide, fun v H7 hv hb7 hR7 => ?_⟩⟩
              obtain ⟨k, hk, rfl⟩ := mem_ints (l := [0, (if ((now.length : Int)) < 1 then ((now.length : Int)) else 1), ((now.length : Int))]) hv
              have k0 : 0 ≤ k ∧ k ≤ (now.length : Int) := by
                simp only [List.mem_cons, List.not_mem_nil, or_false] at hk
                rcases hk with rfl | rfl | rfl
                · omega
                · split <;> omega
                · omega
              exact ⟨_, _, _, rfl, by decide, k0.1, k0.2, by omega, hno, (S6.new np (o := _)).mono hb7 hR7⟩
        · rintro σ H7 ⟨st, en, new, rfl, s0, s1, s2, hnew, hno, S7⟩
          have enw := len_cs new
          -- if len(now) + len(new) > 1990
          refine ⟨fun σ H' => ∃ (new : Str), σ = [some (.ref r), some (.str z), some (.int n), some (.ref l), some (.str now), some (.int near), some (.int (0 + (i : Int))), some (.int form), some (.int st), some (.int en), some (.str new)] ∧ (cs now).length + (cs new).length ≤ 2000 ∧ (cs new).length ≤ 2000 ∧ TOk new ∧ RowSt r l H i z now H', ?_, ?_⟩
          · refine ⟨_, rfl, _, rfl, sz1 (by omega), _, rfl, _, rfl, sz1 (by omega), _, _, rfl, rfl, _, _, rfl, rfl, _, rfl, ite2 (fun e => ?_) (fun e => ?_)⟩
            · exact ⟨_, rfl, by show _ + 0 ≤ _; omega, by show 0 ≤ 2000; decide, tok_of (by decide +kernel), S7⟩
            · have h1 : ¬ (1990 : Int) < (now.length : Int) + (new.length : Int) := fun h => e (decide_eq_true h)
              exact ⟨_, rfl, by omega, hnew, hno, S7⟩
          · rintro σ H8 ⟨new, rfl, hn2, hn3, hno, S8⟩
            have enw := len_cs new
            obtain ⟨⟨us, es, u1, u2, u3, u4, u5, u6⟩, hne, hbt, hR8, _, htok⟩ := S8
            have ul := paired_len u2
            -- edits.append((start, end, new))
            refine ⟨.ref l, rfl, .inl ⟨rfl, _, SqL.of u1⟩, _, rfl, _, rfl, _, rfl, by show 3 ≤ sizeLine; decide, fun t nt => ?_⟩
            have lt : l ≠ t := ne_of_none u1 nt
            have u1' : (upd H8 t (.tup [.int st, .int en, .str new])) l = some (.lst us) := by rw [upd_ne lt]; exact u1
            refine ⟨l, us, .ref t, rfl, rfl, u1', sz2 (by omega), ?_⟩
            have tp : Tups H8 (upd (upd H8 t (.tup [.int st, .int en, .str new])) l (.lst (us ++ [.ref t]))) := (Tups.new nt).trans (Tups.mut u1')
            have hfit : fit1 (appl (cs z) es).length (st, en, new) := by
              rw [u6]
              exact ⟨s0, s1, by show en ≤ ((cs now).length : Int); omega⟩
            have S9 : (∃ vs es, (upd (upd H8 t (.tup [.int st, .int en, .str new])) l (.lst (us ++ [.ref t]))) l = some (.lst vs) ∧ EdsIn (upd (upd H8 t (.tup [.int st, .int en, .str new])) l (.lst (us ++ [.ref t]))) vs es ∧ es.length = i + 1 ∧ (∀ e ∈ es, EdBd e) ∧ fitsL (cs z).length es ∧ appl (cs z) es = spl1 (cs now) (st, en, new)) ∧ But r H (upd (upd H8 t (.tup [.int st, .int en, .str new])) l (.lst (us ++ [.ref t]))) ∧ ReelAt (upd (upd H8 t (.tup [.int st, .int en, .str new])) l (.lst (us ++ [.ref t]))) r := by
              refine ⟨⟨us ++ [.ref t], es ++ [(st, en, new)], upd_same, paired_app (u2.mono tp) (.cons ⟨t, rfl, ?_⟩ .nil), ?_, ?_, ?_, ?_⟩, ?_, ?_⟩
              · rw [upd_ne lt.symm, upd_same]
              · rw [List.length_append, u3]
                rfl
              · intro e he
                rcases List.mem_append.mp he with he | he
                · exact u4 e he
                · rw [List.mem_singleton.mp he]
                  exact ⟨s0, s1, hn3, hno⟩
              · rw [appl_len u5] at hfit
                exact (fitsL_snoc _ _ _).mpr ⟨u5, hfit⟩
              · rw [appl_snoc, u6]
              · exact fun b o nb e => by
                  have e8 := hbt b o nb e
                  rw [upd_ne (ne_of_none e nl), upd_ne (ne_of_none e8 nt)]
                  exact e8
              · obtain ⟨z1, c1, e1, e2⟩ := hR8
                exact ⟨z1, c1, by rw [upd_ne hne.symm, upd_ne (ne_of_none e1 nt)]; exact e1, e2⟩
            obtain ⟨⟨vs9, es9, q1, q2, q3, q4, q5, q6⟩, b9, r9⟩ := S9
            -- near
            refine ⟨_, rfl, _, rfl, _, rfl, _, rfl, sz1 (by omega), _, 1, rfl, rfl, r, _, rfl, r9, by omega, fun d H10 d0 d1 hb10 hR10 => ?_⟩
            refine ⟨st, d, rfl, rfl, ?_⟩
            -- now
            refine ⟨_, rfl, _, rfl, _, rfl, now, rfl, sz1 (by omega), _, rfl, _, _, rfl, rfl, ?_, _, rfl, _, rfl, _, rfl, now, rfl, sz1 (by omega), _, _, rfl, rfl, ?_, ?_⟩
            · have h1 := cutS_length now none (some st)
              exact sz1 (by omega)
            · have h1 := cutS_length now none (some st)
              have h2 := cutS_length now (some en) none
              have h3 : (cutS now none (some st) ++ new).length = (cutS now none (some st)).length + new.length := by
                rw [len_cs, len_cs, len_cs, cs_app, List.length_append]
              exact sz1 (by omega)
            · obtain ⟨a, rfl⟩ := nat_of s0
              obtain ⟨b, rfl⟩ := nat_of (show 0 ≤ en by omega)
              refine ⟨_, _, _, _, _, _, _, rfl, ⟨vs9, es9, hb10 l _ hne q1, q2.mono (hb10.tups r9), q3, q4, q5, ?_⟩, hne, b9.trans hb10, hR10, ?_, ?_⟩
              · rw [q6, cs_splice]
                rfl
              · rw [cs_splice]
                exact Nat.le_trans (spliceL_len (by omega)) hn2
              · intro c hc
                rw [cs_splice] at hc
                exact spl_tok htok hno c hc
    · rintro σ H1 ⟨now, near, y6, y7, y8, y9, y10, rfl, S1⟩
      obtain ⟨⟨vs, es, e1, e2, e3, e4, e5, e6⟩, n1, b0, r0, ln, tk⟩ := S1
      exact ⟨_, rfl, q l H1 vs es nl e1 e2 (by omega) e4 e5 (by rw [← appl_len e5, e6]; exact ln) b0 r0⟩
theorem ok_edit_row (T : Txt K mg) : FnOk P w K mg base CX0 5 T.a_law_edit_row T.fd_law_edit_row ["reel", "text", "count"] spRow :=
  (ok_edit_row2 T).imp fun _ _ _ _ ⟨r, z, n, e, h1, h2, h3, h4, h5, q⟩ => ⟨r, z, n, e, h1, h2, h3, h4, h5, fun l H' us es k1 k2 k3 k4 k5 k6 _ k7 k8 => q l H' us es k1 k2 k3 k4 k5 k6 k7 k8⟩

/-! ### planted edits -/
theorem cutV_pre (xs : List V) (a : Nat) : cutV xs none (some (a : Int)) = xs.take a := by
  unfold cutV
  rw [HT.sIx_nat, HT.sIx_none, List.drop_zero, Nat.sub_zero, ← List.take_eq_take_min]
theorem cutV_suf (xs : List V) (a : Nat) : cutV xs (some (a : Int)) none = xs.drop a := by
  unfold cutV
  rw [HT.sIx_nat, HT.sIx_none, List.take_of_length_le (by rw [List.length_drop]; exact Nat.le_refl _)]
  by_cases h : a ≤ xs.length
  · rw [Nat.min_eq_left h]
  · rw [Nat.min_eq_right (by omega), List.drop_eq_nil_of_le (Nat.le_refl _), List.drop_eq_nil_of_le (by omega)]
theorem fitsL_get : ∀ {n i : Nat} {es : List Ed} {e : Ed}, fitsL n es → es[i]? = some e → fit1 (sizeL n (es.take i)) e
  | _, _, [], _, _, h => by simp at h
  | n, 0, x :: r, e, h, g => by
    have q := Option.some.inj g
    subst q
    exact h.1
  | n, i + 1, x :: r, e, h, g => fitsL_get (n := size1 n x) (i := i) (es := r) h.2 (by simpa using g)
/-- edits with texts of at most 2000 signs -/
def Short (es : List Ed) : Prop := ∀ e ∈ es, e.len ≤ 2000 ∧ TOk e.2.2

/-! ### splicing, the way back, equal edits -/
def Lim (t : List Nat) (es : List Ed) : Prop := ∀ k, (appl t (es.take k)).length ≤ 4000000
def EdsAt (H : Hp) (l : Addr) (es : List Ed) : Prop := ∃ us, H l = some (.lst us) ∧ EdsIn H us es
theorem EdsAt.mono {H H' : Hp} {l : Addr} {es : List Ed} (h : EdsAt H l es) (s : Same H H') : EdsAt H' l es := by
  obtain ⟨us, h1, h2⟩ := h
  exact ⟨us, s _ _ h1, h2.mono fun b xs e => s b _ e⟩
theorem szM {n : Nat} (h : n ≤ 4000000) : n ≤ sizeLine := Nat.le_trans h (by decide)
theorem str_eq (x : Str) : (⟨(cs x).toArray⟩ : Str) = x := cs_inj rfl
theorem mkS_eq {x : Str} {l : List Nat} (h : cs x = l) : x = ⟨l.toArray⟩ := cs_inj h
/-- an edit that fits has places -/
theorem fit_nat {n : Nat} {e : Ed} (h : fit1 n e) : ∃ a b : Nat, e = ((a : Int), (b : Int), e.2.2) ∧ a ≤ b ∧ b ≤ n := by
  obtain ⟨x, y, s⟩ := e
  obtain ⟨h1, h2, h3⟩ := h
  simp only at h1 h2 h3
  obtain ⟨a, rfl⟩ := nat_of h1
  obtain ⟨b, rfl⟩ := nat_of (show 0 ≤ y by omega)
  exact ⟨a, b, rfl, by omega, by omega⟩
def spSplice : Sp := fun vs H Q _ => ∃ (z : Str) (l : Addr) (es : List Ed), vs = [.str z, .ref l] ∧ EdsAt H l es ∧ fitsL (cs z).length es ∧ Lim (cs z) es ∧ Q (.str ⟨(appl (cs z) es).toArray⟩) H
theorem cut_pre_len (z : Str) (a : Nat) : (cutS z none (some (a : Int))).length ≤ a := by
  rw [len_cs, cut_pre, List.length_take]
  exact Nat.min_le_left _ _
theorem spl_pre (t : List Nat) (a b : Nat) (s : List Nat) : (t.take a).length + s.length ≤ (spliceL t a b s).length := by
  unfold spliceL
  rw [List.length_append, List.length_append]
  omega
theorem ok_splice (T : Txt K mg) : FnOk P w K mg base CX0 1 T.a_law_splice T.fd_law_splice ["text", "edits"] spSplice := by
  refine T.F_law_splice.ok sc_law_splice (fun vs H Q E h => ?_) (fun cdv A outer s H vs Q E hr h => ?_)
  · obtain ⟨z, l, es, rfl, _⟩ := h
    rfl
  · obtain ⟨z, l, es, rfl, ⟨us, hl, hes⟩, hfit, hlim, q⟩ := h
    have hle := paired_len hes
    refine ⟨_, (pss_cons (ps_set (i := 2) sc_law_splice.nd rfl (.inl rfl) (pv 0))
      (pss_cons (ps_for PassesOwn.never rfl (pi_list (pv 1)) (pg_name (i := 3) sc_law_splice.nd rfl (.inl rfl)) (pss_one (ps_set (i := 2) sc_law_splice.nd rfl (.inl rfl) (pe_op op_add_str (pe_op op_add_str (pe_slice sl_str (pv 2) po_none (po_some (pe_ix ix_tup (pv 3) pe_int (fun _ _ => rfl)))) (pe_ix ix_tup (pv 3) pe_int (fun _ _ => rfl))) (pe_slice sl_str (pv 2) (po_some (pe_ix ix_tup (pv 3) pe_int (fun _ _ => rfl))) po_none)))))
      (pss_one (ps_ret (pv 2))))), ?_⟩
    refine ⟨_, rfl, ?_⟩
    refine ⟨_, rfl, l, rfl, ⟨_, SqL.of hl⟩, ?_⟩
    refine for_list (K := K) (a := l) (xs := us) (fun i σ H' => H' = H ∧ ∃ (now : Str) (y3 : Option V), σ = [some (.str z), some (.ref l), some (.str now), y3] ∧ cs now = appl (cs z) (es.take i))
      ⟨rfl, z, none, rfl, rfl⟩ (fun i σ H' _ ⟨e, _⟩ => by rw [e]; exact SqL.of hl) ?_ ?_
    · rintro i x σ H1 hx ⟨rfl, now, y3, rfl, hnow⟩
      obtain ⟨e, he⟩ : ∃ e, es[i]? = some e := ⟨_, List.getElem?_eq_getElem (by rw [← hle]; exact (List.getElem?_eq_some_iff.mp hx).1)⟩
      obtain ⟨x', hx', t, rfl, ht⟩ := paired_get hes he
      rw [hx] at hx'
      have h1 := Option.some.inj hx'
      subst h1
      have hf := fitsL_get hfit he
      rw [← appl_len (fitsL_take i hfit), ← hnow] at hf
      obtain ⟨a, b, hab, h2, h3⟩ := fit_nat hf
      have lim1 := hlim (i + 1)
      rw [take_more he, appl_snoc, ← hnow] at lim1
      rw [hab] at ht lim1
      have lim2 : (spliceL (cs now) a b (cs e.2.2)).length ≤ 4000000 := lim1
      have lim0 := hlim i
      rw [← hnow] at lim0
      have sp := spl_pre (cs now) a b (cs e.2.2)
      have l1 : (cutS now none (some (a : Int))).length = ((cs now).take a).length := by rw [len_cs, cut_pre]
      refine ⟨_, rfl, _, rfl, t, _, 0, .int (a : Int), rfl, rfl, SqT.of ht, atI_nat (j := 0) rfl, _, rfl, now, rfl, szM (by rw [len_cs]; exact lim0), ?_⟩
      refine ⟨_, rfl, t, _, 2, .str e.2.2, rfl, rfl, SqT.of ht, atI_nat (j := 2) rfl, _, _, rfl, rfl, szM (by rw [l1, len_cs]; omega), ?_⟩
      refine ⟨_, rfl, _, rfl, t, _, 1, .int (b : Int), rfl, rfl, SqT.of ht, atI_nat (j := 1) rfl, _, rfl, now, rfl, szM (by rw [len_cs]; exact lim0), ?_⟩
      refine ⟨_, _, rfl, rfl, ?_, rfl, _, _, rfl, ?_⟩
      · have h9 : (cutS now none (some (a : Int)) ++ e.2.2 ++ cutS now (some (b : Int)) none).length = (cutS now none (some (a : Int)) ++ e.2.2).length + (cutS now (some (b : Int)) none).length := by
          rw [len_cs, len_cs, len_cs, cs_app, List.length_append]
        rw [← h9, len_cs, cs_splice]
        exact szM lim2
      · rw [cs_splice, take_more he, appl_snoc, ← hnow]
        rw [hab]
        rfl
    · rintro σ H1 ⟨rfl, now, y3, rfl, hnow⟩
      rw [hle, List.take_length] at hnow
      refine ⟨_, rfl, ?_⟩
      rw [mkS_eq hnow]
      exact q

def edD (e : Ed) : PyData := .tuple [.int e.1, .int e.2.1, .str e.2.2]
theorem edD_lay {e : Ed} (h : TOk e.2.2) : (edD e).canLay0 = true := by
  have h1 : PyData.strOk e.2.2 = true := by
    unfold PyData.strOk
    rw [← Array.all_toList]
    exact List.all_eq_true.mpr fun c hc => decide_eq_true (h c hc)
  unfold edD
  simp [PyData.canLay0, PyData.canLayAll0, h1]
theorem edD_depth (e : Ed) : (edD e).depth ≤ 3 := by
  unfold edD
  simp [PyData.depth, PyData.depthAll]
theorem edD_shaped {e : Ed} (h : TOk e.2.2) : SeqAt.shaped (edD e) = true := by
  unfold SeqAt.shaped
  rw [edD_lay h]
  have := edD_depth e
  simp only [Bool.true_and, decide_eq_true_eq]
  omega
theorem EdAt.dp {H : Hp} {v : V} {e : Ed} (h : EdAt H v e) : Dp K H v (edD e) := by
  obtain ⟨t, rfl, ht⟩ := h
  exact .tup (SqT.of ht) (.cons (.int _) (.cons (.int _) (.cons (.str _) .nil)))

def spSame : Sp := fun vs H Q _ => ∃ (v1 v2 : V) (e : Ed), vs = [v1, v2] ∧ EdAt H v1 e ∧ EdAt H v2 e ∧ TOk e.2.2 ∧ Q (.bl true) H
theorem ok_same (T : Txt K mg) : FnOk P w K mg base CX0 2 T.a_law_same_edit T.fd_law_same_edit ["told", "due"] spSame := by
  have G_law_number : FnOk P w K mg base CX0 1 T.a_law_number T.fd_law_number ["value"] spNumber := ok_number T
  refine T.F_law_same_edit.ok sc_law_same_edit (fun vs H Q E h => ?_) (fun cdv A outer s H vs Q E hr h => ?_)
  · obtain ⟨v1, v2, e, rfl, _⟩ := h
    rfl
  · have hr_law_number : Room 1 _ := hr
    obtain ⟨v1, v2, e, rfl, h1, h2, ho, q⟩ := h
    obtain ⟨t, rfl, ht⟩ := id h1
    refine ⟨_, (pss_cons (ps_if (PW.pt (pw_or (pt_not (pt_val (pe_callB call_isi (by rfl) T.m_isinstance (by decide +kernel) (pa_cons (pv 0) (pa_cons (pe_bltn (v := .ty "tuple") (by rfl) T.m_tuple (by decide +kernel) rfl) pa_nil))))) (pw_or1 (pt_cmpR op_ne (pe_callB call_len_seq (by rfl) T.m_len PySem.boot_len (pa_cons (pv 0) pa_nil)) pe_int (nomark _))))) (pss_one (ps_ret pe_bl)) pss_nil)
      (pss_cons (ps_if (PW.pt (pw_or (pt_not (pt_val (pe_call G_law_number hr_law_number (by rfl) T.g_law_number T.F_law_number.kp T.b_law_number .nil pass0 (pa_cons (pe_ix ix_tup (pv 0) pe_int (fun _ _ => rfl)) pa_nil)))) (pw_or (pt_not (pt_val (pe_call G_law_number hr_law_number (by rfl) T.g_law_number T.F_law_number.kp T.b_law_number .nil pass0 (pa_cons (pe_ix ix_tup (pv 0) pe_int (fun _ _ => rfl)) pa_nil)))) (pw_or1 (pt_not (pt_val (pe_callB call_isi (by rfl) T.m_isinstance (by decide +kernel) (pa_cons (pe_ix ix_tup (pv 0) pe_int (fun _ _ => rfl)) (pa_cons (pe_bltn (v := .ty "str") (by rfl) T.m_str (by decide +kernel) rfl) pa_nil))))))))) (pss_one (ps_ret pe_bl)) pss_nil)
      (pss_one (ps_ret (pe_cmpR (op_eqD hr.units) (pv 0) (pv 1) (nomark _)))))), ?_⟩
    refine ⟨_, rfl, _, _, _, _, true, rfl, .ty _, .base (.tup ht), kit_ty (by decide +kernel), true, rfl, iteF ?_⟩
    refine ⟨_, rfl, t, _, rfl, .inr (SqT.of ht), rfl, _, rfl, iteF ?_⟩
    refine ⟨_, rfl, t, _, 0, .int e.1, rfl, rfl, SqT.of ht, atI_nat (j := 0) rfl, e.1, rfl, true, rfl, iteF ?_⟩
    refine ⟨_, rfl, t, _, 1, .int e.2.1, rfl, rfl, SqT.of ht, atI_nat (j := 1) rfl, e.2.1, rfl, true, rfl, iteF ?_⟩
    refine ⟨_, rfl, t, _, 2, .str e.2.2, rfl, rfl, SqT.of ht, atI_nat (j := 2) rfl, _, _, _, _, true, rfl, .ty _, .base (.str _), kit_ty (by decide +kernel), true, rfl, iteF ?_⟩
    refine ⟨_, rfl, _, rfl, edD e, edD e, h1.dp, h2.dp, edD_shaped ho, edD_shaped ho, ?_⟩
    rw [SeqAt.eqv_refl _ (edD_lay ho)]
    exact q

/-! ### what the program promises of edits -/
def Lim2 (t : List Nat) (es : List Ed) : Prop := ∀ k, fitsL t.length (es.take k) → (appl t (es.take k)).length ≤ 4000000
theorem Lim2.lim {t : List Nat} {es : List Ed} (h : Lim2 t es) (f : fitsL t.length es) : Lim t es := fun k => h k (fitsL_take k f)
theorem Lim2.take {t : List Nat} {es : List Ed} (h : Lim2 t es) (j : Nat) : Lim2 t (es.take j) := fun k f => by
  rw [List.take_take] at f ⊢
  exact h _ f
def Sized (es : List Ed) : Prop := ∀ e ∈ es, e.len ≤ 4000000 ∧ TOk e.2.2
theorem Short.sized {es : List Ed} (h : Short es) : Sized es := fun e he => ⟨Nat.le_trans (h e he).1 (by decide), (h e he).2⟩
/-- an EditError with its index -/
def ErrAt (C : Addr) (H : Hp) (E : XK) (k : Nat) : Prop := ∀ d H', Same H H' → H d = none → H' d = some (.xd [(("index" : Str), .int (k : Int))]) → E (.ref C) (some d) H'
def spApply (C : Addr) : Sp := fun vs H Q E => ∃ (z : Str) (l : Addr) (es : List Ed), vs = [.str z, .ref l] ∧ EdsAt H l es ∧ Sized es ∧ es.length ≤ 2000 ∧ (cs z).length ≤ 4000000 ∧ TOk z ∧ Lim2 (cs z) es ∧
  (fitsL (cs z).length es → ∀ H', Same H H' → Q (.str ⟨(appl (cs z) es).toArray⟩) H') ∧ (∀ k, unfit (cs z).length es = some k → ErrAt C H E k)
def spInverse (C : Addr) : Sp := fun vs H Q E => ∃ (z : Str) (l : Addr) (es : List Ed), vs = [.str z, .ref l] ∧ EdsAt H l es ∧ Sized es ∧ es.length ≤ 2000 ∧ (cs z).length ≤ 4000000 ∧ TOk z ∧ Lim2 (cs z) es ∧
  (fitsL (cs z).length es → ∀ l' H', Same H H' → H l' = none → EdsAt H' l' (backL (cs z) es) → Q (.ref l') H') ∧ (∀ k, unfit (cs z).length es = some k → ErrAt C H E k)
theorem short_lim : ∀ {es : List Ed} {t : List Nat}, Short es → fitsL t.length es → (appl t es).length ≤ t.length + es.length * 2000
  | [], t, _, _ => Nat.le_add_right _ _
  | e :: r, t, h, f => by
    obtain ⟨f1, f2⟩ := f
    have e1 := spl1_len f1
    rw [← e1] at f2
    have ih := short_lim (es := r) (t := spl1 t e) (fun x hx => h x (List.mem_cons_of_mem _ hx)) f2
    have h1 := (h e List.mem_cons_self).1
    have s1 : size1 t.length e ≤ t.length + e.len := by
      unfold size1
      omega
    show (appl (spl1 t e) r).length ≤ t.length + (r.length + 1) * 2000
    rw [e1] at ih
    omega
theorem short_lim2 {es : List Ed} {t : List Nat} (h : Short es) (ht : t.length ≤ 2000) (hn : es.length ≤ 1500) : Lim2 t es := fun k f => by
  have h1 := short_lim (es := es.take k) (t := t) (fun x hx => h x (List.mem_of_mem_take hx)) f
  have h2 : (es.take k).length ≤ es.length := by rw [List.length_take]; exact Nat.min_le_right _ _
  omega
theorem EdsAt.cut {H : Hp} {l p : Addr} {es : List Ed} (h : EdsAt H l es) (np : H p = none) (k : Nat) : ∃ us, H l = some (.lst us) ∧ EdsAt (upd H p (.lst (cutV us none (some (k : Int))))) p (es.take k) := by
  obtain ⟨us, h1, h2⟩ := h
  refine ⟨us, h1, us.take k, ?_, paired_take k (h2.mono (Tups.new np))⟩
  rw [cutV_pre, upd_same]

theorem edDs_lay : ∀ {es : List Ed}, (∀ e ∈ es, TOk e.2.2) → PyData.canLayAll0 (es.map edD) = true
  | [], _ => rfl
  | e :: r, h => by
    rw [List.map_cons]
    simp only [PyData.canLayAll0]
    rw [edD_lay (h e List.mem_cons_self), edDs_lay fun x hx => h x (List.mem_cons_of_mem _ hx)]
    rfl
theorem edDs_depth : ∀ es : List Ed, PyData.depthAll (es.map edD) ≤ 3
  | [] => by simp [PyData.depthAll]
  | e :: r => by
    have h1 := edD_depth e
    have h2 := edDs_depth r
    rw [List.map_cons]
    simp only [PyData.depthAll]
    omega
theorem edL_lay {es : List Ed} (h : ∀ e ∈ es, TOk e.2.2) : (PyData.list (es.map edD)).canLay0 = true := by
  simp only [PyData.canLay0]
  exact edDs_lay h
theorem edL_shaped {es : List Ed} (h : ∀ e ∈ es, TOk e.2.2) : SeqAt.shaped (.list (es.map edD)) = true := by
  unfold SeqAt.shaped
  rw [edL_lay h]
  have := edDs_depth es
  have d : (PyData.list (es.map edD)).depth = PyData.depthAll (es.map edD) + 1 := by simp only [PyData.depth]
  rw [d, Bool.true_and, decide_eq_true_eq]
  omega
theorem eds_dp {H : Hp} : ∀ {vs : List V} {es : List Ed}, EdsIn H vs es → DpAll K H vs (es.map edD)
  | _, _, .nil => .nil
  | _, _, .cons r t => .cons r.dp (eds_dp t)
theorem EdsAt.dp {H : Hp} {l : Addr} {es : List Ed} (h : EdsAt H l es) : Dp K H (.ref l) (.list (es.map edD)) := by
  obtain ⟨us, h1, h2⟩ := h
  exact .lst (SqL.of h1) (eds_dp h2)
theorem EdsAt.out {H : Hp} {l p : Addr} {es : List Ed} {o : HO} (h : EdsAt H l es) (n : l ≠ p) (t : Tups H (upd H p o)) : EdsAt (upd H p o) l es := by
  obtain ⟨us, h1, h2⟩ := h
  exact ⟨us, by rw [upd_ne n]; exact h1, h2.mono t⟩

/-! ### walks over texts -/
theorem for_strS {x : Str} {g : L2.TG} {tb : L2.TS} {D : L2.Ends} {σ : L2.St} {H : Hp} (Pv : Nat → L2.St → Hp → Prop) (h0 : Pv 0 σ H)
    (hs : ∀ i c σ H, x.cps[i]? = some c → Pv i σ H → g (.str ⟨#[c]⟩) σ H fun σ2 H2 => tb { D with nx := Pv (i + 1), ct := Pv (i + 1), bk := D.nx } σ2 H2) (hd : ∀ σ H, Pv x.cps.size σ H → D.nx σ H) :
    ∃ Wk : Nat → Nat → L2.St → Hp → Prop, (∃ mm, Wk 0 mm σ H) ∧ ∀ i mm σ H, Wk i mm σ H →
      ((Its x).stop i H ∧ D.nx σ H) ∨ ((Its x).go i H ∧ ∃ N : L2.St → Hp → Prop, (∀ σ' H', N σ' H' → ∃ mm', mm' < mm ∧ Wk (i + 1) mm' σ' H') ∧ ∀ y H', (Its x).yld i H y H' → g y σ H' fun σ2 H2 => tb { D with nx := N, ct := N, bk := D.nx } σ2 H2) := by
  refine ⟨fun i mm σ H => mm = x.cps.size - i ∧ i ≤ x.cps.size ∧ Pv i σ H, ⟨x.cps.size, by simp, Nat.zero_le _, h0⟩, ?_⟩
  rintro i mm σ H ⟨rfl, hi, pz⟩
  by_cases hlt : i < x.cps.size
  · refine .inr ⟨hlt, Pv (i + 1), fun σ' H' pz' => ⟨x.cps.size - (i + 1), by omega, rfl, hlt, pz'⟩, fun y H' hy => ?_⟩
    obtain ⟨rfl, c, hc, rfl⟩ := hy
    exact hs i c σ H' hc pz
  · have ee : i = x.cps.size := by omega
    subst ee
    exact .inl ⟨Nat.le_refl _, hd σ H pz⟩
theorem lc_strS {x : Str} {g : L2.TG} {tt : L2.TT} {te : L2.TE} {vs : List Nat} {σ : L2.St} {H1 : Hp} {D : Addr} {Qd : Hp → Prop} (Pv : Nat → Hp → Prop) (h0 : Pv 0 (upd H1 D (.lst [])))
    (hs : ∀ i c H, x.cps[i]? = some c → Pv i H → g (.str ⟨#[c]⟩) (wipe σ vs) H fun σ2 H2 => wipe σ2 vs = wipe σ vs ∧ tt σ2 H2 fun b H3 =>
      if b = true then te σ2 H3 fun y H4 => ∃ acc, H4 D = some (.lst acc) ∧ acc.length < sizeLine ∧ Pv (i + 1) (upd H4 D (.lst (acc ++ [y]))) else Pv (i + 1) H3) (hd : ∀ H, Pv x.cps.size H → Qd H) :
    ∃ Wk : Nat → Nat → Hp → Prop, (∃ mm, Wk 0 mm (upd H1 D (.lst []))) ∧ ∀ i mm H, Wk i mm H →
      ((Its x).stop i H ∧ Qd H) ∨ ((Its x).go i H ∧ ∃ Nx : Hp → Prop, (∀ H', Nx H' → ∃ mm', mm' < mm ∧ Wk (i + 1) mm' H') ∧ ∀ y H', (Its x).yld i H y H' → g y (wipe σ vs) H' fun σ2 H2 => wipe σ2 vs = wipe σ vs ∧ tt σ2 H2 fun b H3 =>
        if b = true then te σ2 H3 fun y H4 => ∃ acc, H4 D = some (.lst acc) ∧ acc.length < sizeLine ∧ Nx (upd H4 D (.lst (acc ++ [y]))) else Nx H3) := by
  refine ⟨fun i mm H => mm = x.cps.size - i ∧ i ≤ x.cps.size ∧ Pv i H, ⟨x.cps.size, by simp, Nat.zero_le _, h0⟩, ?_⟩
  rintro i mm H ⟨rfl, hi, pz⟩
  by_cases hlt : i < x.cps.size
  · refine .inr ⟨hlt, Pv (i + 1), fun H' pz' => ⟨x.cps.size - (i + 1), by omega, rfl, hlt, pz'⟩, fun y H' hy => ?_⟩
    obtain ⟨rfl, c, hc, rfl⟩ := hy
    exact hs i c H' hc pz
  · have ee : i = x.cps.size := by omega
    subst ee
    exact .inl ⟨Nat.le_refl _, hd H pz⟩
/-- a walk over enumerate(xs) -/
theorem for_enumS {K : PySem.W.Frag} {a : Addr} {xs : List V} {g : L2.TG} {tb : L2.TS} {D : L2.Ends} {σ : L2.St} {H : Hp} (Pv : Nat → L2.St → Hp → Prop) (h0 : Pv 0 σ H) (hl : ∀ i σ H, i ≤ xs.length → Pv i σ H → SqL K H a xs)
    (hs : ∀ i x t σ H, xs[i]? = some x → Pv i σ H → H t = none → g (.ref t) σ (upd H t (.tup [.int (i : Nat), x])) fun σ2 H2 => tb { D with nx := Pv (i + 1), ct := Pv (i + 1), bk := D.nx } σ2 H2) (hd : ∀ σ H, Pv xs.length σ H → D.nx σ H) :
    ∃ Wk : Nat → Nat → L2.St → Hp → Prop, (∃ mm, Wk 0 mm σ H) ∧ ∀ i mm σ H, Wk i mm σ H →
      ((Ite K a).stop i H ∧ D.nx σ H) ∨ ((Ite K a).go i H ∧ ∃ N : L2.St → Hp → Prop, (∀ σ' H', N σ' H' → ∃ mm', mm' < mm ∧ Wk (i + 1) mm' σ' H') ∧ ∀ y H', (Ite K a).yld i H y H' → g y σ H' fun σ2 H2 => tb { D with nx := N, ct := N, bk := D.nx } σ2 H2) := by
  refine ⟨fun i mm σ H => mm = xs.length - i ∧ i ≤ xs.length ∧ Pv i σ H, ⟨xs.length, by simp, Nat.zero_le _, h0⟩, ?_⟩
  rintro i mm σ H ⟨rfl, hi, pz⟩
  have q := hl i σ H hi pz
  by_cases hlt : i < xs.length
  · have hx : xs[i]? = some (xs[i]) := List.getElem?_eq_getElem hlt
    refine .inr ⟨⟨xs, xs[i], q, hx⟩, Pv (i + 1), fun σ' H' pz' => ⟨xs.length - (i + 1), by omega, rfl, hlt, pz'⟩, fun y H' hy => ?_⟩
    obtain ⟨t, x, rfl, ht, rfl, hall⟩ := hy
    exact hs i x t σ H (hall xs q) pz ht
  · have ee : i = xs.length := by omega
    subst ee
    exact .inl ⟨⟨xs, q, Nat.le_refl _⟩, hd σ H pz⟩

/-! ### the numbers of the characters -/
def tagW (s : Str) : List Int := (cs s).map fun _ => -1
theorem tagW_len (s : Str) : (tagW s).length = (cs s).length := List.length_map ..
def upTo (n : Nat) : List Int := (List.range n).map fun (k : Nat) => (k : Int)
theorem upTo_len (n : Nat) : (upTo n).length = n := by
  unfold upTo
  rw [List.length_map, List.length_range]
theorem upTo_succ (n : Nat) : upTo (n + 1) = upTo n ++ [(n : Int)] := by
  unfold upTo
  rw [List.range_succ, List.map_append]
  rfl
theorem applG_snoc {α : Type} (g : Str → List α) (t : List α) (es : List Ed) (e : Ed) : applG g t (es ++ [e]) = spl1G g (applG g t es) e := by
  unfold applG
  rw [List.foldl_append]
  rfl
theorem splG_le {α : Type} {t s : List α} {a b : Nat} (h : a ≤ b) : (splG t a b s).length ≤ t.length + s.length := by
  unfold splG
  rw [List.length_append, List.length_append, List.length_take, List.length_drop]
  omega
theorem fitsL_le : ∀ {n : Nat} {es : List Ed}, fitsL n es → ∀ e ∈ es, 0 ≤ e.1 ∧ e.1 ≤ e.2.1
  | _, [], _, _, h => absurd h List.not_mem_nil
  | _, _ :: _, f, e, h => by
    rcases List.mem_cons.mp h with h | h
    · rw [h]
      exact ⟨f.1.1, f.1.2.1⟩
    · exact fitsL_le f.2 e h
theorem applG_le : ∀ {es : List Ed} {t : List Int}, (∀ e ∈ es, 0 ≤ e.1 ∧ e.1 ≤ e.2.1) → Short es → (applG tagW t es).length ≤ t.length + es.length * 2000
  | [], t, _, _ => Nat.le_add_right _ _
  | e :: r, t, f, h => by
    have f1 := f e List.mem_cons_self
    have ih := applG_le (es := r) (t := spl1G tagW t e) (fun x hx => f x (List.mem_cons_of_mem _ hx)) (fun x hx => h x (List.mem_cons_of_mem _ hx))
    have h1 := (h e List.mem_cons_self).1
    have s1 : (spl1G tagW t e).length ≤ t.length + (tagW e.2.2).length := splG_le (by omega)
    rw [tagW_len] at s1
    show (applG tagW (spl1G tagW t e) r).length ≤ t.length + (r.length + 1) * 2000
    have : e.len = (cs e.2.2).length := rfl
    omega
theorem tagW_snoc (k : Nat) : (List.replicate k (-1 : Int)) ++ [-1] = List.replicate (k + 1) (-1) := by rw [List.replicate_succ']
theorem tagW_rep (s : Str) : tagW s = List.replicate (cs s).length (-1) := by
  unfold tagW
  rw [List.map_const']
def spTags : Sp := fun vs H Q _ => ∃ (n : Nat) (l : Addr) (es : List Ed), vs = [.int (n : Int), .ref l] ∧ EdsAt H l es ∧ (∀ e ∈ es, 0 ≤ e.1 ∧ e.1 ≤ e.2.1) ∧ Short es ∧ es.length ≤ 400 ∧ n ≤ 50000 ∧ ∀ l' H', Same H H' → H' l' = some (.lst ((applG tagW (upTo (n + 1)) es).map V.int)) → Q (.ref l') H'
theorem ok_tags (T : Txt K mg) : FnOk P w K mg base CX0 1 T.a_law_tags T.fd_law_tags ["size", "edits"] spTags := by
  refine T.F_law_tags.ok sc_law_tags (fun vs H Q E h => ?_) (fun cdv A outer s H vs Q E hr h => ?_)
  · obtain ⟨n, l, es, rfl, _⟩ := h
    rfl
  · obtain ⟨n, l, es, rfl, hE, hf, hS, hn, hz, q⟩ := h
    refine ⟨_, (pss_cons (ps_setLc (i := 2) (own := [("k", 3)]) (g := gName 3) (by rfl) sc_law_tags.nd rfl rfl (sw_true rfl rfl rfl (by decide +kernel)) (pi_range1 (by rfl) T.m_range (pa_cons (pe_op op_add (pv 0) pe_int) pa_nil)) (blkOk_by (own := [("k", 3)]) (N := ["size", "edits", "tags", "k", "edit", "char"]) (sc := defScope s_law_tags) (by decide +kernel)) (fun _ _ _ _ _ => pg_name (i := 3) sc_law_tags.nd rfl (Or.inl rfl)) (fun _ _ _ _ _ => pts_nil) (fun _ _ _ _ _ => (pv 3)))
      (pss_cons (ps_for PassesOwn.never rfl (pi_list (pv 1)) (pg_name (i := 4) sc_law_tags.nd rfl (.inl rfl)) (pss_one (ps_set (i := 2) sc_law_tags.nd rfl (.inl rfl) (pe_op op_cat (pe_op op_cat (pe_slice sl_list (pv 2) po_none (po_some (pe_ix ix_tup (pv 4) pe_int (fun _ _ => rfl)))) (pe_lc (own := [("char", 5)]) (g := gName 5) (by rfl) sc_law_tags.nd (pi_str (pe_ix ix_tup (pv 4) pe_int (fun _ _ => rfl))) (blkOk_by (own := [("char", 5)]) (N := ["size", "edits", "tags", "k", "edit", "char"]) (sc := defScope s_law_tags) (by decide +kernel)) (fun _ _ _ _ _ => pg_name (i := 5) sc_law_tags.nd rfl (Or.inl rfl)) (fun _ _ _ _ _ => pts_nil) (fun _ _ _ _ _ => (pe_un un_neg pe_int)))) (pe_slice sl_list (pv 2) (po_some (pe_ix ix_tup (pv 4) pe_int (fun _ _ => rfl))) po_none)))))
      (pss_one (ps_ret (pv 2))))), ?_⟩
    refine ⟨_, rfl, _, 1, rfl, rfl, _, rfl, by omega, by omega, fun D nD => ?_⟩
    refine lc_range (lo := 0) (n := ((n : Int) + 1).toNat) (fun i H' => Same H H' ∧ H' D = some (.lst ((upTo i).map V.int))) ⟨same_upd nD, upd_same⟩ ?_ ?_
    · rintro i H' hi ⟨sm, hD⟩
      refine ⟨rfl, _, rfl, _, hD, sz2 (by rw [List.length_map, upTo_len]; omega), same_mut sm nD, ?_⟩
      rw [upd_same, upTo_succ, List.map_append, Int.zero_add]
      rfl
    · rintro H1 ⟨sm1, hD⟩
      have e1 : ((n : Int) + 1).toNat = n + 1 := by omega
      rw [e1] at hD
      obtain ⟨us, hus, hue⟩ := id hE
      have lu := paired_len hue
      refine ⟨_, rfl, l, rfl, ⟨_, SqL.of (sm1 _ _ hus)⟩, ?_⟩
      refine for_list (K := K) (a := l) (xs := us) (fun i σ H' => Same H H' ∧ ∃ (d : Addr) (y3 y4 y5 : Option V), σ = [some (.int (n : Int)), some (.ref l), some (.ref d), y3, y4, y5] ∧ H' d = some (.lst ((applG tagW (upTo (n + 1)) (es.take i)).map V.int)))
        ⟨sm1, D, none, none, none, rfl, hD⟩ (fun i σ H' _ ⟨e, _⟩ => SqL.of (e _ _ hus)) ?_ ?_
      · rintro i x σ H2 hx ⟨sm, d, y3, y4, y5, rfl, hd⟩
        obtain ⟨e, he⟩ : ∃ e, es[i]? = some e := ⟨_, List.getElem?_eq_getElem (by rw [← lu]; exact (List.getElem?_eq_some_iff.mp hx).1)⟩
        obtain ⟨x', hx', t, rfl, ht0⟩ := paired_get hue he
        rw [hx] at hx'
        have h1 := Option.some.inj hx'
        subst h1
        have hem := List.mem_of_getElem? he
        obtain ⟨f0, f1⟩ := hf e hem
        obtain ⟨a, ha⟩ := nat_of f0
        obtain ⟨b, hb⟩ := nat_of (Int.le_trans f0 f1)
        obtain ⟨ea, eb, es1⟩ := e
        dsimp only at ha hb
        subst ha hb
        have hl1 : es1.length ≤ 2000 := by rw [len_cs]; exact (hS _ hem).1
        have hlen := applG_le (es := es.take i) (t := upTo (n + 1)) (fun e he => hf e (List.mem_of_mem_take he)) (fun e he => hS e (List.mem_of_mem_take he))
        rw [upTo_len, List.length_take] at hlen
        have ht := sm _ _ ht0
        have ht : H2 t = some (.tup [.int (a : Int), .int (b : Int), .str es1]) := ht
        have esn : applG tagW (upTo (n + 1)) (es.take (i + 1)) = splG (applG tagW (upTo (n + 1)) (es.take i)) a b (tagW es1) := by
          rw [take_more he, applG_snoc]
          rfl
        obtain ⟨ts, ets⟩ : ∃ ts, ts = applG tagW (upTo (n + 1)) (es.take i) := ⟨_, rfl⟩
        rw [← ets] at hd hlen esn
        have hlen2 : ts.length ≤ 1000000 := by omega
        refine ⟨_, rfl, _, rfl, t, _, 0, .int (a : Int), rfl, rfl, SqT.of ht, atI_nat (j := 0) rfl, _, rfl, d, _, rfl, SqL.of hd, fun c nc => ?_⟩
        rw [cutV_pre]
        have s3 := same_upd (o := .lst ((ts.map V.int).take a)) nc
        refine ⟨_, rfl, t, _, 2, .str es1, rfl, rfl, SqT.of (s3 _ _ ht), atI_nat (j := 2) rfl, es1, rfl, fun D2 nD2 => ?_⟩
        refine lc_strS (fun j H' => Same (upd H2 c (.lst ((ts.map V.int).take a))) H' ∧ H' D2 = some (.lst ((List.replicate j (-1 : Int)).map V.int))) ⟨same_upd nD2, upd_same⟩ ?_ ?_
        · rintro j ch H3 hj ⟨s4, hD2⟩
          have hj' : j < es1.length := (Array.getElem?_eq_some_iff.mp hj).1
          refine ⟨rfl, 1, rfl, _, hD2, sz2 (by rw [List.length_map, List.length_replicate]; omega), same_mut s4 nD2, ?_⟩
          rw [upd_same, List.replicate_succ', List.map_append]
          rfl
        · rintro H4 ⟨s4, hD2⟩
          have e3 : (List.replicate es1.cps.size (-1 : Int)) = tagW es1 := by rw [tagW_rep, ← len_cs]; rfl
          rw [e3] at hD2
          have l3 := tagW_len es1
          rw [← len_cs] at l3
          have s5 := s3.trans s4
          have hc4 := s4 _ _ upd_same
          refine ⟨c, D2, _, _, rfl, rfl, hc4, hD2, ?_, fun p np => ?_⟩
          · rw [List.length_take, List.length_map, List.length_map, l3]
            exact szM (by omega)
          have s6 := s5.trans (same_upd (o := .lst ((ts.map V.int).take a ++ (tagW es1).map V.int)) np)
          refine ⟨_, rfl, _, rfl, t, _, 1, .int (b : Int), rfl, rfl, SqT.of (s6 _ _ ht), atI_nat (j := 1) rfl, _, rfl, d, _, rfl, SqL.of (s6 _ _ hd), fun c2 nc2 => ?_⟩
          rw [cutV_suf]
          have s7 := s6.trans (same_upd (o := .lst ((ts.map V.int).drop b)) nc2)
          refine ⟨p, c2, _, _, rfl, rfl, (by rw [upd_ne (ne_of_none upd_same nc2)]; exact upd_same), upd_same, ?_, fun p2 np2 => ?_⟩
          · rw [List.length_append, List.length_take, List.length_drop, List.length_map, List.length_map, l3]
            exact szM (by omega)
          refine ⟨sm.trans (s7.trans (same_upd np2)), p2, _, _, _, rfl, ?_⟩
          rw [upd_same, esn]
          unfold splG
          rw [List.map_append, List.map_append, List.map_take, List.map_drop]
      · rintro σ H2 ⟨sm, d, y3, y4, y5, rfl, hd⟩
        rw [lu, List.take_length] at hd
        exact ⟨_, rfl, q _ _ sm hd⟩

/-! ### the pair that is due -/
def EdOk (e : Ed) : Prop := e.len ≤ 2000 ∧ TOk e.2.2 ∧ 0 ≤ e.1 ∧ e.1 ≤ 1000000 ∧ 0 ≤ e.2.1 ∧ e.2.1 ≤ 1000000
def spDue : Sp := fun vs H Q _ => ∃ (v1 v2 : V) (e f : Ed), vs = [v1, v2] ∧ EdAt H v1 e ∧ EdAt H v2 f ∧ EdOk e ∧ EdOk f ∧
  (∀ p q, dueE e f = some (p, q) → ∀ t u1 u2 H', Same H H' → H' t = some (.tup [u1, u2]) → EdAt H' u1 p → EdAt H' u2 q → Q (.ref t) H') ∧
  (dueE e f = none → ∀ t H', Same H H' → H' t = some (.tup []) → Q (.ref t) H')
theorem EdAt.same {H H' : Hp} {v : V} {e : Ed} (h : EdAt H v e) (s : Same H H') : EdAt H' v e := h.mono fun b _ k => s b _ k
theorem ok_due (T : Txt K mg) : FnOk P w K mg base CX0 1 T.a_law_due T.fd_law_due ["first", "second"] spDue := by
  refine T.F_law_due.ok sc_law_due (fun vs H Q E h => ?_) (fun cdv A outer s H vs Q E hr h => ?_)
  · obtain ⟨v1, v2, e, f, rfl, _⟩ := h
    rfl
  · obtain ⟨v1, v2, e, f, rfl, h1, h2, o1, o2, q1, q2⟩ := h
    refine ⟨_, (pss_cons (ps_if (pt_cmpR op_le (pe_ix ix_tup (pv 1) pe_int (fun _ _ => rfl)) (pe_ix ix_tup (pv 0) pe_int (fun _ _ => rfl)) (nomark _)) (pss_cons (ps_set (i := 2) sc_law_due.nd rfl (.inl rfl) (pe_op op_sub (pe_callB call_len_str (by rfl) T.m_len PySem.boot_len (pa_cons (pe_ix ix_tup (pv 1) pe_int (fun _ _ => rfl)) pa_nil)) (pe_op op_sub (pe_ix ix_tup (pv 1) pe_int (fun _ _ => rfl)) (pe_ix ix_tup (pv 1) pe_int (fun _ _ => rfl)))))
      (pss_one (ps_ret (pe_tup (pa_cons (pv 1) (pa_cons (pe_tup (pa_cons (pe_op op_add (pe_ix ix_tup (pv 0) pe_int (fun _ _ => rfl)) (pv 2)) (pa_cons (pe_op op_add (pe_ix ix_tup (pv 0) pe_int (fun _ _ => rfl)) (pv 2)) (pa_cons (pe_ix ix_tup (pv 0) pe_int (fun _ _ => rfl)) pa_nil)))) pa_nil)))))) pss_nil)
      (pss_cons (ps_if (pt_cmpR op_ge (pe_ix ix_tup (pv 1) pe_int (fun _ _ => rfl)) (pe_op op_add (pe_ix ix_tup (pv 0) pe_int (fun _ _ => rfl)) (pe_callB call_len_str (by rfl) T.m_len PySem.boot_len (pa_cons (pe_ix ix_tup (pv 0) pe_int (fun _ _ => rfl)) pa_nil))) (nomark _)) (pss_cons (ps_set (i := 2) sc_law_due.nd rfl (.inl rfl) (pe_op op_sub (pe_op op_sub (pe_ix ix_tup (pv 0) pe_int (fun _ _ => rfl)) (pe_ix ix_tup (pv 0) pe_int (fun _ _ => rfl))) (pe_callB call_len_str (by rfl) T.m_len PySem.boot_len (pa_cons (pe_ix ix_tup (pv 0) pe_int (fun _ _ => rfl)) pa_nil))))
      (pss_one (ps_ret (pe_tup (pa_cons (pe_tup (pa_cons (pe_op op_add (pe_ix ix_tup (pv 1) pe_int (fun _ _ => rfl)) (pv 2)) (pa_cons (pe_op op_add (pe_ix ix_tup (pv 1) pe_int (fun _ _ => rfl)) (pv 2)) (pa_cons (pe_ix ix_tup (pv 1) pe_int (fun _ _ => rfl)) pa_nil)))) (pa_cons (pv 0) pa_nil)))))) pss_nil)
      (pss_one (ps_ret (pe_tup pa_nil))))), ?_⟩
    obtain ⟨t1, rfl, ht1⟩ := id h1
    obtain ⟨t2, rfl, ht2⟩ := id h2
    have l1 : e.2.2.length ≤ 2000 := by rw [len_cs]; exact o1.1
    have l2 : f.2.2.length ≤ 2000 := by rw [len_cs]; exact o2.1
    refine ⟨_, rfl, t2, _, 1, _, rfl, rfl, SqT.of ht2, atI_nat (j := 1) rfl, _, rfl, t1, _, 0, _, rfl, rfl, SqT.of ht1, atI_nat (j := 0) rfl, _, _, rfl, rfl, _, rfl, ite2 (fun k1 => ?_) (fun k1 => ?_)⟩
    · have k1 : f.2.1 ≤ e.1 := of_decide_eq_true k1
      have hd : dueE e f = some (f, (e.1 + ((f.len : Int) - (f.2.1 - f.1)), e.2.1 + ((f.len : Int) - (f.2.1 - f.1)), e.2.2)) := if_pos k1
      refine ⟨_, rfl, t2, _, 2, _, rfl, rfl, SqT.of ht2, atI_nat (j := 2) rfl, _, rfl, sz1 (by omega), ?_⟩
      refine ⟨_, rfl, t2, _, 1, _, rfl, rfl, SqT.of ht2, atI_nat (j := 1) rfl, _, rfl, t2, _, 0, _, rfl, rfl, SqT.of ht2, atI_nat (j := 0) rfl, _, _, rfl, rfl, _, _, rfl, rfl, ?_⟩
      refine ⟨_, rfl, _, rfl, t1, _, 0, _, rfl, rfl, SqT.of ht1, atI_nat (j := 0) rfl, _, rfl, _, _, rfl, rfl, ?_⟩
      refine ⟨_, rfl, t1, _, 1, _, rfl, rfl, SqT.of ht1, atI_nat (j := 1) rfl, _, rfl, _, _, rfl, rfl, ?_⟩
      refine ⟨_, rfl, t1, _, 2, _, rfl, rfl, SqT.of ht1, atI_nat (j := 2) rfl, ?_⟩
      refine ⟨by show 3 ≤ sizeLine; decide, fun p np => ⟨by show 2 ≤ sizeLine; decide, fun r nr => ?_⟩⟩
      have s1 := (same_upd (o := .tup [.int (e.1 + ((f.2.2.length : Int) - (f.2.1 - f.1))), .int (e.2.1 + ((f.2.2.length : Int) - (f.2.1 - f.1))), .str e.2.2]) np)
      have s2 := same_upd (o := .tup [.ref t2, .ref p]) nr
      refine q1 _ _ hd r (.ref t2) (.ref p) _ (s1.trans s2) upd_same ((h2.same s1).same s2) ⟨p, rfl, ?_⟩
      rw [upd_ne (ne_of_none upd_same nr), upd_same, len_cs]
    · have k1 : ¬ f.2.1 ≤ e.1 := fun z => k1 (decide_eq_true z)
      refine ⟨_, rfl, t2, _, 0, _, rfl, rfl, SqT.of ht2, atI_nat (j := 0) rfl, _, rfl, t1, _, 0, _, rfl, rfl, SqT.of ht1, atI_nat (j := 0) rfl, ?_⟩
      refine ⟨_, rfl, t1, _, 2, _, rfl, rfl, SqT.of ht1, atI_nat (j := 2) rfl, _, rfl, sz1 (by omega), _, _, rfl, rfl, _, _, rfl, rfl, _, rfl, ite2 (fun k2 => ?_) (fun k2 => ?_)⟩
      · have k2 : e.1 + (e.2.2.length : Int) ≤ f.1 := of_decide_eq_true k2
        rw [len_cs] at k2
        have hd : dueE e f = some ((f.1 + (e.2.1 - e.1 - (e.len : Int)), f.2.1 + (e.2.1 - e.1 - (e.len : Int)), f.2.2), e) := by
          unfold dueE
          rw [if_neg k1, if_pos k2]
        refine ⟨_, rfl, t1, _, 1, _, rfl, rfl, SqT.of ht1, atI_nat (j := 1) rfl, _, rfl, t1, _, 0, _, rfl, rfl, SqT.of ht1, atI_nat (j := 0) rfl, _, _, rfl, rfl, ?_⟩
        refine ⟨_, rfl, t1, _, 2, _, rfl, rfl, SqT.of ht1, atI_nat (j := 2) rfl, _, rfl, sz1 (by omega), _, _, rfl, rfl, ?_⟩
        refine ⟨_, rfl, t2, _, 0, _, rfl, rfl, SqT.of ht2, atI_nat (j := 0) rfl, _, rfl, _, _, rfl, rfl, ?_⟩
        refine ⟨_, rfl, t2, _, 1, _, rfl, rfl, SqT.of ht2, atI_nat (j := 1) rfl, _, rfl, _, _, rfl, rfl, ?_⟩
        refine ⟨_, rfl, t2, _, 2, _, rfl, rfl, SqT.of ht2, atI_nat (j := 2) rfl, ?_⟩
        refine ⟨by show 3 ≤ sizeLine; decide, fun p np => ⟨_, rfl, by show 2 ≤ sizeLine; decide, fun r nr => ?_⟩⟩
        have s1 := (same_upd (o := .tup [.int (f.1 + (e.2.1 - e.1 - (e.2.2.length : Int))), .int (f.2.1 + (e.2.1 - e.1 - (e.2.2.length : Int))), .str f.2.2]) np)
        have s2 := same_upd (o := .tup [.ref p, .ref t1]) nr
        refine q1 _ _ hd r (.ref p) (.ref t1) _ (s1.trans s2) upd_same ⟨p, rfl, ?_⟩ ((h1.same s1).same s2)
        rw [upd_ne (ne_of_none upd_same nr), upd_same, len_cs]
      · have k2 : ¬ e.1 + (e.2.2.length : Int) ≤ f.1 := fun z => k2 (decide_eq_true z)
        rw [len_cs] at k2
        have hd : dueE e f = none := by
          unfold dueE
          rw [if_neg k1, if_neg k2]
        refine ⟨by show 0 ≤ sizeLine; decide, fun r nr => ?_⟩
        exact q2 hd r _ (same_upd nr) upd_same

/-! ### swap, told -/
theorem kit_self {K : PySem.W.Frag} {c : Value} : PySem.W.kitOne K c c = some true := by
  unfold PySem.W.kitOne
  rw [if_pos (by simp)]
/-- an error with two values -/
def ErrAt2 (C : Addr) (H : Hp) (E : XK) (v1 v2 : V) : Prop := ∀ d H', Same H H' → H d = none → H' d = some (.xd [(("second" : Str), v2), (("first" : Str), v1)]) → E (.ref C) (some d) H'
def spSwap (C : Addr) : Sp := fun vs H Q E => ∃ (v1 v2 : V) (e f : Ed), vs = [v1, v2] ∧ EdAt H v1 e ∧ EdAt H v2 f ∧ EdOk e ∧ EdOk f ∧
  (∀ p q, dueE e f = some (p, q) → ∀ t u1 u2 H', Same H H' → H' t = some (.tup [u1, u2]) → EdAt H' u1 p → EdAt H' u2 q → Q (.ref t) H') ∧ (dueE e f = none → ErrAt2 C H E v1 v2)
def spTold2 : Sp := fun vs H Q _ => ∃ (v1 v2 : V) (e f : Ed), vs = [v1, v2] ∧ EdAt H v1 e ∧ EdAt H v2 f ∧ EdOk e ∧ EdOk f ∧
  (∀ p q, dueE e f = some (p, q) → ∀ r t u1 u2 H', Same H H' → H' r = some (.tup [.ref t]) → H' t = some (.tup [u1, u2]) → EdAt H' u1 p → EdAt H' u2 q → Q (.ref r) H') ∧
  (dueE e f = none → ∀ r H', Same H H' → H' r = some (.tup [v1, v2, .bl true]) → Q (.ref r) H')
theorem ok_told (T : Txt K mg) (G_swap : FnOk P w K mg base (L2.CX P w) 8 T.a_swap T.fd_swap ["first", "second"] (spSwap T.C_Entangled)) :
    FnOk P w K mg base CX0 9 T.a_law_told T.fd_law_told ["first", "second"] spTold2 := by
  refine T.F_law_told.ok sc_law_told (fun vs H Q E h => ?_) (fun cdv A outer s H vs Q E hr h => ?_)
  · obtain ⟨v1, v2, e, f, rfl, _⟩ := h
    rfl
  · have hr_swap : Room 8 _ := hr
    obtain ⟨v1, v2, e, f, rfl, h1, h2, o1, o2, q1, q2⟩ := h
    refine ⟨_, (pss_cons (ps_try_as (i := 3) (Wout := fun _ _ _ _ => False) rfl rfl sc_law_told.nd rfl rfl ⟨rfl, by decide, .inl T.G_Entangled⟩ takes0 (fun W pn xe tk _ => (pss_one (ps_set (i := 2) sc_law_told.nd rfl (.inl rfl) (pe_callS G_swap hr_swap rfl T.g_swap T.F_swap.kp T.b_swap (fun σ => passAt tk σ) (pa_cons (pv 0) (pa_cons (pv 1) pa_nil)))))) (fun a oe cls d pn hz hf => (pss_cons (ps_set (i := 4) sc_law_told.nd rfl (.inl rfl) (pe_callB (call_isXT hz hf) (by rfl) T.m_isinstance (by decide +kernel) (pa_cons (pv 3) (pa_cons (pe_tup (pa_cons (pe_glob (v := .ref T.C_BadMark) (by rfl) T.G_BadMark rfl) (pa_cons (pe_glob (v := .ref T.C_EditError) (by rfl) T.G_EditError rfl) (pa_cons (pe_glob (v := .ref T.C_GrammarError) (by rfl) T.G_GrammarError rfl) (pa_cons (pe_glob (v := .ref T.C_HistoryError) (by rfl) T.G_HistoryError rfl) (pa_cons (pe_glob (v := .ref T.C_NoLayer) (by rfl) T.G_NoLayer rfl) (pa_cons (pe_glob (v := .ref T.C_NoMark) (by rfl) T.G_NoMark rfl) (pa_cons (pe_glob (v := .ref T.C_NoNode) (by rfl) T.G_NoNode rfl) pa_nil)))))))) pa_nil))))
      (pss_cons (ps_set (i := 4) sc_law_told.nd rfl (.inl rfl) (pe_or (pv 4) (pe_one (pe_callB (call_isXT hz hf) (by rfl) T.m_isinstance (by decide +kernel) (pa_cons (pv 3) (pa_cons (pe_tup (pa_cons (pe_glob (v := .ref T.C_NoWitness) (by rfl) T.G_NoWitness rfl) (pa_cons (pe_glob (v := .ref T.C_PatternError) (by rfl) T.G_PatternError rfl) (pa_cons (pe_glob (v := .ref T.C_QueryError) (by rfl) T.G_QueryError rfl) (pa_cons (pe_glob (v := .ref T.C_TableError) (by rfl) T.G_TableError rfl) (pa_cons (pe_glob (v := .ref T.C_TreeError) (by rfl) T.G_TreeError rfl) (pa_cons (pe_glob (v := .ref T.C_UnknownLanguage) (by rfl) T.G_UnknownLanguage rfl) pa_nil))))))) pa_nil))))))
      (pss_one (ps_ret (pe_tup (pa_cons (pe_xf T.E_Entangled.xf T.n_Entangled_first hz hf (pv 3)) (pa_cons (pe_xf T.E_Entangled.xf T.n_Entangled_second hz hf (pv 3)) (pa_cons (pe_and (pe_callB (call_isX hz hf) (by rfl) T.m_isinstance (by decide +kernel) (pa_cons (pv 3) (pa_cons (pe_glob (v := .ref T.C_MendedError) (by rfl) T.G_MendedError rfl) pa_nil))) (pe_and (pe_callB (call_isX hz hf) (by rfl) T.m_isinstance (by decide +kernel) (pa_cons (pv 3) (pa_cons (pe_bltn (v := .ty "ValueError") (by rfl) T.m_ValueError (by decide +kernel) rfl) pa_nil))) (pe_one (pe_not (pv 4))))) pa_nil))))))))))
      (pss_one (ps_ret (pe_tup (pa_cons (pv 2) pa_nil))))), ?_⟩
    refine ⟨_, rfl, _, rfl, v1, v2, e, f, rfl, h1, h2, o1, o2, fun p q hd t u1 u2 H1 sm ht hp hq => ?_, fun hn d H1 sm nd hd => ?_⟩
    · refine ⟨_, rfl, by show 1 ≤ sizeLine; decide, fun r nr => ?_⟩
      have s2 := same_upd (o := .tup [.ref t]) nr
      exact q1 p q hd r t u1 u2 _ (sm.trans s2) upd_same (s2 _ _ ht) (hp.same s2) (hq.same s2)
    · refine ⟨true, T.E_Entangled.self, fun _ a ha => ?_, fun z => Bool.noConfusion z⟩
      refine ⟨_, rfl, by show 7 ≤ sizeLine; decide, fun tp ntp => ?_⟩
      have hd1 : ∀ {o}, (upd H1 tp o) d = some (.xd [(("second" : Str), v2), (("first" : Str), v1)]) := fun {o} => by rw [upd_ne (ne_of_none hd ntp)]; exact hd
      refine ⟨_, d, rfl, rfl, T.E_Entangled.exc, tp, _, _, false, _, rfl, upd_same, .cons (.own _) (.cons (.own _) (.cons (.own _) (.cons (.own _) (.cons (.own _) (.cons (.own _) (.cons (.own _) .nil)))))), hd1, ?_, ?_⟩
      · exact kitAny_cons T.k_Entangled_BadMark (fun _ => kitAny_cons T.k_Entangled_EditError (fun _ => kitAny_cons T.k_Entangled_GrammarError (fun _ => kitAny_cons T.k_Entangled_HistoryError (fun _ => kitAny_cons T.k_Entangled_NoLayer (fun _ => kitAny_cons T.k_Entangled_NoMark (fun _ => kitAny_cons T.k_Entangled_NoNode (fun _ => kitAny_nil) (fun z => Bool.noConfusion z)) (fun z => Bool.noConfusion z)) (fun z => Bool.noConfusion z)) (fun z => Bool.noConfusion z)) (fun z => Bool.noConfusion z)) (fun z => Bool.noConfusion z)) (fun z => Bool.noConfusion z)
      refine ⟨_, rfl, false, rfl, iteF ?_⟩
      refine ⟨_, rfl, by show 6 ≤ sizeLine; decide, fun tq ntq => ?_⟩
      have hd2 : ∀ {o}, (upd (upd H1 tp (.tup [.ref T.C_BadMark, .ref T.C_EditError, .ref T.C_GrammarError, .ref T.C_HistoryError, .ref T.C_NoLayer, .ref T.C_NoMark, .ref T.C_NoNode])) tq o) d = some (.xd [(("second" : Str), v2), (("first" : Str), v1)]) := fun {o} => by rw [upd_ne (ne_of_none hd1 ntq)]; exact hd1
      refine ⟨_, d, rfl, rfl, T.E_Entangled.exc, tq, _, _, false, _, rfl, upd_same, .cons (.own _) (.cons (.own _) (.cons (.own _) (.cons (.own _) (.cons (.own _) (.cons (.own _) .nil))))), hd2, ?_, ?_⟩
      · exact kitAny_cons T.k_Entangled_NoWitness (fun _ => kitAny_cons T.k_Entangled_PatternError (fun _ => kitAny_cons T.k_Entangled_QueryError (fun _ => kitAny_cons T.k_Entangled_TableError (fun _ => kitAny_cons T.k_Entangled_TreeError (fun _ => kitAny_cons T.k_Entangled_UnknownLanguage (fun _ => kitAny_nil) (fun z => Bool.noConfusion z)) (fun z => Bool.noConfusion z)) (fun z => Bool.noConfusion z)) (fun z => Bool.noConfusion z)) (fun z => Bool.noConfusion z)) (fun z => Bool.noConfusion z)
      refine ⟨_, rfl, rfl, rfl, d, _, _, rfl, hd2, rfl, ?_⟩
      refine ⟨_, rfl, rfl, rfl, d, _, _, rfl, hd2, rfl, ?_⟩
      refine ⟨_, rfl, _, d, rfl, rfl, T.E_Entangled.exc, _, _, true, _, rfl, .own _, hd2, T.k_Entangled_MendedError, true, rfl, iteT ?_⟩
      refine ⟨_, rfl, _, d, rfl, rfl, T.E_Entangled.exc, _, _, true, _, rfl, .ty _, hd2, T.k_Entangled_ValueError, true, rfl, iteT ?_⟩
      refine ⟨_, rfl, false, rfl, by show 3 ≤ sizeLine; decide, fun t nt => ?_⟩
      exact q2 hn t _ (((sm.trans (same_upd ntp)).trans (same_upd ntq)).trans (same_upd nt)) upd_same
def spByBase2 : Sp := fun vs H Q _ => ∃ (v1 v2 : V) (e f : Ed), vs = [v1, v2] ∧ EdAt H v1 e ∧ EdAt H v2 f ∧ EdOk e ∧ EdOk f ∧ dueE e f = none ∧ ∀ H', Same H H' → Q (.bl true) H'
theorem ok_by_base (T : Txt K mg) (G_swap : FnOk P w K mg base (L2.CX P w) 8 T.a_swap T.fd_swap ["first", "second"] (spSwap T.C_Entangled)) :
    FnOk P w K mg base CX0 9 T.a_law_by_base T.fd_law_by_base ["first", "second"] spByBase2 := by
  refine T.F_law_by_base.ok sc_law_by_base (fun vs H Q E h => ?_) (fun cdv A outer s H vs Q E hr h => ?_)
  · obtain ⟨v1, v2, e, f, rfl, _⟩ := h
    rfl
  · have hr_swap : Room 8 _ := hr
    obtain ⟨v1, v2, e, f, rfl, h1, h2, o1, o2, hn, q⟩ := h
    refine ⟨_, (pss_cons (ps_try_as (i := 2) (Wout := fun _ _ _ _ => False) rfl rfl sc_law_by_base.nd rfl rfl ⟨rfl, by decide, .inl T.G_MendedError⟩ takes0 (fun W pn xe tk _ => (pss_one (ps_expr (pe_callS G_swap hr_swap rfl T.g_swap T.F_swap.kp T.b_swap (fun σ => passAt tk σ) (pa_cons (pv 0) (pa_cons (pv 1) pa_nil)))))) (fun a oe cls d pn hz hf => (pss_one (ps_ret (pe_callB (call_isX hz hf) (by rfl) T.m_isinstance (by decide +kernel) (pa_cons (pv 2) (pa_cons (pe_glob (v := .ref T.C_Entangled) (by rfl) T.G_Entangled rfl) pa_nil)))))))
      (pss_one (ps_ret pe_bl))), ?_⟩
    refine ⟨_, rfl, _, rfl, v1, v2, e, f, rfl, h1, h2, o1, o2, fun p q hd => ?_, fun _ d H1 sm nd hd => ?_⟩
    · rw [hn] at hd
      cases hd
    · refine ⟨true, T.x_Entangled_MendedError, fun _ a ha => ?_, fun z => Bool.noConfusion z⟩
      refine ⟨_, rfl, _, d, rfl, rfl, T.E_Entangled.exc, _, _, true, _, rfl, .own _, hd, kit_self, ?_⟩
      exact q _ sm
def spPairOk : Sp := fun vs H Q _ => ∃ (v1 v2 : V) (e f : Ed), vs = [v1, v2] ∧ EdAt H v1 e ∧ EdAt H v2 f ∧ EdOk e ∧ EdOk f ∧ ∀ H', Same H H' → Q (.bl true) H'
theorem dueE_tok {e f p q : Ed} (h : dueE e f = some (p, q)) : p.2.2 = f.2.2 ∧ q.2.2 = e.2.2 := by
  unfold dueE at h
  split at h
  · have h' := Prod.mk.inj (Option.some.inj h)
    rw [← h'.1, ← h'.2]
    exact ⟨rfl, rfl⟩
  · split at h
    · have h' := Prod.mk.inj (Option.some.inj h)
      rw [← h'.1, ← h'.2]
      exact ⟨rfl, rfl⟩
    · cases h
theorem ok_pair_ok (T : Txt K mg) (G_swap : FnOk P w K mg base (L2.CX P w) 8 T.a_swap T.fd_swap ["first", "second"] (spSwap T.C_Entangled)) :
    FnOk P w K mg base CX0 10 T.a_law_pair_ok T.fd_law_pair_ok ["first", "second"] spPairOk := by
  have G_law_due : FnOk P w K mg base CX0 1 T.a_law_due T.fd_law_due ["first", "second"] spDue := ok_due T
  have G_law_told : FnOk P w K mg base CX0 9 T.a_law_told T.fd_law_told ["first", "second"] spTold2 := ok_told T G_swap
  have G_law_by_base : FnOk P w K mg base CX0 9 T.a_law_by_base T.fd_law_by_base ["first", "second"] spByBase2 := ok_by_base T G_swap
  have G_law_same_edit : FnOk P w K mg base CX0 2 T.a_law_same_edit T.fd_law_same_edit ["told", "due"] spSame := ok_same T
  refine T.F_law_pair_ok.ok sc_law_pair_ok (fun vs H Q E h => ?_) (fun cdv A outer s H vs Q E hr h => ?_)
  · obtain ⟨v1, v2, e, f, rfl, _⟩ := h
    rfl
  · have hr_law_due : Room 1 _ := hr.mono (by decide)
    have hr_law_told : Room 9 _ := hr
    have hr_law_by_base : Room 9 _ := hr
    have hr_law_same_edit : Room 2 _ := hr.mono (by decide)
    obtain ⟨v1, v2, e, f, rfl, h1, h2, o1, o2, q⟩ := h
    refine ⟨_, (pss_cons (ps_set (i := 2) sc_law_pair_ok.nd rfl (.inl rfl) (pe_call G_law_due hr_law_due (by rfl) T.g_law_due T.F_law_due.kp T.b_law_due .nil pass0 (pa_cons (pv 0) (pa_cons (pv 1) pa_nil))))
      (pss_cons (ps_set (i := 3) sc_law_pair_ok.nd rfl (.inl rfl) (pe_call G_law_told hr_law_told (by rfl) T.g_law_told T.F_law_told.kp T.b_law_told .nil pass0 (pa_cons (pv 0) (pa_cons (pv 1) pa_nil))))
      (pss_cons (ps_if (pt_not (pt_truth (pv 2) (by intro _; rfl))) (pss_cons (ps_if (PW.pt (pw_or (pt_cmpR op_ne (pe_callB call_len_seq (by rfl) T.m_len PySem.boot_len (pa_cons (pv 3) pa_nil)) pe_int (nomark _)) (pw_or (pt_cmpR op_notBl (pe_ix ix_tup (pv 3) pe_int (fun _ _ => rfl)) pe_bl (nomark _)) (pw_or1 (pt_not (pt_val (pe_call G_law_by_base hr_law_by_base (by rfl) T.g_law_by_base T.F_law_by_base.kp T.b_law_by_base .nil pass0 (pa_cons (pv 0) (pa_cons (pv 1) pa_nil))))))))) (pss_one (ps_ret pe_bl)) pss_nil)
      (pss_one (ps_ret (pe_and (pe_call G_law_same_edit hr_law_same_edit (by rfl) T.g_law_same_edit T.F_law_same_edit.kp T.b_law_same_edit .nil pass0 (pa_cons (pe_ix ix_tup (pv 3) pe_int (fun _ _ => rfl)) (pa_cons (pv 0) pa_nil))) (pe_one (pe_call G_law_same_edit hr_law_same_edit (by rfl) T.g_law_same_edit T.F_law_same_edit.kp T.b_law_same_edit .nil pass0 (pa_cons (pe_ix ix_tup (pv 3) pe_int (fun _ _ => rfl)) (pa_cons (pv 1) pa_nil)))))))) pss_nil)
      (pss_cons (ps_if (PW.pt (pw_or (pt_cmpR op_ne (pe_callB call_len_seq (by rfl) T.m_len PySem.boot_len (pa_cons (pv 3) pa_nil)) pe_int (nomark _)) (pw_or (pt_not (pt_val (pe_callB call_isi (by rfl) T.m_isinstance (by decide +kernel) (pa_cons (pe_ix ix_tup (pv 3) pe_int (fun _ _ => rfl)) (pa_cons (pe_bltn (v := .ty "tuple") (by rfl) T.m_tuple (by decide +kernel) rfl) pa_nil))))) (pw_or1 (pt_cmpR op_ne (pe_callB call_len_seq (by rfl) T.m_len PySem.boot_len (pa_cons (pe_ix ix_tup (pv 3) pe_int (fun _ _ => rfl)) pa_nil)) pe_int (nomark _)))))) (pss_one (ps_ret pe_bl)) pss_nil)
      (pss_one (ps_ret (pe_and (pe_call G_law_same_edit hr_law_same_edit (by rfl) T.g_law_same_edit T.F_law_same_edit.kp T.b_law_same_edit .nil pass0 (pa_cons (pe_ix ix_tup (pe_ix ix_tup (pv 3) pe_int (fun _ _ => rfl)) pe_int (fun _ _ => rfl)) (pa_cons (pe_ix ix_tup (pv 2) pe_int (fun _ _ => rfl)) pa_nil))) (pe_one (pe_call G_law_same_edit hr_law_same_edit (by rfl) T.g_law_same_edit T.F_law_same_edit.kp T.b_law_same_edit .nil pass0 (pa_cons (pe_ix ix_tup (pe_ix ix_tup (pv 3) pe_int (fun _ _ => rfl)) pe_int (fun _ _ => rfl)) (pa_cons (pe_ix ix_tup (pv 2) pe_int (fun _ _ => rfl)) pa_nil))))))))))), ?_⟩
    refine ⟨_, rfl, _, rfl, v1, v2, e, f, rfl, h1, h2, o1, o2, fun p p2 hd d u1 u2 H1 s1 hdt hp1 hp2 => ?_, fun hn d H1 s1 hdt => ?_⟩
    · refine ⟨_, rfl, _, rfl, v1, v2, e, f, rfl, h1.same s1, h2.same s1, o1, o2, fun p' q' hd' r t w1 w2 H2 s2 hr2 ht2 hw1 hw2 => ?_, fun hn => ?_⟩
      · rw [hd] at hd'
        have e1 := Prod.mk.inj (Option.some.inj hd')
        rw [← e1.1] at hw1
        rw [← e1.2] at hw2
        obtain ⟨k1, k2⟩ := dueE_tok hd
        have o3 : TOk p.2.2 := by rw [k1]; exact o2.2.1
        have o4 : TOk p2.2.2 := by rw [k2]; exact o1.2.1
        have hdt2 := s2 _ _ hdt
        refine ⟨_, rfl, true, .inr (.inl ⟨_, SqT.of hdt2, rfl⟩), iteF ?_⟩
        refine ⟨_, rfl, r, _, rfl, .inr (SqT.of hr2), rfl, _, rfl, iteF ?_⟩
        refine ⟨_, rfl, r, _, 0, .ref t, rfl, rfl, SqT.of hr2, atI_nat (j := 0) rfl, _, _, _, _, true, rfl, .ty _, .base (.tup ht2), kit_ty (by decide +kernel), true, rfl, iteF ?_⟩
        refine ⟨_, rfl, r, _, 0, .ref t, rfl, rfl, SqT.of hr2, atI_nat (j := 0) rfl, t, _, rfl, .inr (SqT.of ht2), rfl, _, rfl, iteF ?_⟩
        refine ⟨_, rfl, r, _, 0, .ref t, rfl, rfl, SqT.of hr2, atI_nat (j := 0) rfl, t, _, 0, w1, rfl, rfl, SqT.of ht2, atI_nat (j := 0) rfl, _, rfl, d, _, 0, u1, rfl, rfl, SqT.of hdt2, atI_nat (j := 0) rfl, w1, u1, p, rfl, hw1, hp1.same s2, o3, true, rfl, iteT ?_⟩
        refine ⟨_, rfl, r, _, 0, .ref t, rfl, rfl, SqT.of hr2, atI_nat (j := 0) rfl, t, _, 1, w2, rfl, rfl, SqT.of ht2, atI_nat (j := 1) rfl, _, rfl, d, _, 1, u2, rfl, rfl, SqT.of hdt2, atI_nat (j := 1) rfl, w2, u2, p2, rfl, hw2, hp2.same s2, o4, ?_⟩
        exact q _ (s1.trans s2)
      · rw [hd] at hn
        cases hn
    · refine ⟨_, rfl, _, rfl, v1, v2, e, f, rfl, h1.same s1, h2.same s1, o1, o2, fun p' q' hd' => ?_, fun _ r H2 s2 hr2 => ?_⟩
      · rw [hn] at hd'
        cases hd'
      · have hdt2 := s2 _ _ hdt
        refine ⟨_, rfl, false, .inr (.inl ⟨_, SqT.of hdt2, rfl⟩), iteT ?_⟩
        refine ⟨_, rfl, r, _, rfl, .inr (SqT.of hr2), rfl, _, rfl, iteF ?_⟩
        refine ⟨_, rfl, r, _, 2, .bl true, rfl, rfl, SqT.of hr2, atI_nat (j := 2) rfl, true, true, rfl, rfl, _, rfl, iteF ?_⟩
        have s12 := s1.trans s2
        refine ⟨_, rfl, _, rfl, v1, v2, e, f, rfl, h1.same s12, h2.same s12, o1, o2, hn, fun H3 s3 => ⟨true, rfl, iteF ?_⟩⟩
        have s13 := s12.trans s3
        have hr3 := s3 _ _ hr2
        refine ⟨_, rfl, r, _, 0, v1, rfl, rfl, SqT.of hr3, atI_nat (j := 0) rfl, _, rfl, v1, v1, e, rfl, h1.same s13, h1.same s13, o1.2.1, true, rfl, iteT ?_⟩
        refine ⟨_, rfl, r, _, 1, v2, rfl, rfl, SqT.of hr3, atI_nat (j := 1) rfl, _, rfl, v2, v2, f, rfl, h2.same s13, h2.same s13, o2.2.1, ?_⟩
        exact q _ s13

/-! ### lists of ints as data -/
theorem ints_dp {H : Hp} : ∀ xs : List Int, DpAll K H (xs.map V.int) (xs.map PyData.int)
  | [] => .nil
  | x :: xs => .cons (.int x) (ints_dp xs)
theorem ints_lay : ∀ xs : List Int, PyData.canLayAll0 (xs.map PyData.int) = true
  | [] => rfl
  | x :: xs => by
    rw [List.map_cons]
    simp only [PyData.canLayAll0]
    rw [ints_lay xs]
    rfl
theorem ints_depth : ∀ xs : List Int, PyData.depthAll (xs.map PyData.int) = 0
  | [] => rfl
  | x :: xs => by
    rw [List.map_cons]
    simp only [PyData.depthAll]
    rw [ints_depth xs]
    rfl
theorem intL_lay (xs : List Int) : (PyData.list (xs.map PyData.int)).canLay0 = true := by
  simp only [PyData.canLay0]
  exact ints_lay xs
theorem intL_shaped (xs : List Int) : SeqAt.shaped (.list (xs.map PyData.int)) = true := by
  unfold SeqAt.shaped
  rw [intL_lay xs]
  have d : (PyData.list (xs.map PyData.int)).depth = PyData.depthAll (xs.map PyData.int) + 1 := by simp only [PyData.depth]
  rw [d, Bool.true_and, decide_eq_true_eq, ints_depth]
  decide
theorem intL_dp {H : Hp} {l : Addr} {xs : List Int} (h : H l = some (.lst (xs.map V.int))) : Dp K H (.ref l) (.list (xs.map PyData.int)) := .lst (SqL.of h) (ints_dp xs)

/-! ### made by hand, the same result -/
def okEds (H : Hp) (ws : List V) : Prop := ∃ (v1 v2 : V) (e f : Ed), ws = [v1, v2] ∧ EdAt H v1 e ∧ EdAt H v2 f ∧ EdOk e ∧ EdOk f
def fsEnt (ws : List V) : List (Str × V) := [(("second" : Str), ws.getD 1 .non), (("first" : Str), ws.getD 0 .non)]
def spMade2 : Sp := fun vs H Q _ => ∃ (v1 v2 : V) (e f : Ed), vs = [v1, v2] ∧ EdAt H v1 e ∧ EdAt H v2 f ∧ EdOk e ∧ EdOk f ∧ ∀ H', Same H H' → Q (.bl true) H'
theorem ok_made_ok (T : Txt K mg) (G_Entangled_init : FnOk P w K mg base CX0 4 T.a_Entangled_init T.fd_Entangled_init ["self", "first", "second"] (spInitN T.C_Entangled 2 okEds fsEnt)) :
    FnOk P w K mg base CX0 6 T.a_law_made_ok T.fd_law_made_ok ["first", "second"] spMade2 := by
  have G_law_same_edit : FnOk P w K mg base CX0 2 T.a_law_same_edit T.fd_law_same_edit ["told", "due"] spSame := ok_same T
  refine T.F_law_made_ok.ok sc_law_made_ok (fun vs H Q E h => ?_) (fun cdv A outer s H vs Q E hr h => ?_)
  · obtain ⟨v1, v2, e, f, rfl, _⟩ := h
    rfl
  · have hr_Entangled_init : Room 5 _ := hr
    have hr_law_same_edit : Room 2 _ := hr.mono (by decide)
    obtain ⟨v1, v2, e, f, rfl, h1, h2, o1, o2, q⟩ := h
    refine ⟨_, (pss_cons (ps_set (i := 2) sc_law_made_ok.nd rfl (.inl rfl) (pe_ofMk (pmk_oex T.E_Entangled.oex T.E_Entangled.iC T.E_Entangled.tI G_Entangled_init hr_Entangled_init T.b_Entangled_init .nil pass0 (by rfl) T.E_Entangled.g (pa_cons (pv 0) (pa_cons (pv 1) pa_nil)))))
      (pss_one (ps_ret (pe_and (pe_callB call_isV (by rfl) T.m_isinstance (by decide +kernel) (pa_cons (pv 2) (pa_cons (pe_glob (v := .ref T.C_MendedError) (by rfl) T.G_MendedError rfl) pa_nil))) (pe_and (pe_call G_law_same_edit hr_law_same_edit (by rfl) T.g_law_same_edit T.F_law_same_edit.kp T.b_law_same_edit .nil pass0 (pa_cons (pe_fxE (pv 2)) (pa_cons (pv 0) pa_nil))) (pe_one (pe_call G_law_same_edit hr_law_same_edit (by rfl) T.g_law_same_edit T.F_law_same_edit.kp T.b_law_same_edit .nil pass0 (pa_cons (pe_fxE (pv 2)) (pa_cons (pv 1) pa_nil))))))))), ?_⟩
    refine seq_asg ?_
    refine mkN (ta := tCons (tVar 0) (tCons (tVar 1) tNil)) (n := 2) (ok := okEds) (fs := fsEnt) ?_ ?_
    · refine ⟨_, rfl, _, rfl, rfl, by show 2 ≤ 1000; decide, fun a na => ?_, fun d H1 sm nd hd => ⟨_, rfl, fun a na => ?_⟩⟩
      · exact ⟨v1, v2, e, f, rfl, h1.same (same_upd na), h2.same (same_upd na), o1, o2⟩
      have hd1 : (upd H1 a (erv a T.C_Entangled (some d))) d = some (.xd (fsEnt [v1, v2])) := by rw [upd_ne (ne_of_none hd na)]; exact hd
      have s2 := sm.trans (same_upd (o := erv a T.C_Entangled (some d)) na)
      refine ⟨_, rfl, a, _, d, _, _, _, true, rfl, upd_same, hd1, T.E_Entangled.exc, .own _, T.k_Entangled_MendedError, true, rfl, iteT ?_⟩
      refine ⟨_, rfl, a, _, d, _, _, rfl, T.E_Entangled.xf, T.n_Entangled_first, upd_same, hd1, rfl, _, rfl, v1, v1, e, rfl, h1.same s2, h1.same s2, o1.2.1, true, rfl, iteT ?_⟩
      refine ⟨_, rfl, a, _, d, _, _, rfl, T.E_Entangled.xf, T.n_Entangled_second, upd_same, hd1, rfl, _, rfl, v2, v2, f, rfl, h2.same s2, h2.same s2, o2.2.1, ?_⟩
      exact q _ s2
    · rintro Q1 Q2 h ⟨x, e1, y, e2, q1⟩
      exact ⟨x, e1, y, e2, h _ _ q1⟩
def spResult : Sp := fun vs H Q _ => ∃ (z : Str) (v1 v2 : V) (e f : Ed), vs = [.str z, v1, v2] ∧ EdAt H v1 e ∧ EdAt H v2 f ∧ EdOk e ∧ EdOk f ∧ fit1 (cs z).length e ∧ fit1 (size1 (cs z).length e) f ∧ (cs z).length ≤ 2000 ∧ ∀ H', Same H H' → Q (.bl true) H'
theorem ok_same_result (T : Txt K mg) (G_swap : FnOk P w K mg base (L2.CX P w) 8 T.a_swap T.fd_swap ["first", "second"] (spSwap T.C_Entangled)) :
    FnOk P w K mg base CX0 9 T.a_law_same_result T.fd_law_same_result ["text", "first", "second"] spResult := by
  have G_law_due : FnOk P w K mg base CX0 1 T.a_law_due T.fd_law_due ["first", "second"] spDue := ok_due T
  have G_law_splice : FnOk P w K mg base CX0 1 T.a_law_splice T.fd_law_splice ["text", "edits"] spSplice := ok_splice T
  have G_law_tags : FnOk P w K mg base CX0 1 T.a_law_tags T.fd_law_tags ["size", "edits"] spTags := ok_tags T
  refine T.F_law_same_result.ok sc_law_same_result (fun vs H Q E h => ?_) (fun cdv A outer s H vs Q E hr h => ?_)
  · obtain ⟨z, v1, v2, e, f, rfl, _⟩ := h
    rfl
  · have hr_law_due : Room 1 _ := hr.mono (by decide)
    have hr_law_splice : Room 1 _ := hr.mono (by decide)
    have hr_law_tags : Room 1 _ := hr.mono (by decide)
    have hr_swap : Room 8 _ := hr
    obtain ⟨z, v1, v2, e, f, rfl, h1, h2, o1, o2, f1, f2, hz, q⟩ := h
    refine ⟨_, (pss_cons (ps_set (i := 3) sc_law_same_result.nd rfl (.inl rfl) (pe_call G_law_due hr_law_due (by rfl) T.g_law_due T.F_law_due.kp T.b_law_due .nil pass0 (pa_cons (pv 1) (pa_cons (pv 2) pa_nil))))
      (pss_cons (ps_if (pt_not (pt_truth (pv 3) (by intro _; rfl))) (pss_one (ps_ret pe_bl)) pss_nil)
      (pss_cons (ps_set (i := 4) sc_law_same_result.nd rfl (.inl rfl) (pe_call G_swap hr_swap (by rfl) T.g_swap T.F_swap.kp T.b_swap .nil (passX0 rfl rfl) (pa_cons (pv 1) (pa_cons (pv 2) pa_nil))))
      (pss_cons (ps_set (i := 5) sc_law_same_result.nd rfl (.inl rfl) (pe_lst (pa_cons (pe_ix ix_tup (pv 4) pe_int (fun _ _ => rfl)) (pa_cons (pe_ix ix_tup (pv 4) pe_int (fun _ _ => rfl)) pa_nil))))
      (pss_cons (ps_if (pt_cmpR op_ne (pe_call G_law_splice hr_law_splice (by rfl) T.g_law_splice T.F_law_splice.kp T.b_law_splice .nil pass0 (pa_cons (pv 0) (pa_cons (pv 5) pa_nil))) (pe_call G_law_splice hr_law_splice (by rfl) T.g_law_splice T.F_law_splice.kp T.b_law_splice .nil pass0 (pa_cons (pv 0) (pa_cons (pe_lst (pa_cons (pv 1) (pa_cons (pv 2) pa_nil))) pa_nil))) (nomark _)) (pss_one (ps_ret pe_bl)) pss_nil)
      (pss_one (ps_ret (pe_cmpR (op_eqD hr.units) (pe_call G_law_tags hr_law_tags (by rfl) T.g_law_tags T.F_law_tags.kp T.b_law_tags .nil pass0 (pa_cons (pe_callB call_len_str (by rfl) T.m_len PySem.boot_len (pa_cons (pv 0) pa_nil)) (pa_cons (pv 5) pa_nil))) (pe_call G_law_tags hr_law_tags (by rfl) T.g_law_tags T.F_law_tags.kp T.b_law_tags .nil pass0 (pa_cons (pe_callB call_len_str (by rfl) T.m_len PySem.boot_len (pa_cons (pv 0) pa_nil)) (pa_cons (pe_lst (pa_cons (pv 1) (pa_cons (pv 2) pa_nil))) pa_nil))) (nomark _))))))))), ?_⟩
    have lz := len_cs z
    refine ⟨_, rfl, _, rfl, v1, v2, e, f, rfl, h1, h2, o1, o2, fun p p2 hd d u1 u2 H1 s1 hdt hp1 hp2 => ?_, fun hn d H1 s1 hdt => ?_⟩
    · refine ⟨_, rfl, true, .inr (.inl ⟨_, SqT.of hdt, rfl⟩), iteF ?_⟩
      refine ⟨_, rfl, _, rfl, v1, v2, e, f, rfl, h1.same s1, h2.same s1, o1, o2, fun p' q' hd' t w1 w2 H2 s2 ht2 hw1 hw2 => ?_, fun hn => ?_⟩
      · rw [hd] at hd'
        have e1 := Prod.mk.inj (Option.some.inj hd')
        rw [← e1.1] at hw1
        rw [← e1.2] at hw2
        obtain ⟨k1, k2⟩ := dueE_tok hd
        have s12 := s1.trans s2
        -- swapped
        refine ⟨_, rfl, t, _, 0, w1, rfl, rfl, SqT.of ht2, atI_nat (j := 0) rfl, _, rfl, t, _, 1, w2, rfl, rfl, SqT.of ht2, atI_nat (j := 1) rfl, by show 2 ≤ sizeLine; decide, fun l nl => ?_⟩
        have sl := same_upd (o := .lst [w1, w2]) nl
        have hE : EdsAt (upd H2 l (.lst [w1, w2])) l [p, p2] := ⟨[w1, w2], upd_same, .cons (hw1.same sl) (.cons (hw2.same sl) .nil)⟩
        have hS : Short [p, p2] := fun x hx => by
          rcases List.mem_cons.mp hx with hx | hx
          · rw [hx]
            exact ⟨by show (cs p.2.2).length ≤ 2000; rw [k1]; exact o2.1, by rw [k1]; exact o2.2.1⟩
          · rw [List.mem_singleton.mp hx]
            exact ⟨by show (cs p2.2.2).length ≤ 2000; rw [k2]; exact o1.1, by rw [k2]; exact o1.2.1⟩
        have hf := swap_fits hd f1 f2
        have hS2 : Short [e, f] := fun x hx => by
          rcases List.mem_cons.mp hx with hx | hx
          · rw [hx]
            exact ⟨o1.1, o1.2.1⟩
          · rw [List.mem_singleton.mp hx]
            exact ⟨o2.1, o2.2.1⟩
        have hf2 : fitsL (cs z).length [e, f] := ⟨f1, f2, True.intro⟩
        have lim := (short_lim2 (t := cs z) hS hz (by show 2 ≤ 1500; decide)).lim hf
        have lim2 := (short_lim2 (t := cs z) hS2 hz (by show 2 ≤ 1500; decide)).lim hf2
        have h1b := (h1.same s12).same sl
        have h2b := (h2.same s12).same sl
        -- splice != splice
        refine ⟨_, rfl, _, rfl, z, l, _, rfl, hE, hf, lim, ?_⟩
        refine ⟨_, rfl, _, rfl, _, rfl, by show 2 ≤ sizeLine; decide, fun m nm => ?_⟩
        have sm := same_upd (o := .lst [v1, v2]) nm
        have hE2 : EdsAt (upd (upd H2 l (.lst [w1, w2])) m (.lst [v1, v2])) m [e, f] := ⟨[v1, v2], upd_same, .cons (h1b.same sm) (.cons (h2b.same sm) .nil)⟩
        refine ⟨z, m, _, rfl, hE2, hf2, lim2, ?_⟩
        have es : appl (cs z) [p, p2] = appl (cs z) [e, f] := swap_same (g := cs) (fun _ => rfl) hd f1 f2
        rw [es]
        refine ⟨rfl, _, rfl, iteNS rfl ?_⟩
        -- tags == tags
        refine ⟨_, rfl, _, rfl, sz1 (by omega), _, rfl, z.length, l, _, rfl, hE.mono sm, fitsL_le hf, hS, by show 2 ≤ 400; decide, by omega, fun a1 H5 s5 ha1 => ?_⟩
        refine ⟨_, rfl, _, rfl, sz1 (by omega), _, rfl, _, rfl, by show 2 ≤ sizeLine; decide, fun m2 nm2 => ?_⟩
        have s6 := same_upd (o := .lst [v1, v2]) nm2
        have h1c := ((h1b.same sm).same s5).same s6
        have h2c := ((h2b.same sm).same s5).same s6
        have hE3 : EdsAt (upd H5 m2 (.lst [v1, v2])) m2 [e, f] := ⟨[v1, v2], upd_same, .cons h1c (.cons h2c .nil)⟩
        refine ⟨z.length, m2, _, rfl, hE3, fitsL_le hf2, hS2, by show 2 ≤ 400; decide, by omega, fun a2 H7 s7 ha2 => ?_⟩
        have et : applG tagW (upTo (z.length + 1)) [p, p2] = applG tagW (upTo (z.length + 1)) [e, f] := by
          have l3 : (upTo (z.length + 1)).length = (cs z).length + 1 := by rw [upTo_len, lz]
          refine swap_same (g := tagW) tagW_len hd ?_ ?_
          · rw [l3]
            exact ⟨f1.1, f1.2.1, by have := f1.2.2; omega⟩
          · rw [l3]
            refine ⟨f2.1, f2.2.1, ?_⟩
            have k3 := f2.2.2
            have k4 := f1.1
            have k5 := f1.2.1
            have k6 := f1.2.2
            unfold size1 at k3 ⊢
            omega
        rw [et] at ha1
        refine ⟨_, _, intL_dp (s7 _ _ (s6 _ _ ha1)), intL_dp ha2, intL_shaped _, intL_shaped _, ?_⟩
        rw [SeqAt.eqv_refl _ (intL_lay _)]
        exact q _ (s12.trans (sl.trans (sm.trans (s5.trans (s6.trans s7)))))
      · rw [hd] at hn
        cases hn
    · refine ⟨_, rfl, false, .inr (.inl ⟨_, SqT.of hdt, rfl⟩), iteT ?_⟩
      exact q _ s1

/-! ### every second edit -/
def spAll : Sp := fun vs H Q _ => ∃ (r : Addr), vs = [.ref r] ∧ ReelAt H r ∧ ∀ H', Q (.bl true) H'
theorem ok_all (T : Txt K mg) (G_swap : FnOk P w K mg base (L2.CX P w) 8 T.a_swap T.fd_swap ["first", "second"] (spSwap T.C_Entangled))
    (G_Entangled_init : FnOk P w K mg base CX0 4 T.a_Entangled_init T.fd_Entangled_init ["self", "first", "second"] (spInitN T.C_Entangled 2 okEds fsEnt)) :
    FnOk P w K mg base CX0 11 T.a_law_all_second_ones T.fd_law_all_second_ones ["reel"] spAll := by
  have G_law_draw : FnOk P w K mg base CX0 1 T.a_law_draw T.fd_law_draw ["reel", "size"] spDraw := ok_draw T
  have G_law_pick : FnOk P w K mg base CX0 2 T.a_law_pick T.fd_law_pick ["reel", "row"] (spPick K) := ok_pick T
  have G_law_word : FnOk P w K mg base CX0 3 T.a_law_word T.fd_law_word ["reel", "letters", "least", "most"] spWord := ok_word T
  have G_law_stepped : FnOk P w K mg base CX0 3 T.a_law_stepped T.fd_law_stepped ["reel", "size"] spStepped := ok_stepped T
  have G_law_splice : FnOk P w K mg base CX0 1 T.a_law_splice T.fd_law_splice ["text", "edits"] spSplice := ok_splice T
  have G_law_pair_ok : FnOk P w K mg base CX0 10 T.a_law_pair_ok T.fd_law_pair_ok ["first", "second"] spPairOk := ok_pair_ok T G_swap
  have G_law_made_ok : FnOk P w K mg base CX0 6 T.a_law_made_ok T.fd_law_made_ok ["first", "second"] spMade2 := ok_made_ok T G_Entangled_init
  have G_law_same_result : FnOk P w K mg base CX0 9 T.a_law_same_result T.fd_law_same_result ["text", "first", "second"] spResult := ok_same_result T G_swap
  refine T.F_law_all_second_ones.ok sc_law_all_second_ones (fun vs H Q E h => ?_) (fun cdv A outer s H vs Q E hr h => ?_)
  · obtain ⟨r, rfl, _⟩ := h
    rfl
  · have hr_law_draw : Room 1 _ := hr.mono (by decide)
    have hr_law_pick : Room 2 _ := hr.mono (by decide)
    have hr_law_word : Room 3 _ := hr.mono (by decide)
    have hr_law_stepped : Room 3 _ := hr.mono (by decide)
    have hr_law_splice : Room 1 _ := hr.mono (by decide)
    have hr_law_pair_ok : Room 10 _ := hr
    have hr_law_made_ok : Room 6 _ := hr.mono (by decide)
    have hr_law_same_result : Room 9 _ := hr.mono (by decide)
    obtain ⟨r, rfl, hR, q⟩ := h
    refine ⟨_, (pss_cons (ps_set (i := 1) sc_law_all_second_ones.nd rfl (.inl rfl) (pe_call G_law_stepped hr_law_stepped (by rfl) T.g_law_stepped T.F_law_stepped.kp T.b_law_stepped .nil pass0 (pa_cons (pv 0) (pa_cons (pe_call G_law_pick hr_law_pick (by rfl) T.g_law_pick T.F_law_pick.kp T.b_law_pick .nil pass0 (pa_cons (pv 0) (pa_cons (pe_lst (pa_cons pe_int (pa_cons pe_int (pa_cons pe_int (pa_cons pe_int (pa_cons pe_int (pa_cons pe_int (pa_cons pe_int pa_nil)))))))) pa_nil))) pa_nil))))
      (pss_cons (ps_set (i := 2) sc_law_all_second_ones.nd rfl (.inl rfl) (pe_call G_law_draw hr_law_draw (by rfl) T.g_law_draw T.F_law_draw.kp T.b_law_draw .nil pass0 (pa_cons (pv 0) (pa_cons (pe_op op_add (pe_callB call_len_str (by rfl) T.m_len PySem.boot_len (pa_cons (pv 1) pa_nil)) pe_int) pa_nil))))
      (pss_cons (ps_set (i := 3) sc_law_all_second_ones.nd rfl (.inl rfl) (pe_callB (call_min2 rfl) (by rfl) T.m_min (by decide +kernel) (pa_cons (pe_callB call_len_str (by rfl) T.m_len PySem.boot_len (pa_cons (pv 1) pa_nil)) (pa_cons (pe_op op_add (pv 2) (pe_call G_law_pick hr_law_pick (by rfl) T.g_law_pick T.F_law_pick.kp T.b_law_pick .nil pass0 (pa_cons (pv 0) (pa_cons (pe_lst (pa_cons pe_int (pa_cons pe_int (pa_cons pe_int (pa_cons pe_int (pa_cons pe_int (pa_cons pe_int pa_nil))))))) pa_nil)))) pa_nil))))
      (pss_cons (ps_set (i := 4) sc_law_all_second_ones.nd rfl (.inl rfl) (pe_tup (pa_cons (pv 2) (pa_cons (pv 3) (pa_cons (pe_call G_law_word hr_law_word (by rfl) T.g_law_word T.F_law_word.kp T.b_law_word .nil pass0 (pa_cons (pv 0) (pa_cons pe_str (pa_cons pe_int (pa_cons (pe_call G_law_pick hr_law_pick (by rfl) T.g_law_pick T.F_law_pick.kp T.b_law_pick .nil pass0 (pa_cons (pv 0) (pa_cons (pe_lst (pa_cons pe_int (pa_cons pe_int (pa_cons pe_int (pa_cons pe_int pa_nil))))) pa_nil))) pa_nil))))) pa_nil)))))
      (pss_cons (ps_set (i := 5) sc_law_all_second_ones.nd rfl (.inl rfl) (pe_lst (pa_cons pe_str (pa_cons (pe_call G_law_word hr_law_word (by rfl) T.g_law_word T.F_law_word.kp T.b_law_word .nil pass0 (pa_cons (pv 0) (pa_cons pe_str (pa_cons pe_int (pa_cons (pe_call G_law_pick hr_law_pick (by rfl) T.g_law_pick T.F_law_pick.kp T.b_law_pick .nil pass0 (pa_cons (pv 0) (pa_cons (pe_lst (pa_cons pe_int (pa_cons pe_int (pa_cons pe_int pa_nil)))) pa_nil))) pa_nil))))) pa_nil))))
      (pss_cons (ps_set (i := 6) sc_law_all_second_ones.nd rfl (.inl rfl) (pe_op op_add (pe_op op_add pe_int (pe_call G_law_draw hr_law_draw (by rfl) T.g_law_draw T.F_law_draw.kp T.b_law_draw .nil pass0 (pa_cons (pv 0) (pa_cons pe_int pa_nil)))) (pe_call G_law_draw hr_law_draw (by rfl) T.g_law_draw T.F_law_draw.kp T.b_law_draw .nil pass0 (pa_cons (pv 0) (pa_cons pe_int pa_nil)))))
      (pss_cons (ps_set (i := 7) sc_law_all_second_ones.nd rfl (.inl rfl) (pe_tup (pa_cons (pe_op op_add (pv 2) (pv 6)) (pa_cons (pe_op op_add (pv 3) (pv 6)) (pa_cons (pe_ix ix_tup (pv 4) pe_int (fun _ _ => rfl)) pa_nil)))))
      (pss_cons (ps_if (PW.pt (pw_or (pt_not (pt_val (pe_call G_law_made_ok hr_law_made_ok (by rfl) T.g_law_made_ok T.F_law_made_ok.kp T.b_law_made_ok .nil pass0 (pa_cons (pv 4) (pa_cons (pv 7) pa_nil))))) (pw_or1 (pt_not (pt_val (pe_call G_law_made_ok hr_law_made_ok (by rfl) T.g_law_made_ok T.F_law_made_ok.kp T.b_law_made_ok .nil pass0 (pa_cons (pv 7) (pa_cons (pv 4) pa_nil)))))))) (pss_one (ps_ret pe_bl)) pss_nil)
      (pss_cons (ps_set (i := 8) sc_law_all_second_ones.nd rfl (.inl rfl) (pe_callB call_len_str (by rfl) T.m_len PySem.boot_len (pa_cons (pe_call G_law_splice hr_law_splice (by rfl) T.g_law_splice T.F_law_splice.kp T.b_law_splice .nil pass0 (pa_cons (pv 1) (pa_cons (pe_lst (pa_cons (pv 4) pa_nil)) pa_nil))) pa_nil)))
      (pss_cons (ps_for PassesOwn.never rfl (pi_range1 (by rfl) T.m_range (pa_cons (pe_op op_add (pv 8) pe_int) pa_nil)) (pg_name (i := 9) sc_law_all_second_ones.nd rfl (.inl rfl)) (pss_one (ps_for PassesOwn.never rfl (pi_range2 (by rfl) T.m_range (pa_cons (pv 9) (pa_cons (pe_op op_add (pv 8) pe_int) pa_nil))) (pg_name (i := 10) sc_law_all_second_ones.nd rfl (.inl rfl)) (pss_one (ps_for PassesOwn.never rfl (pi_list (pv 5)) (pg_name (i := 11) sc_law_all_second_ones.nd rfl (.inl rfl)) (pss_cons (ps_set (i := 12) sc_law_all_second_ones.nd rfl (.inl rfl) (pe_tup (pa_cons (pv 9) (pa_cons (pv 10) (pa_cons (pv 11) pa_nil)))))
      (pss_cons (ps_if (PW.pt (pw_or (pt_not (pt_val (pe_call G_law_pair_ok hr_law_pair_ok (by rfl) T.g_law_pair_ok T.F_law_pair_ok.kp T.b_law_pair_ok .nil pass0 (pa_cons (pv 4) (pa_cons (pv 12) pa_nil))))) (pw_or1 (pt_not (pt_val (pe_call G_law_same_result hr_law_same_result (by rfl) T.g_law_same_result T.F_law_same_result.kp T.b_law_same_result .nil pass0 (pa_cons (pv 1) (pa_cons (pv 4) (pa_cons (pv 12) pa_nil))))))))) (pss_one (ps_ret pe_bl)) pss_nil)
      (pss_one (ps_if (pt_not (pt_val (pe_call G_law_pair_ok hr_law_pair_ok (by rfl) T.g_law_pair_ok T.F_law_pair_ok.kp T.b_law_pair_ok .nil pass0 (pa_cons (pv 7) (pa_cons (pe_tup (pa_cons (pe_op op_add (pv 9) (pv 6)) (pa_cons (pe_op op_add (pv 10) (pv 6)) (pa_cons (pv 11) pa_nil)))) pa_nil))))) (pss_one (ps_ret pe_bl)) pss_nil)))))))))
      (pss_one (ps_ret pe_bl)))))))))))), ?_⟩
    -- text
    refine ⟨_, rfl, _, rfl, by show 7 ≤ sizeLine; decide, fun p np => ?_⟩
    refine ⟨r, _, rfl, hR.new np, .inr ⟨p, _, rfl, (hR.ne np).symm, SqL.of upd_same, by show 0 < 7; decide, fun v H1 hv b1 hR1 => ?_⟩⟩
    obtain ⟨n, rfl, n0, n1⟩ := intsIn_mem (lo := 0) (hi := 8) (by decide +kernel) v hv
    refine ⟨r, n, rfl, hR1, n0, by omega, fun z H2 hz hzo b2 hR2 => ?_⟩
    have lz := len_cs z
    -- start
    refine ⟨_, rfl, _, rfl, _, rfl, sz1 (by omega), _, 1, rfl, rfl, r, _, rfl, hR2, by omega, fun st H3 st0 st1 b3 hR3 => ?_⟩
    -- end
    refine ⟨_, rfl, _, rfl, sz1 (by omega), _, rfl, _, rfl, by show 6 ≤ sizeLine; decide, fun p2 np2 => ?_⟩
    refine ⟨r, _, rfl, hR3.new np2, .inr ⟨p2, _, rfl, (hR3.ne np2).symm, SqL.of upd_same, by show 0 < 6; decide, fun v H4 hv b4 hR4 => ?_⟩⟩
    obtain ⟨m, rfl, m0, m1⟩ := intsIn_mem (lo := 0) (hi := 8) (by decide +kernel) v hv
    refine ⟨_, _, rfl, rfl, _, _, rfl, ?_⟩
    obtain ⟨en, hen⟩ : ∃ en : Int, en = (if st + m < (z.length : Int) then st + m else (z.length : Int)) := ⟨_, rfl⟩
    rw [← hen]
    have en0 : st ≤ en := by
      rw [hen]
      split <;> omega
    have en1 : en ≤ (z.length : Int) := by
      rw [hen]
      split <;> omega
    -- first
    refine ⟨_, rfl, _, rfl, _, rfl, _, rfl, by show 4 ≤ sizeLine; decide, fun p3 np3 => ?_⟩
    refine ⟨r, _, rfl, hR4.new np3, .inr ⟨p3, _, rfl, (hR4.ne np3).symm, SqL.of upd_same, by show 0 < 4; decide, fun v H5 hv b5 hR5 => ?_⟩⟩
    obtain ⟨g, rfl, g0, g1⟩ := intsIn_mem (lo := 0) (hi := 4) (by decide +kernel) v hv
    refine ⟨r, "xyab", 0, g, rfl, hR5, by decide +kernel, by decide +kernel, by decide, by omega, by omega, fun w1 H6 hw1 hw2 hwm b6 hR6 => ?_⟩
    refine ⟨by show 3 ≤ sizeLine; decide, fun t1 nt1 => ?_⟩
    have ho1 : TOk w1 := fun c hc => tok_of (x := "xyab") (by decide +kernel) c (hwm c hc)
    obtain ⟨ta1, hta1⟩ : ∃ H', H' = upd H6 t1 (.tup [.int st, .int en, .str w1]) := ⟨_, rfl⟩
    rw [← hta1]
    have hE1 : EdAt ta1 (.ref t1) (st, en, w1) := ⟨t1, rfl, by rw [hta1, upd_same]⟩
    have hR7a : ReelAt ta1 r := by rw [hta1]; exact hR6.new nt1
    clear hta1
    -- words
    refine ⟨_, rfl, _, rfl, by show 3 ≤ sizeLine; decide, fun p4 np4 => ?_⟩
    refine ⟨r, _, rfl, hR7a.new np4, .inr ⟨p4, _, rfl, (hR7a.ne np4).symm, SqL.of upd_same, by show 0 < 3; decide, fun v H7 hv b7 hR7 => ?_⟩⟩
    obtain ⟨g2, rfl, g20, g21⟩ := intsIn_mem (lo := 1) (hi := 3) (by decide +kernel) v hv
    refine ⟨r, "ab~\n", 0, g2, rfl, hR7, by decide +kernel, by decide +kernel, by decide, by omega, by omega, fun w2 H8 hw3 hw4 hwn b8 hR8 => ?_⟩
    have ho2 : TOk w2 := fun c hc => tok_of (x := "ab~\n") (by decide +kernel) c (hwn c hc)
    refine ⟨by show 2 ≤ sizeLine; decide, fun ws nws => ?_⟩
    have hE8 : EdAt H8 (.ref t1) (st, en, w1) := ((hE1.mono ((Tups.new np4))).mono (b7.tups (hR7a.new np4))).mono (b8.tups hR7)
    obtain ⟨H9, h9⟩ : ∃ H', H' = upd H8 ws (.lst [.str "", .str w2]) := ⟨_, rfl⟩
    have s9 : Same H8 H9 := by rw [h9]; exact same_upd nws
    have hws : H9 ws = some (.lst [.str "", .str w2]) := by rw [h9]; exact upd_same
    have hR9 : ReelAt H9 r := by rw [h9]; exact hR8.new nws
    have nwr : ws ≠ r := (hR8.ne nws).symm
    have hE9 := hE8.same s9
    have s9s : ReelAt H8 r := hR8
    rw [← h9]
    clear h9
    -- far
    refine ⟨_, rfl, r, 1009, rfl, hR9, by decide, fun fa H10 fa0 fa1 b10 hR10 => ?_⟩
    refine ⟨1, fa, rfl, rfl, ?_⟩
    refine ⟨_, rfl, r, 891, rfl, hR10, by decide, fun fb H11 fb0 fb1 b11 hR11 => ?_⟩
    refine ⟨_, fb, rfl, rfl, ?_⟩
    have hE11 : EdAt H11 (.ref t1) (st, en, w1) := (hE9.mono (b10.tups hR9)).mono (b11.tups hR10)
    have hws11 : H11 ws = some (.lst [.str "", .str w2]) := b11 _ _ nwr (b10 _ _ nwr hws)
    obtain ⟨u1, eu1, ht1⟩ := id hE11
    have eu1' : t1 = u1 := V.ref.inj eu1
    subst eu1'
    -- first_far
    refine ⟨_, rfl, _, rfl, _, _, rfl, rfl, _, rfl, _, rfl, _, _, rfl, rfl, _, rfl, t1, _, 2, _, rfl, rfl, SqT.of ht1, atI_nat (j := 2) rfl, by show 3 ≤ sizeLine; decide, fun t2 nt2 => ?_⟩
    have hE12 := hE11.same (same_upd (o := .tup [.int (st + (1 + fa + fb)), .int (en + (1 + fa + fb)), .str w1]) nt2)
    have hF12 : EdAt (upd H11 t2 (.tup [.int (st + (1 + fa + fb)), .int (en + (1 + fa + fb)), .str w1])) (.ref t2) (st + (1 + fa + fb), en + (1 + fa + fb), w1) := ⟨t2, rfl, upd_same⟩
    have s12 := (same_upd (o := .tup [.int (st + (1 + fa + fb)), .int (en + (1 + fa + fb)), .str w1]) nt2)
    have o1 : EdOk (st, en, w1) := ⟨by show (cs w1).length ≤ 2000; omega, ho1, by show 0 ≤ st; omega, by show st ≤ 1000000; omega, by show 0 ≤ en; omega, by show en ≤ 1000000; omega⟩
    have o2 : EdOk (st + (1 + fa + fb), en + (1 + fa + fb), w1) := ⟨by show (cs w1).length ≤ 2000; omega, ho1, by show 0 ≤ st + (1 + fa + fb); omega, by show st + (1 + fa + fb) ≤ 1000000; omega, by show 0 ≤ en + (1 + fa + fb); omega, by show en + (1 + fa + fb) ≤ 1000000; omega⟩
    -- made
    refine ⟨_, rfl, _, rfl, _, _, _, _, rfl, hE12, hF12, o1, o2, fun H13 s13 => ⟨true, rfl, iteF ?_⟩⟩
    refine ⟨_, rfl, _, rfl, _, _, _, _, rfl, hF12.same s13, hE12.same s13, o2, o1, fun H14 s14 => ⟨true, rfl, iteF ?_⟩⟩
    have sH := s13.trans s14
    have hE14 := hE12.same sH
    have hF14 := hF12.same sH
    have hws14 := sH _ _ (s12 _ _ hws11)
    -- size
    refine ⟨_, rfl, _, rfl, by show 1 ≤ sizeLine; decide, fun l nl => ?_⟩
    have sl := same_upd (o := .lst [.ref t1]) nl
    have f1 : fit1 (cs z).length (st, en, w1) := ⟨st0, en0, by show en ≤ ((cs z).length : Int); omega⟩
    have hEl : EdsAt (upd H14 l (.lst [.ref t1])) l [(st, en, w1)] := ⟨[.ref t1], upd_same, .cons (hE14.same sl) .nil⟩
    have hSl : Short [(st, en, w1)] := fun x hx => by
      rw [List.mem_singleton.mp hx]
      exact ⟨o1.1, ho1⟩
    have hfl : fitsL (cs z).length [(st, en, w1)] := ⟨f1, True.intro⟩
    refine ⟨z, l, _, rfl, hEl, hfl, (short_lim2 (t := cs z) hSl (by omega) (by show 1 ≤ 1500; decide)).lim hfl, ?_⟩
    have esz : (cs (⟨(appl (cs z) [(st, en, w1)]).toArray⟩ : Str)).length = size1 (cs z).length (st, en, w1) := by
      show (appl (cs z) [(st, en, w1)]).length = _
      exact spl1_len f1
    have esz2 : (⟨(appl (cs z) [(st, en, w1)]).toArray⟩ : Str).length = size1 (cs z).length (st, en, w1) := by rw [len_cs]; exact esz
    have bsz : size1 (cs z).length (st, en, w1) ≤ 100 := by
      unfold size1 Ed.len
      show (cs z).length - (en.toNat - st.toNat) + (cs w1).length ≤ 100
      omega
    refine ⟨_, rfl, sz1 (by omega), ?_⟩
    rw [esz2]
    obtain ⟨N, hN⟩ : ∃ N, N = size1 (cs z).length (st, en, w1) := ⟨_, rfl⟩
    rw [← hN] at bsz ⊢
    obtain ⟨Hb, hb⟩ : ∃ Hb, Hb = upd H14 l (.lst [.ref t1]) := ⟨_, rfl⟩
    have hEb : EdAt Hb (.ref t1) (st, en, w1) := by rw [hb]; exact hE14.same sl
    have hFb : EdAt Hb (.ref t2) (st + (1 + fa + fb), en + (1 + fa + fb), w1) := by rw [hb]; exact hF14.same sl
    have hwb : Hb ws = some (.lst [.str "", .str w2]) := by rw [hb]; exact sl _ _ hws14
    rw [← hb]
    refine ⟨_, rfl, _, 1, rfl, rfl, _, rfl, by omega, by omega, ?_⟩
    refine for_range (lo := 0) (n := ((N : Int) + 1).toNat) (fun i σ H' => Same Hb H' ∧ ∃ y9 y10 y11 y12 : Option V, σ = [some (.ref r), some (.str z), some (.int st), some (.int en), some (.ref t1), some (.ref ws), some (.int (1 + fa + fb)), some (.ref t2), some (.int (N : Int)), y9, y10, y11, y12]) ⟨Same.refl _, none, none, none, none, rfl⟩ ?_ ?_
    · rintro i σ Ha hi ⟨sa, y9, y10, y11, y12, rfl⟩
      have ei : (0 : Int) + (i : Int) = (i : Int) := by omega
      rw [ei]
      refine ⟨_, rfl, _, rfl, _, 1, rfl, rfl, _, _, rfl, ⟨by omega, by omega, by omega, by omega⟩, ?_⟩
      refine for_range (lo := (i : Int)) (n := ((N : Int) + 1 - (i : Int)).toNat) (fun j σ H' => Same Hb H' ∧ ∃ y10 y11 y12 : Option V, σ = [some (.ref r), some (.str z), some (.int st), some (.int en), some (.ref t1), some (.ref ws), some (.int (1 + fa + fb)), some (.ref t2), some (.int (N : Int)), some (.int (i : Int)), y10, y11, y12]) ⟨sa, y10, y11, y12, rfl⟩ ?_ (fun σ H' ⟨s, a, b, c, e⟩ => ⟨s, _, a, b, c, e⟩)
      rintro j σ Hc hj ⟨sc, y10, y11, y12, rfl⟩
      obtain ⟨k, hk⟩ : ∃ k : Nat, (i : Int) + (j : Int) = (k : Int) := ⟨i + j, by omega⟩
      rw [hk]
      refine ⟨_, rfl, ws, rfl, ⟨_, SqL.of (sc _ _ hwb)⟩, ?_⟩
      refine for_list (K := K) (a := ws) (xs := [.str "", .str w2]) (fun _ σ H' => Same Hb H' ∧ ∃ y11 y12 : Option V, σ = [some (.ref r), some (.str z), some (.int st), some (.int en), some (.ref t1), some (.ref ws), some (.int (1 + fa + fb)), some (.ref t2), some (.int (N : Int)), some (.int (i : Int)), some (.int (k : Int)), y11, y12]) ⟨sc, y11, y12, rfl⟩ (fun _ σ H' _ ⟨s, _⟩ => SqL.of (s _ _ hwb)) ?_ (fun σ H' ⟨s, a, b, e⟩ => ⟨s, _, a, b, e⟩)
      rintro x v σ Hd hx ⟨sd, y11, y12, rfl⟩
      obtain ⟨u, rfl, hu, huo⟩ : ∃ u : Str, v = .str u ∧ (cs u).length ≤ 3 ∧ TOk u := by
        have hm := List.mem_of_getElem? hx
        simp only [List.mem_cons, List.not_mem_nil, or_false] at hm
        rcases hm with h | h
        · exact ⟨_, h, by decide +kernel, tok_of (by decide +kernel)⟩
        · exact ⟨_, h, by omega, ho2⟩
      have hki : i ≤ k := by omega
      have hkN : k ≤ N := by omega
      -- second
      refine ⟨_, rfl, _, rfl, _, rfl, by show 3 ≤ sizeLine; decide, fun t3 nt3 => ?_⟩
      have s3 := same_upd (o := .tup [.int (i : Int), .int (k : Int), .str u]) nt3
      have hS3 : EdAt (upd Hd t3 (.tup [.int (i : Int), .int (k : Int), .str u])) (.ref t3) ((i : Int), (k : Int), u) := ⟨t3, rfl, upd_same⟩
      have o3 : EdOk ((i : Int), (k : Int), u) := ⟨by show (cs u).length ≤ 2000; omega, huo, by show 0 ≤ (i : Int); omega, by show (i : Int) ≤ 1000000; omega, by show 0 ≤ (k : Int); omega, by show (k : Int) ≤ 1000000; omega⟩
      have hE3 := (hEb.same sd).same s3
      refine ⟨_, rfl, _, rfl, _, _, _, _, rfl, hE3, hS3, o1, o3, fun He se => ⟨true, rfl, iteF ?_⟩⟩
      refine ⟨_, rfl, _, rfl, _, rfl, z, _, _, _, _, rfl, hE3.same se, hS3.same se, o1, o3, f1, ⟨by show 0 ≤ (i : Int); omega, by show (i : Int) ≤ (k : Int); omega, by rw [← hN]; show (k : Int) ≤ (N : Int); omega⟩, by omega, fun Hf sf => ⟨true, rfl, iteF ?_⟩⟩
      -- far
      have sdf := sd.trans (s3.trans (se.trans sf))
      refine ⟨_, rfl, _, rfl, _, rfl, _, _, rfl, rfl, _, rfl, _, rfl, _, _, rfl, rfl, _, rfl, by show 3 ≤ sizeLine; decide, fun t4 nt4 => ?_⟩
      have s4 := same_upd (o := .tup [.int ((i : Int) + (1 + fa + fb)), .int ((k : Int) + (1 + fa + fb)), .str u]) nt4
      have hS4 : EdAt (upd Hf t4 (.tup [.int ((i : Int) + (1 + fa + fb)), .int ((k : Int) + (1 + fa + fb)), .str u])) (.ref t4) ((i : Int) + (1 + fa + fb), (k : Int) + (1 + fa + fb), u) := ⟨t4, rfl, upd_same⟩
      have o4 : EdOk ((i : Int) + (1 + fa + fb), (k : Int) + (1 + fa + fb), u) := ⟨by show (cs u).length ≤ 2000; omega, huo, by show 0 ≤ (i : Int) + (1 + fa + fb); omega, by show (i : Int) + (1 + fa + fb) ≤ 1000000; omega, by show 0 ≤ (k : Int) + (1 + fa + fb); omega, by show (k : Int) + (1 + fa + fb) ≤ 1000000; omega⟩
      refine ⟨_, _, _, _, rfl, (hFb.same sdf).same s4, hS4, o2, o4, fun Hg sg => ⟨true, rfl, iteF ?_⟩⟩
      exact ⟨sdf.trans (s4.trans sg), _, _, rfl⟩
    · rintro σ H' ⟨_, y9, y10, y11, y12, rfl⟩
      exact q _

/-! ### the law -/
def spLaw (K : PySem.W.Frag) : Sp := fun vs H Q _ => ∃ (scr : Addr) (row : List Int), vs = [.ref scr] ∧ SqL K H scr (row.map V.int) ∧ row.length ≤ 63 ∧ ∀ H', Q (.bl true) H'
theorem two_of {us : List V} {es : List Ed} {H : Hp} (h : EdsIn H us es) (n : es.length = 2) : ∃ v1 v2 e f, us = [v1, v2] ∧ es = [e, f] ∧ EdAt H v1 e ∧ EdAt H v2 f := by
  cases h with
  | nil => cases n
  | cons a b =>
    cases b with
    | nil => cases n
    | cons b c =>
      cases c with
      | nil => exact ⟨_, _, _, _, rfl, rfl, a, b⟩
      | cons _ _ =>
        rw [List.length_cons, List.length_cons, List.length_cons] at n
        omega
theorem reel_same {H H' : Hp} {r : Addr} (h : ReelAt H r) (s : Same H H') : ReelAt H' r := by
  obtain ⟨x, y, h1, h2⟩ := h
  exact ⟨x, y, s _ _ h1, h2⟩
theorem ok_law (T : Txt K mg) (G_swap : FnOk P w K mg base (L2.CX P w) 8 T.a_swap T.fd_swap ["first", "second"] (spSwap T.C_Entangled))
    (G_Entangled_init : FnOk P w K mg base CX0 4 T.a_Entangled_init T.fd_Entangled_init ["self", "first", "second"] (spInitN T.C_Entangled 2 okEds fsEnt)) :
    FnOk P w K mg base CX0 12 T.a_law T.fd_law ["script"] (spLaw K) := by
  have G_law_reel : FnOk P w K mg base CX0 1 T.a_law_reel T.fd_law_reel ["script"] (spReel K) := ok_reel T
  have G_law_draw : FnOk P w K mg base CX0 1 T.a_law_draw T.fd_law_draw ["reel", "size"] spDraw := ok_draw T
  have G_law_text : FnOk P w K mg base CX0 4 T.a_law_text T.fd_law_text ["reel"] (spText 2000) := ok_text T
  have G_law_edit_row : FnOk P w K mg base CX0 5 T.a_law_edit_row T.fd_law_edit_row ["reel", "text", "count"] spRow := ok_edit_row T
  have G_law_pair_ok : FnOk P w K mg base CX0 10 T.a_law_pair_ok T.fd_law_pair_ok ["first", "second"] spPairOk := ok_pair_ok T G_swap
  have G_law_made_ok : FnOk P w K mg base CX0 6 T.a_law_made_ok T.fd_law_made_ok ["first", "second"] spMade2 := ok_made_ok T G_Entangled_init
  have G_law_same_result : FnOk P w K mg base CX0 9 T.a_law_same_result T.fd_law_same_result ["text", "first", "second"] spResult := ok_same_result T G_swap
  have G_law_all_second_ones : FnOk P w K mg base CX0 11 T.a_law_all_second_ones T.fd_law_all_second_ones ["reel"] spAll := ok_all T G_swap G_Entangled_init
  refine T.F_law.ok sc_law (fun vs H Q E h => ?_) (fun cdv A outer s H vs Q E hr h => ?_)
  · obtain ⟨a, ns, rfl, _⟩ := h
    rfl
  · have hr_law_reel : Room 1 _ := hr.mono (by decide)
    have hr_law_draw : Room 1 _ := hr.mono (by decide)
    have hr_law_text : Room 4 _ := hr.mono (by decide)
    have hr_law_edit_row : Room 5 _ := hr.mono (by decide)
    have hr_law_pair_ok : Room 10 _ := hr.mono (by decide)
    have hr_law_made_ok : Room 6 _ := hr.mono (by decide)
    have hr_law_same_result : Room 9 _ := hr.mono (by decide)
    have hr_law_all_second_ones : Room 11 _ := hr
    obtain ⟨a, ns, rfl, hA, hns, q⟩ := h
    refine ⟨_, (pss_cons (ps_set (i := 1) sc_law.nd rfl (.inl rfl) (pe_call G_law_reel hr_law_reel (by rfl) T.g_law_reel T.F_law_reel.kp T.b_law_reel .nil pass0 (pa_cons (pv 0) pa_nil)))
      (pss_cons (ps_if (pt_cmpR op_gt (pe_call G_law_draw hr_law_draw (by rfl) T.g_law_draw T.F_law_draw.kp T.b_law_draw .nil pass0 (pa_cons (pv 1) (pa_cons pe_int pa_nil))) pe_int (nomark _)) (pss_one (ps_ret (pe_call G_law_all_second_ones hr_law_all_second_ones (by rfl) T.g_law_all_second_ones T.F_law_all_second_ones.kp T.b_law_all_second_ones .nil pass0 (pa_cons (pv 1) pa_nil)))) pss_nil)
      (pss_cons (ps_set (i := 2) sc_law.nd rfl (.inl rfl) (pe_call G_law_text hr_law_text (by rfl) T.g_law_text T.F_law_text.kp T.b_law_text .nil pass0 (pa_cons (pv 1) pa_nil)))
      (pss_cons (ps_for PassesOwn.never rfl (pi_range1 (by rfl) T.m_range (pa_cons pe_int pa_nil)) (pg_name (i := 3) sc_law.nd rfl (.inl rfl)) (pss_cons (ps_set (i := 4) sc_law.nd rfl (.inl rfl) (pe_call G_law_edit_row hr_law_edit_row (by rfl) T.g_law_edit_row T.F_law_edit_row.kp T.b_law_edit_row .nil pass0 (pa_cons (pv 1) (pa_cons (pv 2) (pa_cons pe_int pa_nil)))))
      (pss_cons (ps_if (PW.pt (pw_or (pt_not (pt_val (pe_call G_law_pair_ok hr_law_pair_ok (by rfl) T.g_law_pair_ok T.F_law_pair_ok.kp T.b_law_pair_ok .nil pass0 (pa_cons (pe_ix ix_list (pv 4) pe_int (fun _ _ => rfl)) (pa_cons (pe_ix ix_list (pv 4) pe_int (fun _ _ => rfl)) pa_nil))))) (pw_or1 (pt_not (pt_val (pe_call G_law_same_result hr_law_same_result (by rfl) T.g_law_same_result T.F_law_same_result.kp T.b_law_same_result .nil pass0 (pa_cons (pv 2) (pa_cons (pe_ix ix_list (pv 4) pe_int (fun _ _ => rfl)) (pa_cons (pe_ix ix_list (pv 4) pe_int (fun _ _ => rfl)) pa_nil))))))))) (pss_one (ps_ret pe_bl)) pss_nil)
      (pss_one (ps_if (pt_not (pt_val (pe_call G_law_made_ok hr_law_made_ok (by rfl) T.g_law_made_ok T.F_law_made_ok.kp T.b_law_made_ok .nil pass0 (pa_cons (pe_ix ix_list (pv 4) pe_int (fun _ _ => rfl)) (pa_cons (pe_ix ix_list (pv 4) pe_int (fun _ _ => rfl)) pa_nil))))) (pss_one (ps_ret pe_bl)) pss_nil)))))
      (pss_one (ps_ret pe_bl)))))), ?_⟩
    refine ⟨_, rfl, a, ns, rfl, hA, fun H1 r s1 nr hR1 => ?_⟩
    refine ⟨_, rfl, r, 4, rfl, hR1, by decide, fun d H2 d0 d1 b2 hR2 => ?_⟩
    refine ⟨_, 0, rfl, rfl, _, rfl, ite2 (fun e => ?_) (fun e => ?_)⟩
    · exact ⟨_, rfl, r, rfl, hR2, fun H' => q H'⟩
    · refine ⟨_, rfl, r, rfl, hR2, fun z H3 hz hzo b3 hR3 => ?_⟩
      have lz := len_cs z
      refine ⟨_, rfl, by decide, by decide, ?_⟩
      refine for_range (lo := 0) (n := (8 : Int).toNat) (fun i σ H' => ReelAt H' r ∧ ∃ y3 y4 : Option V, σ = [some (.ref a), some (.ref r), some (.str z), y3, y4]) ⟨hR3, none, none, rfl⟩ ?_ ?_
      · rintro i σ H4 hi ⟨hR4, y3, y4, rfl⟩
        refine ⟨_, rfl, _, rfl, r, z, 2, rfl, hR4, hz, hzo, by decide, by decide, fun l H5 us es nl hus hue hlen hbd hfit b5 hR5 => ?_⟩
        obtain ⟨v1, v2, e, f, rfl, rfl, h1, h2⟩ := two_of hue (by omega)
        obtain ⟨f1, f2, _⟩ := id hfit
        have be := hbd e List.mem_cons_self
        have bf := hbd f (List.mem_cons_of_mem _ List.mem_cons_self)
        have fe := f1.2.2
        have ff := f2.2.2
        have sz : size1 (cs z).length e ≤ 4000 := by
          have := be.2.2.1
          unfold size1 Ed.len
          omega
        have o1 : EdOk e := ⟨be.2.2.1, be.2.2.2, be.1, by have := be.2.1; omega, by have := be.1; have := be.2.1; omega, by omega⟩
        have o2 : EdOk f := ⟨bf.2.2.1, bf.2.2.2, bf.1, by have := bf.2.1; omega, by have := bf.1; have := bf.2.1; omega, by omega⟩
        refine ⟨_, rfl, l, _, 0, v1, rfl, rfl, SqL.of hus, atI_nat (j := 0) rfl, _, rfl, l, _, 1, v2, rfl, rfl, SqL.of hus, atI_nat (j := 1) rfl, v1, v2, e, f, rfl, h1, h2, o1, o2, fun H6 s6 => ⟨true, rfl, iteF ?_⟩⟩
        have hus6 := s6 _ _ hus
        refine ⟨_, rfl, _, rfl, l, _, 0, v1, rfl, rfl, SqL.of hus6, atI_nat (j := 0) rfl, _, rfl, l, _, 1, v2, rfl, rfl, SqL.of hus6, atI_nat (j := 1) rfl, z, v1, v2, e, f, rfl, h1.same s6, h2.same s6, o1, o2, f1, f2, by omega, fun H7 s7 => ⟨true, rfl, iteF ?_⟩⟩
        have hus7 := s7 _ _ hus6
        have s67 := s6.trans s7
        refine ⟨_, rfl, l, _, 0, v1, rfl, rfl, SqL.of hus7, atI_nat (j := 0) rfl, _, rfl, l, _, 1, v2, rfl, rfl, SqL.of hus7, atI_nat (j := 1) rfl, v1, v2, e, f, rfl, h1.same s67, h2.same s67, o1, o2, fun H8 s8 => ⟨true, rfl, iteF ?_⟩⟩
        exact ⟨reel_same hR5 (s67.trans s8), _, _, rfl⟩
      · rintro σ H' ⟨_, y3, y4, rfl⟩
        exact q _

/-! ### the error's making -/
theorem log_small {i : Int} (h0 : 0 ≤ i) (h : i ≤ 1000000) : i.natAbs.log2 < 1920 := by
  have h1 : i.natAbs ≤ 1000000 := by omega
  have h2 : i.natAbs < 2 ^ 1920 := Nat.lt_of_le_of_lt h1 (by decide +kernel)
  by_cases hz : i.natAbs = 0
  · rw [hz]
    decide +kernel
  · exact (Nat.log2_lt hz).mpr h2
theorem ok_Entangled_init (T : Txt K mg) : FnOk P w K mg base CX0 4 T.a_Entangled_init T.fd_Entangled_init ["self", "first", "second"] (spInitN T.C_Entangled 2 okEds fsEnt) := by
  refine T.F_Entangled_init.ok sc_Entangled_init (fun vs H Q E h => ?_) (fun cdv A outer s H vs Q E hr h => ?_)
  · obtain ⟨a, ws, rfl, n, _⟩ := h
    show ws.length + 1 = 3
    rw [n]
  · obtain ⟨a, ws, rfl, n, ⟨v1, v2, e, f, rfl, h1, h2, o1, o2⟩, ha, q⟩ := h
    obtain ⟨t1, rfl, ht1⟩ := id h1
    obtain ⟨t2, rfl, ht2⟩ := id h2
    refine ⟨_, (pss_cons (ps_expr (pe_baseInit (by rfl) T.G_MendedError T.B_MendedError (pa_cons (pv 0) (pa_cons (pe_joined (.cons (pe_fmtS hr (pv 1)) (.cons pe_str (.cons (pe_fmtS hr (pv 2)) (.cons pe_str .nil))))) pa_nil))))
      (pss_cons (ps_ost (pv 0) (pv 1))
      (pss_one (ps_ost (pv 0) (pv 2))))), ?_⟩
    have l1 : e.2.2.length ≤ 2000 := by rw [len_cs]; exact o1.1
    have l2 : f.2.2.length ≤ 2000 := by rw [len_cs]; exact o2.1
    have ed_sok : ∀ {e : Ed}, EdOk e → ∀ v ∈ [V.int e.1, V.int e.2.1, V.str e.2.2], sOk v := fun {e} o v hv => by
      simp only [List.mem_cons, List.not_mem_nil, or_false] at hv
      rcases hv with h | h | h
      · rw [h]
        exact log_small o.2.2.1 o.2.2.2.1
      · rw [h]
        exact log_small o.2.2.2.2.1 o.2.2.2.2.2
      · rw [h]
        exact fun c hc => Nat.lt_of_lt_of_le (o.2.1 c hc) (by decide)
    have ed_cost : ∀ e : Ed, sCosts [V.int e.1, V.int e.2.1, V.str e.2.2] = 3854 + 10 * e.2.2.length := fun e => by
      rw [sCosts_cons, sCosts_cons, sCosts_cons]
      show 1925 + (1925 + ((10 * e.2.2.length + 4) + 0)) = _
      omega
    have big : sizeLine = 2 ^ 24 := rfl
    refine ⟨_, rfl, _, rfl, t1, _, rfl, SqT.of ht1, ed_sok o1, by rw [ed_cost, big]; omega, fun m hm => ⟨m, rfl, ?_, ?_⟩⟩
    · rw [strLen_append, big]
      rw [ed_cost] at hm
      show 0 + m.length ≤ _
      omega
    rw [ed_cost] at hm
    refine ⟨_, rfl, ?_, _, rfl, t2, _, rfl, SqT.of ht2, ed_sok o2, by rw [ed_cost, big]; omega, fun m2 hm2 => ⟨m2, rfl, ?_, _, rfl, ?_, ?_⟩⟩
    · rw [strLen_append, strLen_append, big]
      show 0 + m.length + 5 ≤ _
      omega
    · rw [ed_cost] at hm2
      rw [strLen_append, strLen_append, strLen_append, big]
      show 0 + m.length + 5 + m2.length ≤ _
      omega
    · rw [ed_cost] at hm2
      rw [strLen_append, strLen_append, strLen_append, strLen_append, big]
      show 0 + m.length + 5 + m2.length + 20 ≤ _
      omega
    refine ⟨a, _, _, rfl, by show 1 ≤ 1000; decide, T.E_Entangled.oex, ha, ?_⟩
    refine ⟨_, rfl, _, rfl, a, _, rfl, T.E_Entangled.oex, T.n_Entangled_first, .inl ⟨ha, fun dx nd hne => ?_⟩⟩
    have hd : (upd (upd H dx (exd dx [(("first" : Str), .ref t1)])) a (exo a T.C_Entangled (some dx))) dx = some (exd dx [(("first" : Str), .ref t1)]) := by rw [upd_ne hne, upd_same]
    refine ⟨_, rfl, _, rfl, a, _, rfl, T.E_Entangled.oex, T.n_Entangled_second, .inr ⟨dx, _, upd_same, hd, by show 1 ≤ 900; decide, ?_⟩⟩
    refine q dx _ nd hne ?_ upd_same fun b h1 h2 => ?_
    · rw [upd_ne hne.symm, upd_same]
    · rw [upd_ne h2, upd_ne h1, upd_ne h2]
/-! ### swap -/
theorem ok_swap (T : Txt K mg) : FnOk P w K mg base (L2.CX P w) 8 T.a_swap T.fd_swap ["first", "second"] (spSwap T.C_Entangled) := by
  have G_Entangled_init : FnOk P w K mg base CX0 4 T.a_Entangled_init T.fd_Entangled_init ["self", "first", "second"] (spInitN T.C_Entangled 2 okEds fsEnt) := ok_Entangled_init T
  refine T.F_swap.okX sc_swap (fun vs H Q E h => ?_) (fun cdv A outer s H vs Q E hr h => ?_)
  · obtain ⟨v1, v2, e, f, rfl, _⟩ := h
    rfl
  · have hr_Entangled_init : Room 5 _ := hr.mono (by decide)
    obtain ⟨v1, v2, e, f, rfl, h1, h2, o1, o2, q1, q2⟩ := h
    refine ⟨_, (pss_cons (ps_asg (pv 0) (pg_tup (by rfl) (pgs_cons (pg_name (i := 2) sc_swap.nd rfl (.inl rfl)) (pgs_cons (pg_name (i := 3) sc_swap.nd rfl (.inl rfl)) (pgs_cons (pg_name (i := 4) sc_swap.nd rfl (.inl rfl)) pgs_nil)))))
      (pss_cons (ps_asg (pv 1) (pg_tup (by rfl) (pgs_cons (pg_name (i := 5) sc_swap.nd rfl (.inl rfl)) (pgs_cons (pg_name (i := 6) sc_swap.nd rfl (.inl rfl)) (pgs_cons (pg_name (i := 7) sc_swap.nd rfl (.inl rfl)) pgs_nil)))))
      (pss_cons (ps_if (pt_cmpR op_le (pv 6) (pv 2) (nomark _)) (pss_cons (ps_set (i := 8) sc_swap.nd rfl (.inl rfl) (pe_op op_sub (pe_callB call_len_str (by rfl) T.m_len PySem.boot_len (pa_cons (pv 7) pa_nil)) (pe_op op_sub (pv 6) (pv 5))))
      (pss_one (ps_ret (pe_tup (pa_cons (pv 1) (pa_cons (pe_tup (pa_cons (pe_op op_add (pv 2) (pv 8)) (pa_cons (pe_op op_add (pv 3) (pv 8)) (pa_cons (pv 4) pa_nil)))) pa_nil)))))) pss_nil)
      (pss_cons (ps_if (pt_cmpR op_ge (pv 5) (pe_op op_add (pv 2) (pe_callB call_len_str (by rfl) T.m_len PySem.boot_len (pa_cons (pv 4) pa_nil))) (nomark _)) (pss_cons (ps_set (i := 8) sc_swap.nd rfl (.inl rfl) (pe_op op_sub (pe_op op_sub (pv 3) (pv 2)) (pe_callB call_len_str (by rfl) T.m_len PySem.boot_len (pa_cons (pv 4) pa_nil))))
      (pss_one (ps_ret (pe_tup (pa_cons (pe_tup (pa_cons (pe_op op_add (pv 5) (pv 8)) (pa_cons (pe_op op_add (pv 6) (pv 8)) (pa_cons (pv 7) pa_nil)))) (pa_cons (pv 0) pa_nil)))))) pss_nil)
      (pss_one (ps_raise rfl (takes_of rfl rfl rfl rfl) (pmk_oex T.E_Entangled.oex T.E_Entangled.iC T.E_Entangled.tI G_Entangled_init hr_Entangled_init T.b_Entangled_init .nil pass0 (by rfl) T.E_Entangled.g (pa_cons (pv 0) (pa_cons (pv 1) pa_nil))))))))), ?_⟩
    obtain ⟨t1, rfl, ht1⟩ := id h1
    obtain ⟨t2, rfl, ht2⟩ := id h2
    have l1 : e.2.2.length ≤ 2000 := by rw [len_cs]; exact o1.1
    have l2 : f.2.2.length ≤ 2000 := by rw [len_cs]; exact o2.1
    refine ⟨_, rfl, t1, _, rfl, SqT.of ht1, rfl, _, _, rfl, _, _, rfl, _, _, rfl, rfl, ?_⟩
    refine ⟨_, rfl, t2, _, rfl, SqT.of ht2, rfl, _, _, rfl, _, _, rfl, _, _, rfl, rfl, ?_⟩
    refine ⟨_, rfl, _, rfl, _, _, rfl, rfl, _, rfl, ite2 (fun k1 => ?_) (fun k1 => ?_)⟩
    · have k1 : f.2.1 ≤ e.1 := of_decide_eq_true k1
      have hd : dueE e f = some (f, (e.1 + ((f.len : Int) - (f.2.1 - f.1)), e.2.1 + ((f.len : Int) - (f.2.1 - f.1)), e.2.2)) := if_pos k1
      refine ⟨_, rfl, _, rfl, sz1 (by omega), _, rfl, _, rfl, _, _, rfl, rfl, _, _, rfl, rfl, ?_⟩
      refine ⟨_, rfl, _, rfl, _, rfl, _, _, rfl, rfl, _, rfl, _, rfl, _, _, rfl, rfl, _, rfl, by show 3 ≤ sizeLine; decide, fun p np => ⟨by show 2 ≤ sizeLine; decide, fun r nr => ?_⟩⟩
      have s1 := (same_upd (o := .tup [.int (e.1 + ((f.2.2.length : Int) - (f.2.1 - f.1))), .int (e.2.1 + ((f.2.2.length : Int) - (f.2.1 - f.1))), .str e.2.2]) np)
      have s2 := same_upd (o := .tup [.ref t2, .ref p]) nr
      refine q1 _ _ hd r (.ref t2) (.ref p) _ (s1.trans s2) upd_same ((h2.same s1).same s2) ⟨p, rfl, ?_⟩
      rw [upd_ne (ne_of_none upd_same nr), upd_same, len_cs]
    · have k1 : ¬ f.2.1 ≤ e.1 := fun z => k1 (decide_eq_true z)
      refine ⟨_, rfl, _, rfl, _, rfl, _, rfl, sz1 (by omega), _, _, rfl, rfl, _, _, rfl, rfl, _, rfl, ite2 (fun k2 => ?_) (fun k2 => ?_)⟩
      · have k2 : e.1 + (e.2.2.length : Int) ≤ f.1 := of_decide_eq_true k2
        rw [len_cs] at k2
        have hd : dueE e f = some ((f.1 + (e.2.1 - e.1 - (e.len : Int)), f.2.1 + (e.2.1 - e.1 - (e.len : Int)), f.2.2), e) := by
          unfold dueE
          rw [if_neg k1, if_pos k2]
        refine ⟨_, rfl, _, rfl, _, _, rfl, rfl, _, rfl, _, rfl, sz1 (by omega), _, _, rfl, rfl, ?_⟩
        refine ⟨_, rfl, _, rfl, _, _, rfl, rfl, _, rfl, _, rfl, _, _, rfl, rfl, _, rfl, by show 3 ≤ sizeLine; decide, fun p np => ⟨_, rfl, by show 2 ≤ sizeLine; decide, fun r nr => ?_⟩⟩
        have s1 := (same_upd (o := .tup [.int (f.1 + (e.2.1 - e.1 - (e.2.2.length : Int))), .int (f.2.1 + (e.2.1 - e.1 - (e.2.2.length : Int))), .str f.2.2]) np)
        have s2 := same_upd (o := .tup [.ref p, .ref t1]) nr
        refine q1 _ _ hd r (.ref p) (.ref t1) _ (s1.trans s2) upd_same ⟨p, rfl, ?_⟩ ((h1.same s1).same s2)
        rw [upd_ne (ne_of_none upd_same nr), upd_same, len_cs]
      · have k2 : ¬ e.1 + (e.2.2.length : Int) ≤ f.1 := fun z => k2 (decide_eq_true z)
        rw [len_cs] at k2
        have hd : dueE e f = none := by
          unfold dueE
          rw [if_neg k1, if_neg k2]
        have hq := q2 hd
        refine mkN (ta := tCons (tVar 0) (tCons (tVar 1) tNil)) (n := 2) (ok := okEds) (fs := fsEnt) ?_ ?_
        · refine ⟨_, rfl, _, rfl, rfl, by show 2 ≤ 1000; decide, fun a na => ?_, fun d H' sm nd hd' => hq d H' sm nd hd'⟩
          exact ⟨_, _, e, f, rfl, h1.same (same_upd na), h2.same (same_upd na), o1, o2⟩
        · rintro Q1 Q2 h ⟨x, e1, y, e2, q⟩
          exact ⟨x, e1, y, e2, h _ _ q⟩

theorem ok_top (T : Txt K mg) : FnOk P w K mg base CX0 12 T.a_law T.fd_law ["script"] (spLaw K) := ok_law T (ok_swap T) (ok_Entangled_init T)
end
theorem all_mk {l : PySem.W.OpenLaw} {w : World} {K : PySem.W.Frag} {h : Heap} {mg : Str → Option Value} {fa : Addr} (X : K.In h) (G : h.Ns mainGlobals mg) (hfa : mg "law" = some (.ref fa))
    {C_MendedError : Addr} (g_MendedError : PySem.W.nsIn K mainGlobals "MendedError" = some (some (.ref C_MendedError)))
    {C_Entangled : Addr} (g_Entangled : PySem.W.nsIn K mainGlobals "Entangled" = some (some (.ref C_Entangled)))
    {C_BadMark : Addr} (g_BadMark : PySem.W.nsIn K mainGlobals "BadMark" = some (some (.ref C_BadMark)))
    {C_EditError : Addr} (g_EditError : PySem.W.nsIn K mainGlobals "EditError" = some (some (.ref C_EditError)))
    {C_GrammarError : Addr} (g_GrammarError : PySem.W.nsIn K mainGlobals "GrammarError" = some (some (.ref C_GrammarError)))
    {C_HistoryError : Addr} (g_HistoryError : PySem.W.nsIn K mainGlobals "HistoryError" = some (some (.ref C_HistoryError)))
    {C_NoLayer : Addr} (g_NoLayer : PySem.W.nsIn K mainGlobals "NoLayer" = some (some (.ref C_NoLayer)))
    {C_NoMark : Addr} (g_NoMark : PySem.W.nsIn K mainGlobals "NoMark" = some (some (.ref C_NoMark)))
    {C_NoNode : Addr} (g_NoNode : PySem.W.nsIn K mainGlobals "NoNode" = some (some (.ref C_NoNode)))
    {C_NoWitness : Addr} (g_NoWitness : PySem.W.nsIn K mainGlobals "NoWitness" = some (some (.ref C_NoWitness)))
    {C_PatternError : Addr} (g_PatternError : PySem.W.nsIn K mainGlobals "PatternError" = some (some (.ref C_PatternError)))
    {C_QueryError : Addr} (g_QueryError : PySem.W.nsIn K mainGlobals "QueryError" = some (some (.ref C_QueryError)))
    {C_TableError : Addr} (g_TableError : PySem.W.nsIn K mainGlobals "TableError" = some (some (.ref C_TableError)))
    {C_TreeError : Addr} (g_TreeError : PySem.W.nsIn K mainGlobals "TreeError" = some (some (.ref C_TreeError)))
    {C_UnknownLanguage : Addr} (g_UnknownLanguage : PySem.W.nsIn K mainGlobals "UnknownLanguage" = some (some (.ref C_UnknownLanguage)))
    {f0 : Addr} {od0 an0 : Option Addr} {sl0 : Array (Option Value)} {oc0 kV0 dc0 pm0 cd0 ct0 : Value}
    {f1 : Addr} {od1 an1 : Option Addr} {sl1 : Array (Option Value)} {oc1 kV1 dc1 pm1 cd1 ct1 : Value}
    {f2 : Addr} {od2 an2 : Option Addr} {sl2 : Array (Option Value)} {oc2 kV2 dc2 pm2 cd2 ct2 : Value}
    {f3 : Addr} {od3 an3 : Option Addr} {sl3 : Array (Option Value)} {oc3 kV3 dc3 pm3 cd3 ct3 : Value}
    {f4 : Addr} {od4 an4 : Option Addr} {sl4 : Array (Option Value)} {oc4 kV4 dc4 pm4 cd4 ct4 : Value}
    {f5 : Addr} {od5 an5 : Option Addr} {sl5 : Array (Option Value)} {oc5 kV5 dc5 pm5 cd5 ct5 : Value}
    {f6 : Addr} {od6 an6 : Option Addr} {sl6 : Array (Option Value)} {oc6 kV6 dc6 pm6 cd6 ct6 : Value}
    {f7 : Addr} {od7 an7 : Option Addr} {sl7 : Array (Option Value)} {oc7 kV7 dc7 pm7 cd7 ct7 : Value}
    {f8 : Addr} {od8 an8 : Option Addr} {sl8 : Array (Option Value)} {oc8 kV8 dc8 pm8 cd8 ct8 : Value}
    {f9 : Addr} {od9 an9 : Option Addr} {sl9 : Array (Option Value)} {oc9 kV9 dc9 pm9 cd9 ct9 : Value}
    {f10 : Addr} {od10 an10 : Option Addr} {sl10 : Array (Option Value)} {oc10 kV10 dc10 pm10 cd10 ct10 : Value}
    {f11 : Addr} {od11 an11 : Option Addr} {sl11 : Array (Option Value)} {oc11 kV11 dc11 pm11 cd11 ct11 : Value}
    {f12 : Addr} {od12 an12 : Option Addr} {sl12 : Array (Option Value)} {oc12 kV12 dc12 pm12 cd12 ct12 : Value}
    {f13 : Addr} {od13 an13 : Option Addr} {sl13 : Array (Option Value)} {oc13 kV13 dc13 pm13 cd13 ct13 : Value}
    {f14 : Addr} {od14 an14 : Option Addr} {sl14 : Array (Option Value)} {oc14 kV14 dc14 pm14 cd14 ct14 : Value}
    {f15 : Addr} {od15 an15 : Option Addr} {sl15 : Array (Option Value)} {oc15 kV15 dc15 pm15 cd15 ct15 : Value}
    {f16 : Addr} {od16 an16 : Option Addr} {sl16 : Array (Option Value)} {oc16 kV16 dc16 pm16 cd16 ct16 : Value}
    {f17 : Addr} {od17 an17 : Option Addr} {sl17 : Array (Option Value)} {oc17 kV17 dc17 pm17 cd17 ct17 : Value}
    {f18 : Addr} {od18 an18 : Option Addr} {sl18 : Array (Option Value)} {oc18 kV18 dc18 pm18 cd18 ct18 : Value}
    {f19 : Addr} {od19 an19 : Option Addr} {sl19 : Array (Option Value)} {oc19 kV19 dc19 pm19 cd19 ct19 : Value}
    {f20 : Addr} {od20 an20 : Option Addr} {sl20 : Array (Option Value)} {oc20 kV20 dc20 pm20 cd20 ct20 : Value}
    {f21 : Addr} {od21 an21 : Option Addr} {sl21 : Array (Option Value)} {oc21 kV21 dc21 pm21 cd21 ct21 : Value}
    {f22 : Addr} {od22 an22 : Option Addr} {sl22 : Array (Option Value)} {oc22 kV22 dc22 pm22 cd22 ct22 : Value}
    (a0 : PySem.W.findIn K (.ref C_Entangled) "__init__" = some (some (.ref f0)))
    (l0 : K.lookup f0 = some ⟨oc0, od0, .func (PySem.W.fnOf "__init__" "Entangled.__init__" (defArgs s_Entangled_init) (defBody s_Entangled_init) (defScope s_Entangled_init) .none kV0 dc0 pm0 an0 cd0 ct0), sl0⟩) (c0 : PySem.W.codeIn K cd0 "Entangled.__init__" = true) (k0 : PySem.W.keepIn K (.ref f0) = true)
    (a1 : PySem.W.nsIn K mainGlobals "swap" = some (some (.ref f1)))
    (l1 : K.lookup f1 = some ⟨oc1, od1, .func (PySem.W.fnOf "swap" "swap" (defArgs s_swap) (defBody s_swap) (defScope s_swap) .none kV1 dc1 pm1 an1 cd1 ct1), sl1⟩) (c1 : PySem.W.codeIn K cd1 "swap" = true) (k1 : PySem.W.keepIn K (.ref f1) = true)
    (a2 : PySem.W.nsIn K mainGlobals "_law_reel" = some (some (.ref f2)))
    (l2 : K.lookup f2 = some ⟨oc2, od2, .func (PySem.W.fnOf "_law_reel" "_law_reel" (defArgs s_law_reel) (defBody s_law_reel) (defScope s_law_reel) .none kV2 dc2 pm2 an2 cd2 ct2), sl2⟩) (c2 : PySem.W.codeIn K cd2 "_law_reel" = true) (k2 : PySem.W.keepIn K (.ref f2) = true)
    (a3 : PySem.W.nsIn K mainGlobals "_law_draw" = some (some (.ref f3)))
    (l3 : K.lookup f3 = some ⟨oc3, od3, .func (PySem.W.fnOf "_law_draw" "_law_draw" (defArgs s_law_draw) (defBody s_law_draw) (defScope s_law_draw) .none kV3 dc3 pm3 an3 cd3 ct3), sl3⟩) (c3 : PySem.W.codeIn K cd3 "_law_draw" = true) (k3 : PySem.W.keepIn K (.ref f3) = true)
    (a4 : PySem.W.nsIn K mainGlobals "_law_pick" = some (some (.ref f4)))
    (l4 : K.lookup f4 = some ⟨oc4, od4, .func (PySem.W.fnOf "_law_pick" "_law_pick" (defArgs s_law_pick) (defBody s_law_pick) (defScope s_law_pick) .none kV4 dc4 pm4 an4 cd4 ct4), sl4⟩) (c4 : PySem.W.codeIn K cd4 "_law_pick" = true) (k4 : PySem.W.keepIn K (.ref f4) = true)
    (a5 : PySem.W.nsIn K mainGlobals "_law_word" = some (some (.ref f5)))
    (l5 : K.lookup f5 = some ⟨oc5, od5, .func (PySem.W.fnOf "_law_word" "_law_word" (defArgs s_law_word) (defBody s_law_word) (defScope s_law_word) .none kV5 dc5 pm5 an5 cd5 ct5), sl5⟩) (c5 : PySem.W.codeIn K cd5 "_law_word" = true) (k5 : PySem.W.keepIn K (.ref f5) = true)
    (a6 : PySem.W.nsIn K mainGlobals "_law_number" = some (some (.ref f6)))
    (l6 : K.lookup f6 = some ⟨oc6, od6, .func (PySem.W.fnOf "_law_number" "_law_number" (defArgs s_law_number) (defBody s_law_number) (defScope s_law_number) .none kV6 dc6 pm6 an6 cd6 ct6), sl6⟩) (c6 : PySem.W.codeIn K cd6 "_law_number" = true) (k6 : PySem.W.keepIn K (.ref f6) = true)
    (a7 : PySem.W.nsIn K mainGlobals "_law_signs" = some (some (.ref f7)))
    (l7 : K.lookup f7 = some ⟨oc7, od7, .func (PySem.W.fnOf "_law_signs" "_law_signs" (defArgs s_law_signs) (defBody s_law_signs) (defScope s_law_signs) .none kV7 dc7 pm7 an7 cd7 ct7), sl7⟩) (c7 : PySem.W.codeIn K cd7 "_law_signs" = true) (k7 : PySem.W.keepIn K (.ref f7) = true)
    (a8 : PySem.W.nsIn K mainGlobals "_law_stepped" = some (some (.ref f8)))
    (l8 : K.lookup f8 = some ⟨oc8, od8, .func (PySem.W.fnOf "_law_stepped" "_law_stepped" (defArgs s_law_stepped) (defBody s_law_stepped) (defScope s_law_stepped) .none kV8 dc8 pm8 an8 cd8 ct8), sl8⟩) (c8 : PySem.W.codeIn K cd8 "_law_stepped" = true) (k8 : PySem.W.keepIn K (.ref f8) = true)
    (a9 : PySem.W.nsIn K mainGlobals "_law_text" = some (some (.ref f9)))
    (l9 : K.lookup f9 = some ⟨oc9, od9, .func (PySem.W.fnOf "_law_text" "_law_text" (defArgs s_law_text) (defBody s_law_text) (defScope s_law_text) .none kV9 dc9 pm9 an9 cd9 ct9), sl9⟩) (c9 : PySem.W.codeIn K cd9 "_law_text" = true) (k9 : PySem.W.keepIn K (.ref f9) = true)
    (a10 : PySem.W.nsIn K mainGlobals "_law_new" = some (some (.ref f10)))
    (l10 : K.lookup f10 = some ⟨oc10, od10, .func (PySem.W.fnOf "_law_new" "_law_new" (defArgs s_law_new) (defBody s_law_new) (defScope s_law_new) .none kV10 dc10 pm10 an10 cd10 ct10), sl10⟩) (c10 : PySem.W.codeIn K cd10 "_law_new" = true) (k10 : PySem.W.keepIn K (.ref f10) = true)
    (a11 : PySem.W.nsIn K mainGlobals "_law_edit_row" = some (some (.ref f11)))
    (l11 : K.lookup f11 = some ⟨oc11, od11, .func (PySem.W.fnOf "_law_edit_row" "_law_edit_row" (defArgs s_law_edit_row) (defBody s_law_edit_row) (defScope s_law_edit_row) .none kV11 dc11 pm11 an11 cd11 ct11), sl11⟩) (c11 : PySem.W.codeIn K cd11 "_law_edit_row" = true) (k11 : PySem.W.keepIn K (.ref f11) = true)
    (a12 : PySem.W.nsIn K mainGlobals "_law_splice" = some (some (.ref f12)))
    (l12 : K.lookup f12 = some ⟨oc12, od12, .func (PySem.W.fnOf "_law_splice" "_law_splice" (defArgs s_law_splice) (defBody s_law_splice) (defScope s_law_splice) .none kV12 dc12 pm12 an12 cd12 ct12), sl12⟩) (c12 : PySem.W.codeIn K cd12 "_law_splice" = true) (k12 : PySem.W.keepIn K (.ref f12) = true)
    (a13 : PySem.W.nsIn K mainGlobals "_law_tags" = some (some (.ref f13)))
    (l13 : K.lookup f13 = some ⟨oc13, od13, .func (PySem.W.fnOf "_law_tags" "_law_tags" (defArgs s_law_tags) (defBody s_law_tags) (defScope s_law_tags) .none kV13 dc13 pm13 an13 cd13 ct13), sl13⟩) (c13 : PySem.W.codeIn K cd13 "_law_tags" = true) (k13 : PySem.W.keepIn K (.ref f13) = true)
    (a14 : PySem.W.nsIn K mainGlobals "_law_same_edit" = some (some (.ref f14)))
    (l14 : K.lookup f14 = some ⟨oc14, od14, .func (PySem.W.fnOf "_law_same_edit" "_law_same_edit" (defArgs s_law_same_edit) (defBody s_law_same_edit) (defScope s_law_same_edit) .none kV14 dc14 pm14 an14 cd14 ct14), sl14⟩) (c14 : PySem.W.codeIn K cd14 "_law_same_edit" = true) (k14 : PySem.W.keepIn K (.ref f14) = true)
    (a15 : PySem.W.nsIn K mainGlobals "_law_due" = some (some (.ref f15)))
    (l15 : K.lookup f15 = some ⟨oc15, od15, .func (PySem.W.fnOf "_law_due" "_law_due" (defArgs s_law_due) (defBody s_law_due) (defScope s_law_due) .none kV15 dc15 pm15 an15 cd15 ct15), sl15⟩) (c15 : PySem.W.codeIn K cd15 "_law_due" = true) (k15 : PySem.W.keepIn K (.ref f15) = true)
    (a16 : PySem.W.nsIn K mainGlobals "_law_told" = some (some (.ref f16)))
    (l16 : K.lookup f16 = some ⟨oc16, od16, .func (PySem.W.fnOf "_law_told" "_law_told" (defArgs s_law_told) (defBody s_law_told) (defScope s_law_told) .none kV16 dc16 pm16 an16 cd16 ct16), sl16⟩) (c16 : PySem.W.codeIn K cd16 "_law_told" = true) (k16 : PySem.W.keepIn K (.ref f16) = true)
    (a17 : PySem.W.nsIn K mainGlobals "_law_by_base" = some (some (.ref f17)))
    (l17 : K.lookup f17 = some ⟨oc17, od17, .func (PySem.W.fnOf "_law_by_base" "_law_by_base" (defArgs s_law_by_base) (defBody s_law_by_base) (defScope s_law_by_base) .none kV17 dc17 pm17 an17 cd17 ct17), sl17⟩) (c17 : PySem.W.codeIn K cd17 "_law_by_base" = true) (k17 : PySem.W.keepIn K (.ref f17) = true)
    (a18 : PySem.W.nsIn K mainGlobals "_law_pair_ok" = some (some (.ref f18)))
    (l18 : K.lookup f18 = some ⟨oc18, od18, .func (PySem.W.fnOf "_law_pair_ok" "_law_pair_ok" (defArgs s_law_pair_ok) (defBody s_law_pair_ok) (defScope s_law_pair_ok) .none kV18 dc18 pm18 an18 cd18 ct18), sl18⟩) (c18 : PySem.W.codeIn K cd18 "_law_pair_ok" = true) (k18 : PySem.W.keepIn K (.ref f18) = true)
    (a19 : PySem.W.nsIn K mainGlobals "_law_made_ok" = some (some (.ref f19)))
    (l19 : K.lookup f19 = some ⟨oc19, od19, .func (PySem.W.fnOf "_law_made_ok" "_law_made_ok" (defArgs s_law_made_ok) (defBody s_law_made_ok) (defScope s_law_made_ok) .none kV19 dc19 pm19 an19 cd19 ct19), sl19⟩) (c19 : PySem.W.codeIn K cd19 "_law_made_ok" = true) (k19 : PySem.W.keepIn K (.ref f19) = true)
    (a20 : PySem.W.nsIn K mainGlobals "_law_same_result" = some (some (.ref f20)))
    (l20 : K.lookup f20 = some ⟨oc20, od20, .func (PySem.W.fnOf "_law_same_result" "_law_same_result" (defArgs s_law_same_result) (defBody s_law_same_result) (defScope s_law_same_result) .none kV20 dc20 pm20 an20 cd20 ct20), sl20⟩) (c20 : PySem.W.codeIn K cd20 "_law_same_result" = true) (k20 : PySem.W.keepIn K (.ref f20) = true)
    (a21 : PySem.W.nsIn K mainGlobals "_law_all_second_ones" = some (some (.ref f21)))
    (l21 : K.lookup f21 = some ⟨oc21, od21, .func (PySem.W.fnOf "_law_all_second_ones" "_law_all_second_ones" (defArgs s_law_all_second_ones) (defBody s_law_all_second_ones) (defScope s_law_all_second_ones) .none kV21 dc21 pm21 an21 cd21 ct21), sl21⟩) (c21 : PySem.W.codeIn K cd21 "_law_all_second_ones" = true) (k21 : PySem.W.keepIn K (.ref f21) = true)
    (a22 : PySem.W.nsIn K mainGlobals "law" = some (some (.ref f22)))
    (l22 : K.lookup f22 = some ⟨oc22, od22, .func (PySem.W.fnOf "law" "law" (defArgs s_law) (defBody s_law) (defScope s_law) .none kV22 dc22 pm22 an22 cd22 ct22), sl22⟩) (c22 : PySem.W.codeIn K cd22 "law" = true) (k22 : PySem.W.keepIn K (.ref f22) = true)
    (bga_MendedError : PySem.W.specialIn K (.ref C_MendedError) "__getattribute__" = some (some (.builtin "type.__getattribute__"))) (brd_MendedError : PySem.W.readsIn K C_MendedError (.type "type") = true) (bfi_MendedError : PySem.W.findCls K (.ref C_MendedError) (.type "type") "__init__" = some (.val (.builtin "ValueError.__init__")))
    {nm_Entangled q_Entangled : Str} {N_Entangled : Addr} {bs_Entangled : List Value} {sn_Entangled : List Str} {sub_Entangled : List Value} {ab_Entangled : Bool} {col_Entangled : Option Bool} {dd_Entangled : Option Addr} {m0_Entangled m1_Entangled m2_Entangled m3_Entangled m5_Entangled : Option Value}
    (xL_Entangled : K.lookup C_Entangled = some (excClassObj nm_Entangled q_Entangled C_Entangled N_Entangled bs_Entangled (.ref C_MendedError :: [.type "ValueError", .type "Exception", .type "BaseException", .type "object"]) true sn_Entangled sub_Entangled ab_Entangled col_Entangled dd_Entangled m0_Entangled m1_Entangled m2_Entangled m3_Entangled m5_Entangled "ValueError.__new__"))
    (sa_Entangled : PySem.W.findIn K (.ref C_Entangled) "__setattr__" = some (some (.builtin "object.__setattr__")))
    (ga_Entangled : PySem.W.findIn K (.ref C_Entangled) "__getattribute__" = some (some (.builtin "BaseException.__getattribute__")))
    (gg_Entangled : PySem.W.findIn K (.ref C_Entangled) "__getattr__" = some none)
    (kC_Entangled : PySem.W.keepIn K (.ref C_Entangled) = true)
    (eC_Entangled : PySem.W.subIn K (.ref C_Entangled) (.type "BaseException") = some true)
    (tC_Entangled : PySem.W.typeIn K (.ref C_Entangled) = some (.type "type"))
    (hd_Entangled : PySem.W.hasDictIn K C_Entangled = true)
    (ha_Entangled : PySem.W.findIn K (.ref C_Entangled) "__class__" = some (some (.builtin "object.__class__")))
    (hm_Entangled : PySem.W.mroIn K C_Entangled (.type "object") = some true)
    (sC_Entangled : PySem.W.subIn K (.ref C_Entangled) (.ref C_Entangled) = some true)
    (tI_Entangled : PySem.W.typeIn K (.ref f0) = some (.type "function"))
    (n_Entangled_first : PySem.W.findIn K (.ref C_Entangled) "first" = some none)
    (n_Entangled_second : PySem.W.findIn K (.ref C_Entangled) "second" = some none)
    (hn : PySem.W.specialIn K (.builtin "object.__class__") "__get__" = some (some (.builtin "getset_descriptor.__get__"))) (ht : PySem.W.takesIn K (.builtin "object.__class__") = some true)
    (s_Entangled_MendedError : PySem.W.subIn K (.ref C_Entangled) (.ref C_MendedError) = some true)
    (iC_MendedError : PySem.W.isClsIn K C_MendedError = true) (tY_MendedError : PySem.W.typeIn K (.ref C_MendedError) = some (.type "type"))
    (s_Entangled_ValueError : PySem.W.subIn K (.ref C_Entangled) (.type "ValueError") = some true)
    (s_Entangled_BadMark : PySem.W.subIn K (.ref C_Entangled) (.ref C_BadMark) = some false)
    (iC_BadMark : PySem.W.isClsIn K C_BadMark = true) (tY_BadMark : PySem.W.typeIn K (.ref C_BadMark) = some (.type "type"))
    (s_Entangled_EditError : PySem.W.subIn K (.ref C_Entangled) (.ref C_EditError) = some false)
    (iC_EditError : PySem.W.isClsIn K C_EditError = true) (tY_EditError : PySem.W.typeIn K (.ref C_EditError) = some (.type "type"))
    (s_Entangled_GrammarError : PySem.W.subIn K (.ref C_Entangled) (.ref C_GrammarError) = some false)
    (iC_GrammarError : PySem.W.isClsIn K C_GrammarError = true) (tY_GrammarError : PySem.W.typeIn K (.ref C_GrammarError) = some (.type "type"))
    (s_Entangled_HistoryError : PySem.W.subIn K (.ref C_Entangled) (.ref C_HistoryError) = some false)
    (iC_HistoryError : PySem.W.isClsIn K C_HistoryError = true) (tY_HistoryError : PySem.W.typeIn K (.ref C_HistoryError) = some (.type "type"))
    (s_Entangled_NoLayer : PySem.W.subIn K (.ref C_Entangled) (.ref C_NoLayer) = some false)
    (iC_NoLayer : PySem.W.isClsIn K C_NoLayer = true) (tY_NoLayer : PySem.W.typeIn K (.ref C_NoLayer) = some (.type "type"))
    (s_Entangled_NoMark : PySem.W.subIn K (.ref C_Entangled) (.ref C_NoMark) = some false)
    (iC_NoMark : PySem.W.isClsIn K C_NoMark = true) (tY_NoMark : PySem.W.typeIn K (.ref C_NoMark) = some (.type "type"))
    (s_Entangled_NoNode : PySem.W.subIn K (.ref C_Entangled) (.ref C_NoNode) = some false)
    (iC_NoNode : PySem.W.isClsIn K C_NoNode = true) (tY_NoNode : PySem.W.typeIn K (.ref C_NoNode) = some (.type "type"))
    (s_Entangled_NoWitness : PySem.W.subIn K (.ref C_Entangled) (.ref C_NoWitness) = some false)
    (iC_NoWitness : PySem.W.isClsIn K C_NoWitness = true) (tY_NoWitness : PySem.W.typeIn K (.ref C_NoWitness) = some (.type "type"))
    (s_Entangled_PatternError : PySem.W.subIn K (.ref C_Entangled) (.ref C_PatternError) = some false)
    (iC_PatternError : PySem.W.isClsIn K C_PatternError = true) (tY_PatternError : PySem.W.typeIn K (.ref C_PatternError) = some (.type "type"))
    (s_Entangled_QueryError : PySem.W.subIn K (.ref C_Entangled) (.ref C_QueryError) = some false)
    (iC_QueryError : PySem.W.isClsIn K C_QueryError = true) (tY_QueryError : PySem.W.typeIn K (.ref C_QueryError) = some (.type "type"))
    (s_Entangled_TableError : PySem.W.subIn K (.ref C_Entangled) (.ref C_TableError) = some false)
    (iC_TableError : PySem.W.isClsIn K C_TableError = true) (tY_TableError : PySem.W.typeIn K (.ref C_TableError) = some (.type "type"))
    (s_Entangled_TreeError : PySem.W.subIn K (.ref C_Entangled) (.ref C_TreeError) = some false)
    (iC_TreeError : PySem.W.isClsIn K C_TreeError = true) (tY_TreeError : PySem.W.typeIn K (.ref C_TreeError) = some (.type "type"))
    (s_Entangled_UnknownLanguage : PySem.W.subIn K (.ref C_Entangled) (.ref C_UnknownLanguage) = some false)
    (iC_UnknownLanguage : PySem.W.isClsIn K C_UnknownLanguage = true) (tY_UnknownLanguage : PySem.W.typeIn K (.ref C_UnknownLanguage) = some (.type "type"))
    (xb_Entangled_MendedError : PySem.W.subIn K (.ref C_MendedError) (.type "BaseException") = some true) (xd_Entangled_MendedError : PySem.W.hasDictIn K C_MendedError = true)
    (z0 : PySem.W.nsIn K mainGlobals "range" = some none)
    (z1 : PySem.W.nsIn K mainGlobals "min" = some none)
    (z2 : PySem.W.nsIn K mainGlobals "max" = some none)
    (z3 : PySem.W.nsIn K mainGlobals "len" = some none)
    (z4 : PySem.W.nsIn K mainGlobals "abs" = some none)
    (z5 : PySem.W.nsIn K mainGlobals "int" = some none)
    (z6 : PySem.W.nsIn K mainGlobals "sum" = some none)
    (z7 : PySem.W.nsIn K mainGlobals "isinstance" = some none)
    (z8 : PySem.W.nsIn K mainGlobals "bool" = some none)
    (z9 : PySem.W.nsIn K mainGlobals "list" = some none)
    (z10 : PySem.W.nsIn K mainGlobals "tuple" = some none)
    (z11 : PySem.W.nsIn K mainGlobals "str" = some none)
    (z12 : PySem.W.nsIn K mainGlobals "enumerate" = some none)
    (z13 : PySem.W.nsIn K mainGlobals "ValueError" = some none)
    : ∃ fd : FuncData, (∀ (s : Shared) (v : Value), BindsTo s fd ⟨[v], []⟩ [("script", v)]) ∧ ∀ base : Heap, K.In base → base.Ns mainGlobals mg → FnOk l.prog w K mg base CX0 12 fa fd ["script"] (spLaw K) := by
  have e := hfa.symm.trans (PySem.W.mg_of X G a22)
  cases e
  have F0 := fun_mk (st := s_Entangled_init) l0 c0 k0
  have b0 := F0.binds (ps := ["self", "first", "second"]) fun _ _ _ _ _ _ us hl => match us, hl with | [_, _, _], _ => rfl
  have F1 := fun_mk (st := s_swap) l1 c1 k1
  have b1 := F1.binds (ps := ["first", "second"]) fun _ _ _ _ _ _ us hl => match us, hl with | [_, _], _ => rfl
  have F2 := fun_mk (st := s_law_reel) l2 c2 k2
  have b2 := F2.binds (ps := ["script"]) fun _ _ _ _ _ _ us hl => match us, hl with | [_], _ => rfl
  have F3 := fun_mk (st := s_law_draw) l3 c3 k3
  have b3 := F3.binds (ps := ["reel", "size"]) fun _ _ _ _ _ _ us hl => match us, hl with | [_, _], _ => rfl
  have F4 := fun_mk (st := s_law_pick) l4 c4 k4
  have b4 := F4.binds (ps := ["reel", "row"]) fun _ _ _ _ _ _ us hl => match us, hl with | [_, _], _ => rfl
  have F5 := fun_mk (st := s_law_word) l5 c5 k5
  have b5 := F5.binds (ps := ["reel", "letters", "least", "most"]) fun _ _ _ _ _ _ us hl => match us, hl with | [_, _, _, _], _ => rfl
  have F6 := fun_mk (st := s_law_number) l6 c6 k6
  have b6 := F6.binds (ps := ["value"]) fun _ _ _ _ _ _ us hl => match us, hl with | [_], _ => rfl
  have F7 := fun_mk (st := s_law_signs) l7 c7 k7
  have b7 := F7.binds (ps := []) fun _ _ _ _ _ _ us hl => match us, hl with | [], _ => rfl
  have F8 := fun_mk (st := s_law_stepped) l8 c8 k8
  have b8 := F8.binds (ps := ["reel", "size"]) fun _ _ _ _ _ _ us hl => match us, hl with | [_, _], _ => rfl
  have F9 := fun_mk (st := s_law_text) l9 c9 k9
  have b9 := F9.binds (ps := ["reel"]) fun _ _ _ _ _ _ us hl => match us, hl with | [_], _ => rfl
  have F10 := fun_mk (st := s_law_new) l10 c10 k10
  have b10 := F10.binds (ps := ["reel"]) fun _ _ _ _ _ _ us hl => match us, hl with | [_], _ => rfl
  have F11 := fun_mk (st := s_law_edit_row) l11 c11 k11
  have b11 := F11.binds (ps := ["reel", "text", "count"]) fun _ _ _ _ _ _ us hl => match us, hl with | [_, _, _], _ => rfl
  have F12 := fun_mk (st := s_law_splice) l12 c12 k12
  have b12 := F12.binds (ps := ["text", "edits"]) fun _ _ _ _ _ _ us hl => match us, hl with | [_, _], _ => rfl
  have F13 := fun_mk (st := s_law_tags) l13 c13 k13
  have b13 := F13.binds (ps := ["size", "edits"]) fun _ _ _ _ _ _ us hl => match us, hl with | [_, _], _ => rfl
  have F14 := fun_mk (st := s_law_same_edit) l14 c14 k14
  have b14 := F14.binds (ps := ["told", "due"]) fun _ _ _ _ _ _ us hl => match us, hl with | [_, _], _ => rfl
  have F15 := fun_mk (st := s_law_due) l15 c15 k15
  have b15 := F15.binds (ps := ["first", "second"]) fun _ _ _ _ _ _ us hl => match us, hl with | [_, _], _ => rfl
  have F16 := fun_mk (st := s_law_told) l16 c16 k16
  have b16 := F16.binds (ps := ["first", "second"]) fun _ _ _ _ _ _ us hl => match us, hl with | [_, _], _ => rfl
  have F17 := fun_mk (st := s_law_by_base) l17 c17 k17
  have b17 := F17.binds (ps := ["first", "second"]) fun _ _ _ _ _ _ us hl => match us, hl with | [_, _], _ => rfl
  have F18 := fun_mk (st := s_law_pair_ok) l18 c18 k18
  have b18 := F18.binds (ps := ["first", "second"]) fun _ _ _ _ _ _ us hl => match us, hl with | [_, _], _ => rfl
  have F19 := fun_mk (st := s_law_made_ok) l19 c19 k19
  have b19 := F19.binds (ps := ["first", "second"]) fun _ _ _ _ _ _ us hl => match us, hl with | [_, _], _ => rfl
  have F20 := fun_mk (st := s_law_same_result) l20 c20 k20
  have b20 := F20.binds (ps := ["text", "first", "second"]) fun _ _ _ _ _ _ us hl => match us, hl with | [_, _, _], _ => rfl
  have F21 := fun_mk (st := s_law_all_second_ones) l21 c21 k21
  have b21 := F21.binds (ps := ["reel"]) fun _ _ _ _ _ _ us hl => match us, hl with | [_], _ => rfl
  have F22 := fun_mk (st := s_law) l22 c22 k22
  have b22 := F22.binds (ps := ["script"]) fun _ _ _ _ _ _ us hl => match us, hl with | [_], _ => rfl
  let T : Txt K mg :=
    { C_MendedError := C_MendedError,
      G_MendedError := PySem.W.mg_of X G g_MendedError,
      C_Entangled := C_Entangled,
      G_Entangled := PySem.W.mg_of X G g_Entangled,
      C_BadMark := C_BadMark,
      G_BadMark := PySem.W.mg_of X G g_BadMark,
      C_EditError := C_EditError,
      G_EditError := PySem.W.mg_of X G g_EditError,
      C_GrammarError := C_GrammarError,
      G_GrammarError := PySem.W.mg_of X G g_GrammarError,
      C_HistoryError := C_HistoryError,
      G_HistoryError := PySem.W.mg_of X G g_HistoryError,
      C_NoLayer := C_NoLayer,
      G_NoLayer := PySem.W.mg_of X G g_NoLayer,
      C_NoMark := C_NoMark,
      G_NoMark := PySem.W.mg_of X G g_NoMark,
      C_NoNode := C_NoNode,
      G_NoNode := PySem.W.mg_of X G g_NoNode,
      C_NoWitness := C_NoWitness,
      G_NoWitness := PySem.W.mg_of X G g_NoWitness,
      C_PatternError := C_PatternError,
      G_PatternError := PySem.W.mg_of X G g_PatternError,
      C_QueryError := C_QueryError,
      G_QueryError := PySem.W.mg_of X G g_QueryError,
      C_TableError := C_TableError,
      G_TableError := PySem.W.mg_of X G g_TableError,
      C_TreeError := C_TreeError,
      G_TreeError := PySem.W.mg_of X G g_TreeError,
      C_UnknownLanguage := C_UnknownLanguage,
      G_UnknownLanguage := PySem.W.mg_of X G g_UnknownLanguage,
      a_Entangled_init := _, fd_Entangled_init := _, F_Entangled_init := F0, b_Entangled_init := b0,
      a_swap := _, fd_swap := _, F_swap := F1, b_swap := b1, g_swap := PySem.W.mg_of X G a1,
      a_law_reel := _, fd_law_reel := _, F_law_reel := F2, b_law_reel := b2, g_law_reel := PySem.W.mg_of X G a2,
      a_law_draw := _, fd_law_draw := _, F_law_draw := F3, b_law_draw := b3, g_law_draw := PySem.W.mg_of X G a3,
      a_law_pick := _, fd_law_pick := _, F_law_pick := F4, b_law_pick := b4, g_law_pick := PySem.W.mg_of X G a4,
      a_law_word := _, fd_law_word := _, F_law_word := F5, b_law_word := b5, g_law_word := PySem.W.mg_of X G a5,
      a_law_number := _, fd_law_number := _, F_law_number := F6, b_law_number := b6, g_law_number := PySem.W.mg_of X G a6,
      a_law_signs := _, fd_law_signs := _, F_law_signs := F7, b_law_signs := b7, g_law_signs := PySem.W.mg_of X G a7,
      a_law_stepped := _, fd_law_stepped := _, F_law_stepped := F8, b_law_stepped := b8, g_law_stepped := PySem.W.mg_of X G a8,
      a_law_text := _, fd_law_text := _, F_law_text := F9, b_law_text := b9, g_law_text := PySem.W.mg_of X G a9,
      a_law_new := _, fd_law_new := _, F_law_new := F10, b_law_new := b10, g_law_new := PySem.W.mg_of X G a10,
      a_law_edit_row := _, fd_law_edit_row := _, F_law_edit_row := F11, b_law_edit_row := b11, g_law_edit_row := PySem.W.mg_of X G a11,
      a_law_splice := _, fd_law_splice := _, F_law_splice := F12, b_law_splice := b12, g_law_splice := PySem.W.mg_of X G a12,
      a_law_tags := _, fd_law_tags := _, F_law_tags := F13, b_law_tags := b13, g_law_tags := PySem.W.mg_of X G a13,
      a_law_same_edit := _, fd_law_same_edit := _, F_law_same_edit := F14, b_law_same_edit := b14, g_law_same_edit := PySem.W.mg_of X G a14,
      a_law_due := _, fd_law_due := _, F_law_due := F15, b_law_due := b15, g_law_due := PySem.W.mg_of X G a15,
      a_law_told := _, fd_law_told := _, F_law_told := F16, b_law_told := b16, g_law_told := PySem.W.mg_of X G a16,
      a_law_by_base := _, fd_law_by_base := _, F_law_by_base := F17, b_law_by_base := b17, g_law_by_base := PySem.W.mg_of X G a17,
      a_law_pair_ok := _, fd_law_pair_ok := _, F_law_pair_ok := F18, b_law_pair_ok := b18, g_law_pair_ok := PySem.W.mg_of X G a18,
      a_law_made_ok := _, fd_law_made_ok := _, F_law_made_ok := F19, b_law_made_ok := b19, g_law_made_ok := PySem.W.mg_of X G a19,
      a_law_same_result := _, fd_law_same_result := _, F_law_same_result := F20, b_law_same_result := b20, g_law_same_result := PySem.W.mg_of X G a20,
      a_law_all_second_ones := _, fd_law_all_second_ones := _, F_law_all_second_ones := F21, b_law_all_second_ones := b21, g_law_all_second_ones := PySem.W.mg_of X G a21,
      a_law := _, fd_law := _, F_law := F22, b_law := b22, g_law := PySem.W.mg_of X G a22,
      B_MendedError := ⟨bga_MendedError, brd_MendedError, bfi_MendedError⟩,
      E_Entangled := errK_mk (PySem.W.mg_of X G g_Entangled) xL_Entangled (by rfl) sa_Entangled ga_Entangled gg_Entangled a0 tI_Entangled kC_Entangled eC_Entangled tC_Entangled hd_Entangled ha_Entangled hn ht hm_Entangled sC_Entangled,
      n_Entangled_first := n_Entangled_first,
      n_Entangled_second := n_Entangled_second,
      k_Entangled_MendedError := kit_refT s_Entangled_MendedError iC_MendedError tY_MendedError,
      k_Entangled_ValueError := kit_refTy s_Entangled_ValueError (by decide +kernel),
      k_Entangled_BadMark := kit_refF sC_Entangled s_Entangled_BadMark iC_BadMark tY_BadMark,
      k_Entangled_EditError := kit_refF sC_Entangled s_Entangled_EditError iC_EditError tY_EditError,
      k_Entangled_GrammarError := kit_refF sC_Entangled s_Entangled_GrammarError iC_GrammarError tY_GrammarError,
      k_Entangled_HistoryError := kit_refF sC_Entangled s_Entangled_HistoryError iC_HistoryError tY_HistoryError,
      k_Entangled_NoLayer := kit_refF sC_Entangled s_Entangled_NoLayer iC_NoLayer tY_NoLayer,
      k_Entangled_NoMark := kit_refF sC_Entangled s_Entangled_NoMark iC_NoMark tY_NoMark,
      k_Entangled_NoNode := kit_refF sC_Entangled s_Entangled_NoNode iC_NoNode tY_NoNode,
      k_Entangled_NoWitness := kit_refF sC_Entangled s_Entangled_NoWitness iC_NoWitness tY_NoWitness,
      k_Entangled_PatternError := kit_refF sC_Entangled s_Entangled_PatternError iC_PatternError tY_PatternError,
      k_Entangled_QueryError := kit_refF sC_Entangled s_Entangled_QueryError iC_QueryError tY_QueryError,
      k_Entangled_TableError := kit_refF sC_Entangled s_Entangled_TableError iC_TableError tY_TableError,
      k_Entangled_TreeError := kit_refF sC_Entangled s_Entangled_TreeError iC_TreeError tY_TreeError,
      k_Entangled_UnknownLanguage := kit_refF sC_Entangled s_Entangled_UnknownLanguage iC_UnknownLanguage tY_UnknownLanguage,
      x_Entangled_MendedError := PySem.W.exm_ref xb_Entangled_MendedError xd_Entangled_MendedError tY_MendedError s_Entangled_MendedError,
      m_range := PySem.W.mg_none_of X G z0,
      m_min := PySem.W.mg_none_of X G z1,
      m_max := PySem.W.mg_none_of X G z2,
      m_len := PySem.W.mg_none_of X G z3,
      m_abs := PySem.W.mg_none_of X G z4,
      m_int := PySem.W.mg_none_of X G z5,
      m_sum := PySem.W.mg_none_of X G z6,
      m_isinstance := PySem.W.mg_none_of X G z7,
      m_bool := PySem.W.mg_none_of X G z8,
      m_list := PySem.W.mg_none_of X G z9,
      m_tuple := PySem.W.mg_none_of X G z10,
      m_str := PySem.W.mg_none_of X G z11,
      m_enumerate := PySem.W.mg_none_of X G z12,
      m_ValueError := PySem.W.mg_none_of X G z13 }
  exact ⟨PySem.W.fnOf "law" "law" (defArgs s_law) (defBody s_law) (defScope s_law) .none kV22 dc22 pm22 an22 cd22 ct22, fun s v => .of_eq rfl, fun base _ _ => ok_top T⟩
end M
open PySem PySem.W PyProof.Rows
set_option maxRecDepth 100000 in
set_option maxHeartbeats 0 in
theorem PySem.Challenge.cw_mendedtree_k60_swap_holds : PySem.Challenge.rw_mendedtree_k60_swap.Holds := by
  w_on; o_law; k_head; (case hw => w_witness2)
  k_fill
  refine L2.walk_of (l := PySem.Challenge.rw_mendedtree_k60_swap) (n := 63) (k := 12) (x := "script") (CX := fun _ => L2.CX0) (sp := fun w => M.spLaw _) rfl (by decide) rfl ⟨rfl, by decide, by decide⟩ (fun w h Y => PySem.W.kIn_of Y) ?F (fun _ _ a ns hl _ hS => ⟨a, ns, rfl, hS, hl, fun _ => rfl⟩) (fun _ _ _ _ _ h => h)
  case F =>
    intro w mg fa h KX G hmg
    refine' M.all_mk KX G hmg ?g_MendedError ?g_Entangled ?g_BadMark ?g_EditError ?g_GrammarError ?g_HistoryError ?g_NoLayer ?g_NoMark ?g_NoNode ?g_NoWitness ?g_PatternError ?g_QueryError ?g_TableError ?g_TreeError ?g_UnknownLanguage ?a0 ?l0 ?c0 ?k0 ?a1 ?l1 ?c1 ?k1 ?a2 ?l2 ?c2 ?k2 ?a3 ?l3 ?c3 ?k3 ?a4 ?l4 ?c4 ?k4 ?a5 ?l5 ?c5 ?k5 ?a6 ?l6 ?c6 ?k6 ?a7 ?l7 ?c7 ?k7 ?a8 ?l8 ?c8 ?k8 ?a9 ?l9 ?c9 ?k9 ?a10 ?l10 ?c10 ?k10 ?a11 ?l11 ?c11 ?k11 ?a12 ?l12 ?c12 ?k12 ?a13 ?l13 ?c13 ?k13 ?a14 ?l14 ?c14 ?k14 ?a15 ?l15 ?c15 ?k15 ?a16 ?l16 ?c16 ?k16 ?a17 ?l17 ?c17 ?k17 ?a18 ?l18 ?c18 ?k18 ?a19 ?l19 ?c19 ?k19 ?a20 ?l20 ?c20 ?k20 ?a21 ?l21 ?c21 ?k21 ?a22 ?l22 ?c22 ?k22 ?bga_MendedError ?brd_MendedError ?bfi_MendedError ?xL_Entangled ?sa_Entangled ?ga_Entangled ?gg_Entangled ?kC_Entangled ?eC_Entangled ?tC_Entangled ?hd_Entangled ?ha_Entangled ?hm_Entangled ?sC_Entangled ?tI_Entangled ?n_Entangled_first ?n_Entangled_second ?hn ?ht ?s_Entangled_MendedError ?iC_MendedError ?tY_MendedError ?s_Entangled_ValueError ?s_Entangled_BadMark ?iC_BadMark ?tY_BadMark ?s_Entangled_EditError ?iC_EditError ?tY_EditError ?s_Entangled_GrammarError ?iC_GrammarError ?tY_GrammarError ?s_Entangled_HistoryError ?iC_HistoryError ?tY_HistoryError ?s_Entangled_NoLayer ?iC_NoLayer ?tY_NoLayer ?s_Entangled_NoMark ?iC_NoMark ?tY_NoMark ?s_Entangled_NoNode ?iC_NoNode ?tY_NoNode ?s_Entangled_NoWitness ?iC_NoWitness ?tY_NoWitness ?s_Entangled_PatternError ?iC_PatternError ?tY_PatternError ?s_Entangled_QueryError ?iC_QueryError ?tY_QueryError ?s_Entangled_TableError ?iC_TableError ?tY_TableError ?s_Entangled_TreeError ?iC_TreeError ?tY_TreeError ?s_Entangled_UnknownLanguage ?iC_UnknownLanguage ?tY_UnknownLanguage ?xb_Entangled_MendedError ?xd_Entangled_MendedError ?z0 ?z1 ?z2 ?z3 ?z4 ?z5 ?z6 ?z7 ?z8 ?z9 ?z10 ?z11 ?z12 ?z13
    (case g_MendedError => k_is); (case g_Entangled => k_is); (case g_BadMark => k_is); (case g_EditError => k_is); (case g_GrammarError => k_is); (case g_HistoryError => k_is); (case g_NoLayer => k_is); (case g_NoMark => k_is); (case g_NoNode => k_is); (case g_NoWitness => k_is); (case g_PatternError => k_is); (case g_QueryError => k_is); (case g_TableError => k_is); (case g_TreeError => k_is); (case g_UnknownLanguage => k_is); (case a0 => k_is); (case l0 => k_is); (case c0 => k_is); (case k0 => k_is); (case a1 => k_is); (case l1 => k_is); (case c1 => k_is); (case k1 => k_is); (case a2 => k_is); (case l2 => k_is); (case c2 => k_is); (case k2 => k_is); (case a3 => k_is); (case l3 => k_is); (case c3 => k_is); (case k3 => k_is); (case a4 => k_is); (case l4 => k_is); (case c4 => k_is); (case k4 => k_is); (case a5 => k_is); (case l5 => k_is); (case c5 => k_is); (case k5 => k_is); (case a6 => k_is); (case l6 => k_is); (case c6 => k_is); (case k6 => k_is); (case a7 => k_is); (case l7 => k_is); (case c7 => k_is); (case k7 => k_is); (case a8 => k_is); (case l8 => k_is); (case c8 => k_is); (case k8 => k_is); (case a9 => k_is); (case l9 => k_is); (case c9 => k_is); (case k9 => k_is); (case a10 => k_is); (case l10 => k_is); (case c10 => k_is); (case k10 => k_is); (case a11 => k_is); (case l11 => k_is); (case c11 => k_is); (case k11 => k_is); (case a12 => k_is); (case l12 => k_is); (case c12 => k_is); (case k12 => k_is); (case a13 => k_is); (case l13 => k_is); (case c13 => k_is); (case k13 => k_is); (case a14 => k_is); (case l14 => k_is); (case c14 => k_is); (case k14 => k_is); (case a15 => k_is); (case l15 => k_is); (case c15 => k_is); (case k15 => k_is); (case a16 => k_is); (case l16 => k_is); (case c16 => k_is); (case k16 => k_is); (case a17 => k_is); (case l17 => k_is); (case c17 => k_is); (case k17 => k_is); (case a18 => k_is); (case l18 => k_is); (case c18 => k_is); (case k18 => k_is); (case a19 => k_is); (case l19 => k_is); (case c19 => k_is); (case k19 => k_is); (case a20 => k_is); (case l20 => k_is); (case c20 => k_is); (case k20 => k_is); (case a21 => k_is); (case l21 => k_is); (case c21 => k_is); (case k21 => k_is); (case a22 => k_is); (case l22 => k_is); (case c22 => k_is); (case k22 => k_is); (case bga_MendedError => k_is); (case brd_MendedError => k_is); (case bfi_MendedError => k_is); (case xL_Entangled => k_is); (case sa_Entangled => k_is); (case ga_Entangled => k_is); (case gg_Entangled => k_is); (case kC_Entangled => k_is); (case eC_Entangled => k_is); (case tC_Entangled => k_is); (case hd_Entangled => k_is); (case ha_Entangled => k_is); (case hm_Entangled => k_is); (case sC_Entangled => k_is); (case tI_Entangled => k_is); (case n_Entangled_first => k_is); (case n_Entangled_second => k_is); (case hn => k_is); (case ht => k_is); (case s_Entangled_MendedError => k_is); (case iC_MendedError => k_is); (case tY_MendedError => k_is); (case s_Entangled_ValueError => k_is); (case s_Entangled_BadMark => k_is); (case iC_BadMark => k_is); (case tY_BadMark => k_is); (case s_Entangled_EditError => k_is); (case iC_EditError => k_is); (case tY_EditError => k_is); (case s_Entangled_GrammarError => k_is); (case iC_GrammarError => k_is); (case tY_GrammarError => k_is); (case s_Entangled_HistoryError => k_is); (case iC_HistoryError => k_is); (case tY_HistoryError => k_is); (case s_Entangled_NoLayer => k_is); (case iC_NoLayer => k_is); (case tY_NoLayer => k_is); (case s_Entangled_NoMark => k_is); (case iC_NoMark => k_is); (case tY_NoMark => k_is); (case s_Entangled_NoNode => k_is); (case iC_NoNode => k_is); (case tY_NoNode => k_is); (case s_Entangled_NoWitness => k_is); (case iC_NoWitness => k_is); (case tY_NoWitness => k_is); (case s_Entangled_PatternError => k_is); (case iC_PatternError => k_is); (case tY_PatternError => k_is); (case s_Entangled_QueryError => k_is); (case iC_QueryError => k_is); (case tY_QueryError => k_is); (case s_Entangled_TableError => k_is); (case iC_TableError => k_is); (case tY_TableError => k_is); (case s_Entangled_TreeError => k_is); (case iC_TreeError => k_is); (case tY_TreeError => k_is); (case s_Entangled_UnknownLanguage => k_is); (case iC_UnknownLanguage => k_is); (case tY_UnknownLanguage => k_is); (case xb_Entangled_MendedError => k_is); (case xd_Entangled_MendedError => k_is); (case z0 => k_is); (case z1 => k_is); (case z2 => k_is); (case z3 => k_is); (case z4 => k_is); (case z5 => k_is); (case z6 => k_is); (case z7 => k_is); (case z8 => k_is); (case z9 => k_is); (case z10 => k_is); (case z11 => k_is); (case z12 => k_is); (case z13 => k_is)
