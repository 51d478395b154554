import PyProof.Rows.All
import PySem.Challenge.RW_mendedtree_k32_tree_written
import HandS.ForMost
import HandS.ForExc
import HandS.IsInst
import HandS.Codes
import HandS.FStr
import HandS.FStrTup
import HandS.ExcInit
import HandS.ExcIs
import HandS.ExcField
import HandS.ClsMeth
import HandS.ExcValue
import HandS.Style
import HandS.ClsMeth
import KE.KOpsOwn
import HandS.Walk
import HandS.MakeKwOnly
import HandS.Star
import HandS.Text
import HandS.Rev
import KE.KIntText
import HandS.OwnEq
import PyProof.StrBlock2
import HandS.TryOnly
set_option Elab.async false
set_option linter.all false
set_option maxRecDepth 100000
set_option maxHeartbeats 4000000
namespace L2
open PySem PySem.Spec PyProof.Rows
/-- what the written part says of an own base class whose __init__ is ValueError's -/
structure BaseC (K : PySem.W.Frag) (C0 : Addr) : Prop where
  ga : PySem.W.specialIn K (.ref C0) "__getattribute__" = some (some (.builtin "type.__getattribute__"))
  rd : PySem.W.readsIn K C0 (.type "type") = true
  fi : PySem.W.findCls K (.ref C0) (.type "type") "__init__" = some (.val (.builtin "ValueError.__init__"))
section
variable {X : Cx} {e : Expr} {es : List Expr} {ta : TA} {p1 p2 pos : Pos} {x : Str} {C0 : Addr}
/-- Base.__init__(self, ..), Base an own class over ValueError without an __init__ of its own -/
theorem pe_baseInit {later : Sem Bool} (hg : Gl X x) (hm : X.mg x = some (.ref C0)) (B : BaseC X.K C0) (ha : PA X (e :: es) ta) (hdb : (x == ("__debug__" : Str)) = false := by decide)
    (told : eval (.Call (.Attribute (.Name x p1) "__init__" p2) (e :: es) [] pos) X.env = (do
      let cls ← eval (.Name x p1) X.env
      standAt p2.atName
      let (m, bound) ← holding [cls] (getMethod cls "__init__" later)
      callWith pos m bound (backTo pos (starEach (e :: es) X.env)) (backToKw pos (keywordEach [] X.env))) := by rfl)
    (one : starEach (e :: es) X.env = (false, eval e X.env) :: starEach es X.env := by rfl) (plain : (backTo pos (starEach es X.env)).any (·.1) = false := by rfl) :
    PE X (.Call (.Attribute (.Name x p1) "__init__" p2) (e :: es) [] pos) (tVeI X.K ta) := by
  constructor
  intro pins s σ H Q I h
  refine PySem.W.methodCall_KW (ld_glob I hg hm (PySem.W.method_cls I.kIn B.ga (PySem.W.cls_value I.kIn B.rd B.fi rfl ?_)) hdb) told
  refine PyProof.Rows.callWith_method1 (id := "ValueError.__init__") (thn (ha.run pos pins _ σ H _ (I.tok _) h) ?_) one plain
  rintro us s1 ⟨vs, H1, I1, r1, a, C, ws, rfl, few, T, here, q⟩
  cases r1 with
  | @cons _ u _ us' ra rw' =>
    have eu : u = Value.ref a := ra
    subst eu
    have n : us'.length ≤ sizeLine := by
      have := Paired.length rw'
      rw [sizeLine_eq]
      omega
    exact oinit_ok T I1 here n fun s2 I2 => ⟨.non, H1, I2, rfl, q⟩
end
end L2

namespace PySem.W
open PySem PySem.Spec PySem.Calls PyProof.Rows
section
variable {prog : Program} {w : World} {A : Around} {E : Value → Shared → Prop} {K : Frag} {D : Addr}
/-- what BaseException's reading of __class__ gives, asked of an error with or without a dict -/
theorem bexc_class {x : Addr} {ox : Obj} {od : Option Obj} {s : Shared} {tk : Tok} {R : Value → Shared → Prop} (C : L2.ExcC K D) (X : K.In s.heap) (I : InstAt s.heap x ox D od) (q : R (.ref D) s)
    (hf : findObj K D od "__class__" = some (.bind (.builtin "getset_descriptor.__get__") (.builtin "object.__class__"))) :
    wpAny (model prog w) A (call (.builtin "BaseException.__getattribute__") [.ref x, .str "__class__" tk]) R E s := by
  have ty := I.type (M := model prog w)
  have isExc : Looks (model prog w) s.heap (isInstance (.ref x) (.type "BaseException")) true := ty.andThen (looks_subIn X C.hs)
  refine wpAny_call (codeAny_call_builtin PySem.F.excAttr_ValueError.ga.plain PySem.F.entry_bexc_ga (@check_slot (model prog w) _ _ s "BaseException.__getattribute__" "BaseException" "__getattribute__" (.ref x) [.str "__class__" tk] [] _ (by decide +kernel) (by decide +kernel) isExc (PySem.F.args_bexc_ga (.ref x) (.str "__class__" tk)) ?_))
  unfold Builtin.«object.__getattribute__»
  refine wpAny_bind (wpAny_of_eq (a := ((Value.ref x : Value), [Value.str "__class__" tk])) (by first | rfl | (simp only [slotArgs]; rfl)) (wpAny_bind (wpAny_pure (wpAny_bind (ty.at (wpAny_bind ((looks_find (M := model prog w) X I hf).at ?_)))))))
  exact wpAny_bind (wpAny_holding (wpAny_call (class_get (ox := ox) (od := od) X I C.hm (wpAny_pure (by first | exact wpAny_pure q | exact q)))))
theorem if_no {b : Bool} {m n : Sem Value} {R : Value → Shared → Prop} {F : Value → Shared → Prop} {u : Shared} (e : b = false) (k : wpAny (model prog w) A n R F u) : wpAny (model prog w) A (if b = true then m else n) R F u := by
  subst e
  exact k
theorem class_of_err {x : Addr} {ox od : Obj} {s : Shared} {Q : Option Value → Shared → Prop} (C : L2.ExcC K D) (X : K.In s.heap) (I : InstAt s.heap x ox D (some od)) (q : Q (some (.ref D)) { s with toks := s.toks + 1 }) :
    wpAny (model prog w) A (getAttr? (.ref x) "__class__") Q E s := by
  have some_cls : (clsIn K D).isSome = true := by
    obtain ⟨c, e, _⟩ := any_some C.hd
    rw [e] <;> rfl
  have found := findObj_data (od := od) some_cls C.ha C.hn C.ht
  have other : (Value.builtin "BaseException.__getattribute__" == Value.builtin "object.__getattribute__") = false := by decide +kernel
  obtain ⟨hp, g, d, t, os⟩ := s
  have ty := I.type (M := model prog w)
  unfold getAttr? getAttrBy? getAttrBy
  refine wpAny_bind (wpAny_mkText (wpAny_bind (wpAny_attempt (wpAny_holding (wpAny_bind (ty.at (wpAny_bind ((looks_findIn (M := model prog w) X C.hg).at ?_))))))))
  refine if_no (by rw [other]; rfl) ?_
  unfold getAttrByItsOwn hookBefore
  refine wpAny_bind ?_
  rw [if_pos (by rfl : onTheHeap (Value.ref D) = true)]
  refine (looks_findIn (M := model prog w) X C.hk).at (wpAny_bind (wpAny_attempt (wpAny_holding ?_)))
  unfold callGetattribute
  refine if_no (by rfl) ?_
  unfold boundAndCalled
  rw [PySem.F.excAttr_ValueError.ga.bind (.ref x)]
  refine wpAny_bind (wpAny_pure (bexc_class C X I ?_ found))
  first
    | exact wpAny_pure (wpAny_pure q)
    | exact wpAny_bind (wpAny_pure (wpAny_pure q))
    | exact wpAny_pure q
    | exact wpAny_pure (wpAny_bind (wpAny_pure (wpAny_pure q)))
/-- isinstance of an error that has a dict -/
theorem own_kitx {x : Addr} {ox : Obj} (C : L2.ExcC K D) : KitX K (.ref x) (.ref D) (fun h => ∃ od, InstAt h x ox D (some od)) :=
  { ty := fun _ _ _ ⟨_, I⟩ => I.type
    it := fun M h X _ A' Q' E' s' k q => (mc_isType (s := s') (fun b o e => k b o (X b o e)) C.hd).at q
    ne := (handS_kitx_exc (x := x) (ox := ox) C.hg C.hk C.hs C.hd C.ha C.hn C.ht C.hm).ne
    ca := fun X ⟨_, I⟩ q => class_of_err C X I q }
end
end PySem.W
namespace L2
open PySem PySem.Spec PyProof.Rows
section
variable {X : Cx} {a D dd : Addr} {oe : Obj} {pn : List (Addr × Obj)}
theorem suite_inst {pins : List (Addr × Obj)} {σ : L2.St} {H : Hp} {s : Shared} {fs : List (Str × V)} (I : Inv (X.suite a ((a, oe) :: pn)) pins σ H s) (hz : Zc (.ref D) (some dd) oe) (hf : ∃ vs, oe.data = .fields vs) (hx : H dd = some (.xd fs)) :
    ∃ od, PySem.W.InstAt s.heap a oe D (some od) := by
  have here := (I.pin (a, oe) (by simp [Cx.suite])).1
  obtain ⟨vs, hv⟩ := hf
  have hdx : ObjOk X.prog X.w H s.heap dd (.xd fs) := I.hok dd _ hx
  obtain ⟨m, names, _⟩ := hdx
  obtain ⟨o, ho, _⟩ := lookIn_ns names
  refine ⟨o, here, hz.1, ?_, by rw [hz.2]; exact ho⟩
  unfold PySem.W.notCls
  rw [hv] <;> rfl
/-- isinstance(e, c), e the exception that the suite holds, with its dict at dd -/
def rIsD (K : PySem.W.Frag) (D a dd : Addr) : List V → Hp → VK → Prop := fun xs H Q => ∃ (c : V) (cv : Value) (b : Bool) (fs : List (Str × V)), xs = [.ref a, c] ∧ ClsV c cv ∧ H dd = some (.xd fs) ∧ PySem.W.kitOne K (.ref D) cv = some b ∧ Q (.bl b) H
theorem call_isD (C : ExcC X.K D) (hz : Zc (.ref D) (some dd) oe) (hf : ∃ vs, oe.data = .fields vs) : CallR (X.suite a ((a, oe) :: pn)) (.builtin "isinstance") (rIsD X.K D a dd) := by
  rintro pins s σ H xs us Q I r ⟨c, cv, b, fs, rfl, hcv, hx, e, q⟩
  obtain ⟨w1, w2, rfl, p1, p2⟩ := vals2 r
  have e1 : w1 = Value.ref a := p1
  have e2 := hcv.eq p2
  subst e1 e2
  exact PySem.W.kia_one (PySem.W.own_kitx C) I.kIn (suite_inst I hz hf hx) e nofun fun tk => ⟨.bl b, H, I.kept (t' := tk) fun _ _ z => z, rfl, q⟩
/-- isinstance(e, (c1, c2, ..)) -/
def rIsDT (K : PySem.W.Frag) (D a dd : Addr) : List V → Hp → VK → Prop := fun xs H Q => ∃ (tp : Addr) (cs : List V) (us : List Value) (b : Bool) (fs : List (Str × V)), xs = [.ref a, .ref tp] ∧ H tp = some (.tup cs) ∧ Paired ClsV cs us ∧ H dd = some (.xd fs) ∧ PySem.W.kitAny K (.ref D) us = some b ∧ Q (.bl b) H
theorem call_isDT (C : ExcC X.K D) (hz : Zc (.ref D) (some dd) oe) (hf : ∃ vs, oe.data = .fields vs) : CallR (X.suite a ((a, oe) :: pn)) (.builtin "isinstance") (rIsDT X.K D a dd) := by
  rintro pins s σ H xs us Q I r ⟨tp, cs, ws, b, fs, rfl, hT, k, hx, e, q⟩
  obtain ⟨w1, w2, rfl, p1, p2⟩ := vals2 r
  have e1 : w1 = Value.ref a := p1
  have e2 : w2 = Value.ref tp := p2
  subst e1 e2
  have hok : ObjOk X.prog X.w H s.heap tp (.tup cs) := I.hok tp _ hT
  obtain ⟨_, its, rv, ⟨oc, od, dt, sl⟩, g1, g2, n, g3⟩ := hok
  have e3 := ClsV.all k rv
  dsimp only at g2 g3
  subst e3 g2 g3
  exact PySem.W.kia_tup (PySem.W.own_kitx C) I.kIn (suite_inst I hz hf hx) g1 e nofun fun tk => ⟨.bl b, H, I.kept (t' := tk) fun _ _ z => z, rfl, q⟩
end
end L2

namespace L2
open PySem PySem.Spec PyProof.Rows
/-- an own error class (name) at C, with an __init__ of its own at fI -/
structure ErrK (K : PySem.W.Frag) (mg : Str → Option Value) (name : Str) (C fI : Addr) : Prop where
  g : mg name = some (.ref C)
  oex : OexC K C
  iC : PySem.W.findIn K (.ref C) "__init__" = some (some (.ref fI))
  tI : PySem.W.typeIn K (.ref fI) = some (.type "function")
  exc : ExcC K C
  xf : XfC K C
  self : PySem.W.exmOne K (.ref C) (.ref C) = some true
theorem errK_mk {K : PySem.W.Frag} {mg : Str → Option Value} {name : Str} {C fI : Addr}
    {nm q : Str} {N : Addr} {bs bm : List Value} {sn : List Str} {sub : List Value} {ab : Bool} {col : Option Bool} {dd : Option Addr} {m0 m1 m2 m3 m5 : Option Value}
    (g : mg name = some (.ref C)) (xL : K.lookup C = some (excClassObj nm q C N bs bm true sn sub ab col dd m0 m1 m2 m3 m5 "ValueError.__new__")) (hbm : PySem.HandSPX.refsVE bm = true)
    (sa : PySem.W.findIn K (.ref C) "__setattr__" = some (some (.builtin "object.__setattr__"))) (ga : PySem.W.findIn K (.ref C) "__getattribute__" = some (some (.builtin "BaseException.__getattribute__"))) (gg : PySem.W.findIn K (.ref C) "__getattr__" = some none)
    (iC : PySem.W.findIn K (.ref C) "__init__" = some (some (.ref fI))) (tI : PySem.W.typeIn K (.ref fI) = some (.type "function")) (kC : PySem.W.keepIn K (.ref C) = true) (eC : PySem.W.subIn K (.ref C) (.type "BaseException") = some true) (tC : PySem.W.typeIn K (.ref C) = some (.type "type"))
    (hd : PySem.W.hasDictIn K C = true) (ha : PySem.W.findIn K (.ref C) "__class__" = some (some (.builtin "object.__class__"))) (hn : PySem.W.specialIn K (.builtin "object.__class__") "__get__" = some (some (.builtin "getset_descriptor.__get__")))
    (ht : PySem.W.takesIn K (.builtin "object.__class__") = some true) (hm : PySem.W.mroIn K C (.type "object") = some true) (sC : PySem.W.subIn K (.ref C) (.ref C) = some true) : ErrK K mg name C fI :=
  { g := g, oex := ⟨⟨nm, q, N, bs, bm, sn, sub, ab, col, dd, m0, m1, m2, m3, m5, xL, hbm⟩, sa, eC, tC, kC⟩, iC := iC, tI := tI, exc := ⟨ga, gg, eC, hd, ha, hn, ht, hm⟩, xf := ⟨ga, gg, eC, hd⟩, self := PySem.W.exm_ref eC hd tC sC }
/-- what making such an error with one field leaves: an error whose dict holds the field, all else as it was -/
def spInit1 (f : Str) (C : Addr) (ok : V → Prop) : Sp := fun vs H Q _ => ∃ (a : Addr) (v : V), vs = [.ref a, v] ∧ ok v ∧ H a = some (exo a C none) ∧ ∀ dx, H dx = none → dx ≠ a → Q .non (upd (upd H dx (exd dx [(f, v)])) a (exo a C (some dx)))
theorem made1 {H : Hp} {a dx C : Addr} {f : Str} {v : V} {fs : List (Str × V)} (na : H a = none) (nd : (upd H a (exo a C none)) dx = none) (hne : dx ≠ a) :
    H dx = none ∧ Same H (upd (del (upd (upd (upd H a (exo a C none)) dx (exd dx fs)) a (exo a C (some dx))) a) dx (.xd fs)) ∧ (upd (del (upd (upd (upd H a (exo a C none)) dx (exd dx fs)) a (exo a C (some dx))) a) dx (.xd fs)) dx = some (.xd fs) := by
  have nd' : H dx = none := by
    rw [upd_ne hne] at nd
    exact nd
  refine ⟨nd', fun b o e => ?_, upd_same⟩
  have h1 : b ≠ dx := ne_of_none e nd'
  have h2 : b ≠ a := ne_of_none e na
  rw [upd_ne h1, del_ne h2, upd_ne h2, upd_ne h1, upd_ne h2]
  exact e
/-- the reading of C(e), from such a promise of __init__ -/
theorem mk1 {C : Addr} {f : Str} {ok : V → Prop} {ta : TA} {σ : L2.St} {H : Hp} {Q : XK} (h : ta σ H fun vs H1 => ∃ v, vs = [v] ∧ ok v ∧ ∀ d H', Same H1 H' → H1 d = none → H' d = some (.xd [(f, v)]) → Q (.ref C) (some d) H')
    (mono : ∀ Q1 Q2 : List V → Hp → Prop, (∀ vs H1, Q1 vs H1 → Q2 vs H1) → ta σ H Q1 → ta σ H Q2) : tMkO C (spInit1 f C ok) [] ta σ H Q := by
  refine mono _ _ (fun vs H1 h1 => ?_) h
  obtain ⟨v, rfl, hv, q⟩ := h1
  refine ⟨by show 1 ≤ 1000; decide, fun a na => ⟨a, v, rfl, hv, upd_same, fun dx nd hne => ⟨rfl, dx, [(f, v)], upd_same, ?_, ?_, ?_⟩⟩⟩
  · rw [upd_ne hne, upd_same]
  · exact (made1 (f := f) (v := v) (fs := [(f, v)]) na nd hne).1
  · obtain ⟨m1, m2, m3⟩ := made1 (f := f) (v := v) (fs := [(f, v)]) na nd hne
    exact q dx _ m2 m1 m3
end L2
namespace L2
open PySem PySem.Spec PyProof.Rows
theorem kit_refT {K : PySem.W.Frag} {C D : Addr} (h : PySem.W.subIn K (.ref C) (.ref D) = some true) (i : PySem.W.isClsIn K D = true) (t : PySem.W.typeIn K (.ref D) = some (.type "type")) : PySem.W.kitOne K (.ref C) (.ref D) = some true := by
  unfold PySem.W.kitOne
  split
  · rfl
  · show (if ((PySem.W.clsIn K D).isSome && PySem.W.typeIn K (.ref D) == some (.type "type")) = true then PySem.W.subIn K (.ref C) (.ref D) else none) = some true
    have i' : (PySem.W.clsIn K D).isSome = true := i
    rw [i', t, h]
    rfl
theorem kit_refF {K : PySem.W.Frag} {C D : Addr} (h0 : PySem.W.subIn K (.ref C) (.ref C) = some true) (h : PySem.W.subIn K (.ref C) (.ref D) = some false) (i : PySem.W.isClsIn K D = true) (t : PySem.W.typeIn K (.ref D) = some (.type "type")) : PySem.W.kitOne K (.ref C) (.ref D) = some false := by
  have hne : (Value.ref C == Value.ref D) = false := by
    rw [beq_eq_false_iff_ne]
    intro e
    have e' : C = D := Value.ref.inj e
    rw [← e', h0] at h
    cases h
  unfold PySem.W.kitOne
  rw [hne]
  show (if ((PySem.W.clsIn K D).isSome && PySem.W.typeIn K (.ref D) == some (.type "type")) = true then PySem.W.subIn K (.ref C) (.ref D) else none) = some false
  have i' : (PySem.W.clsIn K D).isSome = true := i
  rw [i', t, h]
  rfl
theorem kit_refTy {K : PySem.W.Frag} {C : Addr} {T : String} {b : Bool} (h : PySem.W.subIn K (.ref C) (.type T) = some b) (m : PySem.W.kitMeta T = true) : PySem.W.kitOne K (.ref C) (.type T) = some b := by
  unfold PySem.W.kitOne
  have hne : (Value.ref C == Value.type T) = false := by
    rw [beq_eq_false_iff_ne]
    intro e
    cases e
  rw [hne]
  show (if PySem.W.kitMeta T = true then PySem.W.subIn K (.ref C) (.type T) else none) = some b
  rw [if_pos m, h]
end L2

namespace L2
open PySem PySem.Spec PyProof.Rows
theorem passX0 {P : Program} {w : World} {X : Cx} (e1 : X.prog = P) (e2 : X.w = w) : Passes (L2.CX P w) X E0 := fun _ _ _ _ _ _ _ c => by
  obtain ⟨_, _, _, _, _, _, _, _, _, _, _, _, z⟩ := c
  exact z.elim
section
variable {X : Cx} {a : Addr} {oe : Obj} {pn : List (Addr × Obj)} {cls : Value} {d : Option Addr}
/-- isinstance(e, c) in the suite that holds e -/
def rIsX (K : PySem.W.Frag) (a : Addr) (cls : Value) (d : Option Addr) : List V → Hp → VK → Prop := fun xs H Q => ∃ (D dd : Addr), cls = .ref D ∧ d = some dd ∧ ExcC K D ∧ rIsD K D a dd xs H Q
theorem call_isX (hz : Zc cls d oe) (hf : ∃ vs, oe.data = .fields vs) : CallR (X.suite a ((a, oe) :: pn)) (.builtin "isinstance") (rIsX X.K a cls d) := by
  rintro pins s σ H xs us Q I r ⟨D, dd, rfl, rfl, C, h⟩
  exact call_isD C hz hf pins s σ H xs us Q I r h
/-- isinstance(e, (c1, ..)) -/
def rIsXT (K : PySem.W.Frag) (a : Addr) (cls : Value) (d : Option Addr) : List V → Hp → VK → Prop := fun xs H Q => ∃ (D dd : Addr), cls = .ref D ∧ d = some dd ∧ ExcC K D ∧ rIsDT K D a dd xs H Q
theorem call_isXT (hz : Zc cls d oe) (hf : ∃ vs, oe.data = .fields vs) : CallR (X.suite a ((a, oe) :: pn)) (.builtin "isinstance") (rIsXT X.K a cls d) := by
  rintro pins s σ H xs us Q I r ⟨D, dd, rfl, rfl, C, h⟩
  exact call_isDT C hz hf pins s σ H xs us Q I r h
end
end L2

namespace L2
open PySem PySem.Spec PyProof.Rows
/-- an error object of the own class at C, held as a value, its dict at d -/
def erv (a C : Addr) (d : Option Addr) : HO := .ext fun hp => ∃ (oe : Obj) (vs : Array Value), hp.get? a = some oe ∧ Zc (.ref C) d oe ∧ oe.data = .fields vs
section
variable {X : Cx} {pins : List (Addr × Obj)} {σ : L2.St} {H : Hp} {s : Shared} {a C dd : Addr} {fs : List (Str × V)}
theorem erv_ok {P : Program} {w : World} {hp : Heap} {d : Option Addr} {oe : Obj} {vs : Array Value} (h1 : hp.get? a = some oe) (h2 : Zc (.ref C) d oe) (h3 : oe.data = .fields vs) : ObjOk P w H hp a (erv a C d) :=
  ⟨⟨oe, vs, h1, h2, h3⟩, ⟨oe, h1⟩, fun _ _ ⟨o1, v1, k1, k2, k3⟩ more => ⟨o1, v1, more _ k1, k2, k3⟩⟩
/-- what makes an error also gives it as a value -/
theorem pe_ofMk {e : Expr} {t : L2.St → Hp → XK → Prop} (h : PMk X e t) :
    PE X e (fun σ H Q => t σ H fun cls d H1 => ∃ C, cls = .ref C ∧ ∀ a, H1 a = none → Q (.ref a) (upd H1 a (erv a C d))) := by
  constructor
  intro pins s σ H Q I hw
  refine thn (h pins s σ H _ I hw) ?_
  rintro u s1 ⟨a, oe, vs, sI, H1, cls, d, eu, I1, kp, n1, ho, hz, hd, _, n2, os, bare, _, C, ec, q⟩
  subst eu
  subst ec
  refine ⟨.ref a, upd H1 a (erv a C d), ?_, rfl, q a n2⟩
  exact I1.call' (ch := []) os (Un.laidN kp n1 n2) (I1.hok.laidN kp n2 (erv_ok ho hz hd)) bare (by simp)
/-- where the error and its dict stand -/
theorem erv_inst (I : Inv X pins σ H s) (ha : H a = some (erv a C (some dd))) (hx : H dd = some (.xd fs)) :
    ∃ (oe : Obj) (m : Str → Option Value) (od : Option Obj), PySem.W.InstAt s.heap a oe C od ∧ (∃ o, od = some o) ∧ (∀ n, PySem.W.lookIn n (od.getD oe) = some (m n)) ∧ ∀ f, RelO (fs.lookup f) (m f) := by
  have k1 : ObjOk X.prog X.w H s.heap a (.ext fun hp => ∃ (oe : Obj) (vs : Array Value), hp.get? a = some oe ∧ Zc (.ref C) (some dd) oe ∧ oe.data = .fields vs) := I.hok a _ ha
  obtain ⟨⟨oe, vs, g1, g2, g3⟩, _⟩ := k1
  have k2 : ObjOk X.prog X.w H s.heap dd (.xd fs) := I.hok dd _ hx
  obtain ⟨m, k3, k4⟩ := k2
  obtain ⟨o, k5, k6⟩ := lookIn_ns k3
  refine ⟨oe, m, some o, ⟨g1, g2.1, ?_, ?_⟩, ⟨o, rfl⟩, k6, k4⟩
  · unfold PySem.W.notCls
    rw [g3] <;> rfl
  · rw [g2.2]
    exact k5
/-- isinstance(x, c), x an error that is held as a value -/
def rIsV (K : PySem.W.Frag) : List V → Hp → VK → Prop := fun xs H Q => ∃ (a C dd : Addr) (fs : List (Str × V)) (c : V) (cv : Value) (b : Bool), xs = [.ref a, c] ∧ H a = some (erv a C (some dd)) ∧ H dd = some (.xd fs) ∧ ExcC K C ∧ ClsV c cv ∧ PySem.W.kitOne K (.ref C) cv = some b ∧ Q (.bl b) H
theorem call_isV : CallR X (.builtin "isinstance") (rIsV X.K) := by
  rintro pins s σ H xs us Q I r ⟨a, C, dd, fs, c, cv, b, rfl, ha, hx, T, hcv, e, q⟩
  obtain ⟨w1, w2, rfl, p1, p2⟩ := vals2 r
  have e1 : w1 = Value.ref a := p1
  have e2 := hcv.eq p2
  subst e1 e2
  obtain ⟨oe, m, od, J, ⟨o, eo⟩, _⟩ := erv_inst I ha hx
  subst eo
  exact PySem.W.kia_one (PySem.W.own_kitx T) I.kIn ⟨o, J⟩ e nofun fun tk => ⟨.bl b, H, I.kept (t' := tk) fun _ _ z => z, rfl, q⟩
/-- x.f, x an error that is held as a value -/
def tFxE (K : PySem.W.Frag) (f : Str) (te : TE) : TE := fun σ H Q => te σ H fun x H1 => ∃ (a C dd : Addr) (fs : List (Str × V)) (v : V), x = .ref a ∧ XfC K C ∧ PySem.W.findIn K (.ref C) f = some none ∧ H1 a = some (erv a C (some dd)) ∧ H1 dd = some (.xd fs) ∧ fs.lookup f = some v ∧ Q v H1
theorem pe_fxE {e : Expr} {te : TE} {pos : Pos} {n : Str} (he : PE X e te) (hb : attributeBase e n X.env (eval e X.env) = eval e X.env := by rfl) : PE X (.Attribute e n pos) (tFxE X.K n te) := by
  constructor
  intro pins s σ H Q I h
  refine attr_of hb (thn (he.run pins s σ H _ I h) ?_)
  rintro y s1 ⟨x, H1, I1, rx, a, C, dd, fs, v, ex, T, hno, ha, hx, l, q⟩
  subst ex
  have ey : y = Value.ref a := rx
  subst ey
  obtain ⟨oe, m, od, J, ⟨o, eo⟩, k1, k2⟩ := erv_inst I1 ha hx
  subst eo
  have k3 := k2 n
  rw [l] at k3
  obtain ⟨val, k4, k5⟩ := RelO.some_of k3
  have k6 : PySem.W.lookIn n o = some (some val) := by
    rw [← k4]
    exact k1 n
  exact HandSPX.exc_get I1.kIn J T.ga T.gg T.exC (PySem.W.findObj_own T.hdC hno rfl k6) (handed_of k5) ⟨v, H1, I1.tok _, k5, q⟩
end
end L2

namespace L2
open PySem PySem.Spec PyProof.Rows
/-- a flat item as repr tells it -/
def sText : V → Str
  | .int i => toString i
  | .str y => reprText y
  | _ => Str.empty
def sOk : V → Prop
  | .int i => i.natAbs.log2 < 1920
  | .str y => ∀ c ∈ y.cps.toList, c < 16 ^ 8
  | _ => False
def sCost : V → Nat
  | .int _ => 1925
  | .str y => 10 * y.length + 4
  | _ => 0
theorem sText_len {v : V} (h : sOk v) : (sText v).length + 2 ≤ sCost v := by
  cases v with
  | int i =>
    have := PyProof.Rows.int_text_len_1921 (i := i) h
    show (Str.ofString (toString i)).length + 2 ≤ 1925
    omega
  | str y =>
    have := StrLaws.reprText_len y h
    show (reprText y).length + 2 ≤ 10 * y.length + 4
    omega
  | _ => exact False.elim h
def sCosts (l : List V) : Nat := (l.map sCost).sum
theorem sCosts_cons (v : V) (l : List V) : sCosts (v :: l) = sCost v + sCosts l := by
  unfold sCosts
  rw [List.map_cons, List.sum_cons]
theorem s_piled : ∀ l : List V, (∀ v ∈ l, sOk v) → piled (l.map sText) ≤ sCosts l
  | [], _ => Nat.zero_le _
  | v :: l, h => by
    have h1 := sText_len (h v List.mem_cons_self)
    have h2 := s_piled l fun x hx => h x (List.mem_cons_of_mem _ hx)
    rw [List.map_cons, piled_cons, sCosts_cons]
    omega
theorem repr_allS {prog : Program} {w : World} : ∀ {l : List V} {its : List Value}, Vals l its → (∀ v ∈ l, sOk v) → sCosts l ≤ sizeLine → ReprAll prog w its (l.map sText)
  | [], _, r, _, _ => by
    cases r
    exact .nil
  | v :: l, _, r, h, hz => by
    cases r with
    | @cons _ u _ us r1 r2 =>
      have h1 := h v List.mem_cons_self
      have hl := sText_len h1
      rw [sCosts_cons] at hz
      have k : ReprIs prog w u (sText v) := by
        cases v with
        | int i =>
          obtain ⟨t, rfl⟩ := r1
          exact ReprIs.int t h1
        | str y =>
          obtain ⟨t, rfl⟩ := r1
          exact ReprIs.str y t (by have : (reprText y).length + 2 ≤ sCost (.str y) := hl; omega)
        | _ => exact False.elim h1
      exact .cons k (repr_allS r2 (fun x hx => h x (List.mem_cons_of_mem _ hx)) (by omega))
section
variable {X : Cx}
/-- {t}, t a tuple of ints and texts: some text -/
def tFmtS (K : PySem.W.Frag) (te : TE) : TE := fun σ H Q => te σ H fun x H1 => ∃ (a : Addr) (l : List V), x = .ref a ∧ SqT K H1 a l ∧ (∀ v ∈ l, sOk v) ∧ sCosts l + 7 ≤ sizeLine ∧ ∀ m : Str, m.length ≤ sCosts l + 7 → Q (.str m) H1
theorem pe_fmtS {e : Expr} {te : TE} {pos : Pos} {k : Nat} (hr : Room k X.A) (he : PE X e te) : PE X (.FormattedValue e (-1) none pos) (tFmtS X.K te) := by
  refine ⟨fun pins s σ H Q I h => ?_⟩
  refine wpAny_FormattedValue_plain (thn (he.run pins s σ H _ I h) fun v s1 hv => ?_)
  obtain ⟨x, H1, I1, r1, a, l, rfl, ht, hc, hz, q⟩ := hv
  cases r1
  obtain ⟨its, rv, ⟨o, ho, hcl, n, hd⟩, _⟩ := I1.tuple ht
  have hp := s_piled l hc
  have htx := fmt_text (l.map sText)
  have hu := hr.units
  exact fmt_tuple (ts := l.map sText) (by omega) ho hcl hd (repr_allS rv hc (by omega)) (by omega) fun m u tk hm => ⟨.str m, H1, I1.tok _, ⟨u, rfl⟩, q m (by omega)⟩
end
/-- x = e and what follows, e's reading first -/
theorem seq_asg {te : TE} {g : TG} {b : TS} {D : Ends} {σ : L2.St} {H : Hp} (h : te σ H fun x H1 => g x σ H1 fun σ2 H2 => b D σ2 H2) : tSeq (tAsg te g) b D σ H := h
/-- what making an error leaves: an error whose dict holds the fields fs, all else as it was -/
def spInitN (C : Addr) (n : Nat) (ok : Hp → List V → Prop) (fs : List V → List (Str × V)) : Sp := fun vs H Q _ => ∃ (a : Addr) (ws : List V), vs = .ref a :: ws ∧ ws.length = n ∧ ok H ws ∧ H a = some (exo a C none) ∧
  ∀ dx H', H dx = none → dx ≠ a → H' a = some (exo a C (some dx)) → H' dx = some (exd dx (fs ws)) → (∀ b, b ≠ a → b ≠ dx → H' b = H b) → Q .non H'
theorem mkN {C : Addr} {n : Nat} {ok : Hp → List V → Prop} {fs : List V → List (Str × V)} {ta : TA} {σ : L2.St} {H : Hp} {Q : XK}
    (h : ta σ H fun ws H1 => ws.length = n ∧ ws.length ≤ 1000 ∧ (∀ a, H1 a = none → ok (upd H1 a (exo a C none)) ws) ∧ ∀ d H', Same H1 H' → H1 d = none → H' d = some (.xd (fs ws)) → Q (.ref C) (some d) H')
    (mono : ∀ Q1 Q2 : List V → Hp → Prop, (∀ vs H1, Q1 vs H1 → Q2 vs H1) → ta σ H Q1 → ta σ H Q2) : tMkO C (spInitN C n ok fs) [] ta σ H Q := by
  refine mono _ _ (fun ws H1 h1 => ?_) h
  obtain ⟨hn, hz, hk, q⟩ := h1
  refine ⟨hz, fun a na => ⟨a, ws, by rw [List.append_nil], hn, hk a na, upd_same, fun dx H' nd hne ha hd hb => ⟨rfl, dx, fs ws, ha, hd, ?_, ?_⟩⟩⟩
  · rw [upd_ne hne] at nd
    exact nd
  · rw [upd_ne hne] at nd
    refine q dx _ (fun b o e => ?_) nd upd_same
    have h1 : b ≠ a := ne_of_none e na
    have h2 : b ≠ dx := ne_of_none e nd
    rw [upd_ne h2, del_ne h1, hb b h1 h2, upd_ne h1]
    exact e
end L2

/-! ### list(reversed(t)), t a tuple -/
namespace OwnOp
open PySem PySem.Spec PyProof.Rows L2 RT
theorem nolen_rt : typeLookup (.type "reversed") "__len__" = pure none := by rw [typeLookup_type, builtinLookup_eq_fast]; kernel_rfl
theorem slot_rt_hint : Slot "reversed" "__length_hint__" "reversed.__length_hint__" :=
  .of (owner := "reversed") (n := "__length_hint__") (by rw [typeLookup_type, builtinLookup_eq_fast]; kernel_rfl) (by decide +kernel) (by decide +kernel) (by decide +kernel)
    (by first | exact .inl (by decide +kernel) | exact .inr (by decide +kernel)) (by rw [isSubtype_type]; kernel_rfl)
theorem entry_rt_hint : entryFor table "reversed.__length_hint__" = some Builtin.«reversed.__length_hint__» := entryFor_of_tree (by kernel_rfl)
theorem args_rt_hint (a : Value) : argsOk "reversed.__length_hint__" ⟨[a], []⟩ := by
  unfold argsOk; rw [signature?_of (id := "reversed.__length_hint__") (n := ['_', '_', 't', 'n', 'i', 'h', '_', 'h', 't', 'g', 'n', 'e', 'l', '_', '_']) (o := ['d', 'e', 's', 'r', 'e', 'v', 'e', 'r']) (by kernel_rfl) owner_rt]; kernel_rfl
theorem bind_hint (self : Value) : bindSpecial (.builtin "reversed.__length_hint__") self = pure (.builtin "reversed.__length_hint__", [self]) := by
  unfold bindSpecial
  kernel_rfl
section
variable {prog : Program} {w : World} {A : Around} {E : Value → Shared → Prop} {s : Shared}
theorem hint_rt {it t : Addr} {items : Array Value} {Q : Bool → Shared → Prop} (hit : IsRt s.heap it t ((items.size : Int) - 1)) (ht : IsTup s.heap t items) (hsz : items.size ≤ sizeLine)
    (h : ∀ tk k, Q k { s with toks := tk }) : wpAny (model prog w) A (Builtin.List.listLengthHint (.ref it)) Q E s := by
  obtain ⟨o, ho, hc, hd⟩ := id hit
  rw [sizeLine_eq] at hsz
  unfold Builtin.List.listLengthHint
  refine wpAny_bind (wpAny_specialOf hit.typeIs nolen_rt ?_)
  refine PySem.W.KFB.if_not rfl (PySem.W.KFB.if_not rfl ?_)
  refine wpAny_bind (wpAny_specialOf hit.typeIs slot_rt_hint.lookup ?_)
  refine wpAny_bind (m := isInstance (.ref it) (.type "reversed")) (wpAny_isInstance (b := true) hit.typeIs (by rw [isSubtype_type]; kernel_rfl) ?_)
  refine PySem.W.KFB.if_not rfl ?_
  refine PySem.W.KFB.if_not (by kernel_rfl) ?_
  refine wpAny_bind (wpAny_rule ?_)
  refine wpAny_bind (m := bindSpecial (.builtin "reversed.__length_hint__") (.ref it)) (wpAny_of_eq (bind_hint _) ?_)
  refine wpAny_bind (wpAny_attempt (wpAny_call_entry (T := "reversed") slot_rt_hint hit.typeIs entry_rt_hint ?_ (args_rt_hint _)))
  unfold Builtin.«reversed.__length_hint__»
  refine wpAny_bind (wpAny_of_eq (a := Value.ref it) rfl ?_)
  refine wpAny_bind (wpAny_field ho hd (x := .ref t) rfl ?_)
  refine PySem.W.KFB.if_not rfl ?_
  refine wpAny_bind (PyProof.Rows.len_tuple ht (by omega) ?_)
  refine wpAny_bind (m := asInt? _) (wpAny_of_eq (a := some (items.size : Int)) (by rfl) ?_)
  refine wpAny_bind (wpAny_field (s := { s with toks := s.toks + 1 + 1 }) ho hd (x := rawInt ((items.size : Int) - 1)) rfl ?_)
  show wpAny _ _ (if (items.size : Int) < (items.size : Int) - 1 + 1 then _ else _) _ _ _
  rw [if_neg (by omega)]
  have e : (items.size : Int) - 1 + 1 = (items.size : Int) := by omega
  rw [e]
  unfold retInt
  refine wpAny_bind (wpAny_mkInt ?_)
  refine wpAny_pure ⟨_, rfl, ?_⟩
  generalize hz : s.toks + 1 + 1 + 1 = tk
  try dsimp only
  refine wpAny_bind ?_
  unfold asInt?
  refine wpAny_pure ?_
  try dsimp only
  have f1 : Builtin.List.listFitsIndex (items.size : Int) = true := by
    unfold Builtin.List.listFitsIndex
    simp only [Bool.and_eq_true, decide_eq_true_eq]
    omega
  have f2 : Builtin.List.listTooLong ((items.size : Int)).toNat = false := by
    unfold Builtin.List.listTooLong
    rw [sizeLine_eq]
    simp only [Int.toNat_natCast, decide_eq_false_iff_not]
    omega
  rw [f1, if_neg (by decide), if_neg (by omega), f2, if_neg (by decide)]
  refine wpAny_pure ?_
  exact h _ _
end
section
variable {X : Cx}
theorem rev_at {xs : List V} {i : Nat} (h : i < xs.length) : xs.reverse[i]? = xs[xs.length - 1 - i]? := List.getElem?_reverse h
theorem rt_loop {A1 : Around} {pins : List (Addr × Obj)} {σ : L2.St} {H : Hp} {q t it : Addr} {xs : List V} {Rs : Result → Shared → Prop} (hA : A1.in1.handled = Option.none) (hq : H q = Option.none) (ht : ∀ o, SqT X.K (upd H q o) t xs) (hqi : it ≠ q)
    (fp : H it = Option.none ∧ it ≠ X.env.locals ∧ (it ∈ X.ex ∨ X.s_0.heap.objs.size ≤ it) ∧ (∀ x c, X.env.cells.lookup x = some c → c ≠ it) ∧ ∀ p ∈ X.pn ++ pins, p.1 ≠ it)
    (hdone : ∀ s, Inv X pins σ (upd H q (.lst xs.reverse)) s → Rs (.ok (.ret .none)) s) (hlen : xs.length < sizeLine) :
    ∀ (m i : Nat) (s : Shared), xs.length - i = m → i ≤ xs.length → Inv X pins σ (upd H q (.lst (xs.reverse.take i))) s → IsRt s.heap it t ((xs.length : Int) - 1 - (i : Int)) → codeAny (model X.prog X.w) A1 (.builtin "list.extend.loop" ⟨[.ref q, .ref it, .none], []⟩) Rs s := by
  obtain ⟨f0, f1, f3, f4, f5⟩ := fp
  have f0' : ∀ o, (upd H q o) it = Option.none := fun o => by rw [upd_ne hqi]; exact f0
  have rl : xs.reverse.length = xs.length := List.length_reverse
  intro m
  induction m with
  | zero =>
    intro i s hm hi I st
    have e : i = xs.length := by omega
    subst e
    rw [List.take_of_length_le (by omega)] at I
    rw [show (xs.length : Int) - 1 - (xs.length : Int) = -1 by omega] at st
    refine codeAny_builtin PySem.F.entry_extend_loop ?_
    rw [Around.under_plainId PySem.F.plain_extend_loop _]
    show wpAny _ A1.in1 (pyNext (.ref it) >>= _) _ _ s
    refine wpAny_bind (next_rt_end hA st fun h' eb => ?_)
    exact wpAny_pure (hdone _ (I.turned (t' := s.toks) (fun b o hb z => eb b o hb z) (f0' _) f1 f3 f4 f5))
  | succ m ih =>
    intro i s hm hi I st
    have hlt : i < xs.length := by omega
    obtain ⟨its, rv, p, hz⟩ := I.tuple (ht _)
    have hj : xs.length - 1 - i < xs.length := by omega
    obtain ⟨u, hu, ru⟩ := rv.get (List.getElem?_eq_getElem hj)
    rw [show (xs.length : Int) - 1 - (i : Int) = ((xs.length - 1 - i : Nat) : Int) by omega] at st
    refine codeAny_builtin PySem.F.entry_extend_loop ?_
    rw [Around.under_plainId PySem.F.plain_extend_loop _]
    show wpAny _ A1.in1 (pyNext (.ref it) >>= _) _ _ s
    have hl0 := rv.length
    refine wpAny_bind (next_rt_item st p (x := u) (by simpa using hu) (by rw [List.size_toArray]; omega) fun h' st' sb => ?_)
    have I1 : Inv X pins σ (upd H q (.lst (xs.reverse.take i))) { s with heap := h', toks := s.toks + 1 } := I.turned (t' := s.toks + 1) (fun b o hb z => (sb.2 b hb).trans z) (f0' _) f1 f3 f4 f5
    show wpAny _ A1.in1 (updateSeq q (·.push u) >>= _) _ _ _
    obtain ⟨z, its2, k, r2, hl, e⟩ := I1.lstM upd_same
    have lt2 : its2.length < sizeLine := by rw [← hl, List.length_take]; omega
    have I2 := I1.lset (its' := its2 ++ [u]) (ys := xs.reverse.take (i + 1)) (f := (·.push u)) (t' := s.toks + 1) upd_same e (by simp) (by rw [List.take_add_one, rev_at hlt, List.getElem?_eq_getElem hj]; exact r2.append (.cons ru .nil)) (by rw [List.length_take]; omega)
    rw [upd_upd] at I2
    refine wpAny_bind (wpAny_updateSeq e rfl (wpAny_pure ⟨plainId_quiet PySem.F.plain_extend_loop _, ?_⟩) (by rw [List.size_toArray]; omega) (by show (its2.toArray.push u).size ≤ sizeLine + 1; rw [Array.size_push, List.size_toArray]; omega))
    refine ih (i + 1) _ (by omega) (by omega) I2 ?_
    rw [show (xs.length : Int) - 1 - ((i + 1 : Nat) : Int) = ((xs.length - 1 - i : Nat) : Int) - 1 by omega]
    exact st'.at fun o z => (Heap.get?_update_other h' (Obj.mapSeq (·.push u)) (Ne.symm hqi)).trans z
def tLstRevT (K : PySem.W.Frag) (te : TE) : TE := fun σ H Q => te σ H fun v H1 => ∃ (a : Addr) (xs : List V), v = .ref a ∧ SqT K H1 a xs ∧ xs.length < sizeLine ∧ ∀ q, H1 q = Option.none → Q (.ref q) (upd H1 q (.lst xs.reverse))
theorem pe_lstRevT {e : Expr} {te : TE} {p p2 pos pos2 : Pos} (hg : Gl X "list") (hm : X.mg "list" = Option.none) (hg2 : Gl X "reversed") (hm2 : X.mg "reversed" = Option.none) (he : PE X e te) (hh : X.A.handled = Option.none)
    (hs : starEach [e] X.env = (false, eval e X.env) :: starEach [] X.env := by rfl)
    (hs2 : starEach [.Call (.Name "reversed" p2) [e] [] pos2] X.env = (false, eval (.Call (.Name "reversed" p2) [e] [] pos2) X.env) :: starEach [] X.env := by rfl) :
    PE X (.Call (.Name "list" p) [.Call (.Name "reversed" p2) [e] [] pos2] [] pos) (tLstRevT X.K te) := by
  refine ⟨fun pins s0 σ H0 Q I0 h => ?_⟩
  refine Call_ (ld_blt I0 hg hm PyProof.Rows.boot_list (PyProof.Rows.callWith_type1 (args_cons (Call_ (ld_blt I0 hg2 hm2 PyProof.Rows.boot_reversed (PyProof.Rows.callWith_type1 (args_cons (thn (he.run pins s0 σ H0 _ I0 h) fun u s1 ⟨v, H, I1, r1, q1⟩ => args_nil ?_) hs) hs rfl))) hs2) hs2 rfl))
  obtain ⟨t, xs, ev, hq0, hlen, k⟩ := q1
  subst ev
  obtain rfl : u = Value.ref t := r1
  obtain ⟨its, rv, p', hz⟩ := I1.tuple hq0
  have hl := rv.length
  have hn := line63
  have hsz : its.toArray.size ≤ sizeLine := by rw [List.size_toArray, ← hl]; omega
  refine call_reversed_tup p' (fun A E Q k => PyProof.Rows.len_tuple p' (by simp only [List.size_toArray] <;> omega) k) (args_nil ?_)
  obtain ⟨s, hs2e⟩ : ∃ s : Shared, s = { s1 with heap := s1.heap.push (rtObj t ((its.toArray.size : Int) - 1)), toks := s1.toks + 1 + 1 } := ⟨_, rfl⟩
  obtain ⟨it, hite⟩ : ∃ it, it = s1.heap.objs.size := ⟨_, rfl⟩
  have k0 : ∀ b o, s1.heap.get? b = some o → s.heap.get? b = some o := fun b o e => by rw [hs2e]; exact Heap.get?_push_of_some _ e
  have I : Inv X pins σ H s := by rw [hs2e]; exact I1.kept (t' := s1.toks + 1 + 1) (fun b o e => Heap.get?_push_of_some _ e)
  obtain ⟨f0, f1, f2, f3, f4, f5⟩ := I1.fpOk (H' := H) (b := s1.heap.objs.size) (Nat.le_refl _) (I1.hok.fresh (Nat.le_refl _))
  have st0 : IsRt s.heap it t ((its.toArray.size : Int) - 1) := by rw [hs2e, hite]; exact ⟨_, Heap.get?_push_size _ rfl, rfl, rfl⟩
  rw [← hite] at f0 f1 f3 f4 f5
  rw [← hs2e, ← hite]
  have pt : IsTup s.heap t its.toArray := by
    obtain ⟨its2, rv2, p2, hz2⟩ := I.tuple hq0
    rw [hs2e]
    exact p'.push _
  clear hs2e
  have hS : (s.heap.push { cls := .type "list", data := .seq #[] }).get? s.heap.objs.size = some { cls := .type "list", data := .seq #[] } := Heap.get?_push_size _ rfl
  have fr : H s.heap.objs.size = Option.none := I.hok.fresh (Nat.le_refl _)
  have hqi : it ≠ s.heap.objs.size := by
    obtain ⟨o, ho, _⟩ := id st0
    exact Nat.ne_of_lt (Heap.lt_size ho)
  have st1 : IsRt (s.heap.push { cls := .type "list", data := .seq #[] }) it t ((its.toArray.size : Int) - 1) := st0.at fun o e => Heap.get?_push_of_some _ e
  have I1' : Inv X pins σ (upd H s.heap.objs.size (.lst [])) { s with heap := s.heap.push { cls := .type "list", data := .seq #[] } } := I.lnew (its := []) (t' := s.toks) .nil (Nat.zero_le _)
  have I2 := I1'.lset (f := fun _ => #[]) (its := []) (its' := []) (ys := []) (t' := s.toks) upd_same hS rfl .nil (Nat.zero_le _)
  rw [upd_upd] at I2
  generalize hqa : s.heap.objs.size = q at *
  refine callType_codes (Q₁ := fun obj s₁ => obj = .ref q ∧ s₁ = { s with heap := s.heap.push { cls := .type "list", data := .seq #[] } }) PySem.F.called_list (PySem.F.typeCall_list_1 _) PySem.F.entry_list_init
    (by rw [← hqa]; exact code_list_new _ ⟨rfl, rfl⟩) fun obj s₁ h₁ => ?_
  obtain ⟨rfl, rfl⟩ := h₁
  refine ⟨⟨_, hS, rfl⟩, PySem.F.args_list_init_2 _ _, ?_⟩
  show wpAny _ _ (do let old ← Builtin.List.listItems (.ref q); Builtin.List.listUpdate (.ref q) (fun _ => #[]); letGo old.toList.reverse; Builtin.List.listExtendWith (.ref q) (.ref it) .none) _ _ _
  refine wpAny_bind ?_
  unfold Builtin.List.listItems
  refine wpAny_bind (wpAny_seqItems hS rfl (wpAny_pure ?_))
  show wpAny _ _ (updateSeq q (fun _ => #[]) >>= fun _ => letGo (#[] : Array Value).toList.reverse >>= fun _ => Builtin.List.listExtendWith (.ref q) (.ref it) .none) _ _ _
  refine wpAny_bind (wpAny_updateSeq hS rfl (wpAny_bind (wpAny_letGo ?_)))
  have ht2 : ∀ o, SqT X.K (upd H q o) t xs := fun o => hq0.ext (Ext.upd fr)
  have st2 := st1.at (h' := (s.heap.push { cls := .type "list", data := .seq #[] }).update q (Obj.mapSeq fun _ => #[])) fun o e => (Heap.get?_update_other _ _ (Ne.symm hqi)).trans e
  unfold Builtin.List.listExtendWith
  refine wpAny_bind (wpAny_typeOf st2.typeIs ?_)
  have e1 : Builtin.List.listSameRef (.ref q) (.ref it) = false := by simp [Builtin.List.listSameRef, Ne.symm hqi]
  have e2 : (Value.type "reversed" == Value.type "list") = false := rfl
  have e3 : (Value.type "reversed" == Value.type "tuple") = false := rfl
  simp only [e1, e2, e3, Bool.or_false, Bool.false_eq_true, if_false]
  refine wpAny_bind (iter_rt st2 ?_)
  obtain ⟨its2, rv2, p2, hz2⟩ := I2.tuple (ht2 _)
  have hsz2 : its2.toArray.size = its.toArray.size := by rw [List.size_toArray, List.size_toArray, ← rv2.length, hl]
  rw [← hsz2] at st2
  refine wpAny_bind (wpAny_holding (hint_rt st2 p2 (by rw [hsz2]; exact hsz) fun tk room => ?_))
  rw [show ((its2.toArray.size : Nat) : Int) - 1 = (xs.length : Int) - 1 - ((0 : Nat) : Int) by rw [hsz2, List.size_toArray, ← hl]; omega] at st2
  have I4 := I2.tok tk
  have loop := fun (Rs : Result → Shared → Prop) hd => rt_loop (A1 := X.A.in1) (Rs := Rs) (pins := pins) (σ := σ) (H := H) (q := q) (t := t) (it := it) (xs := xs) hh fr ht2 hqi ⟨f0, f1, f3, f4, f5⟩ hd hlen xs.length 0
  have fin : ∀ s4, Inv X pins σ (upd H q (.lst xs.reverse)) s4 → wants (fun r s₂ => r = .none ∧ EP X pins σ Q (.ref q) s₂) X.xe (.ok (.ret .none)) s4 := fun s4 I5 => ⟨rfl, .ref q, _, I5, rfl, k q fr⟩
  obtain ⟨z5, its5, k5, r5, hl5, e5⟩ := I4.lstM upd_same
  cases r5
  refine wpAny_ite_split (fun _ => ?_) (fun _ => wpAny_pure ⟨plainId_quiet PySem.F.plain_extend_loop _, loop _ fin _ (Nat.sub_zero _) (Nat.zero_le _) I4 st2⟩)
  refine wpAny_bind (wpAny_rule (wpAny_bind ?_))
  show wpAny _ _ (updateSeq q (·.push .none) >>= fun _ => updateSeq q (·.pop)) _ _ _
  refine wpAny_bind (wpAny_updateSeq e5 rfl ?_)
  have I6 := I4.lset (f := (·.push Value.none)) (its' := [Value.none]) (ys := [.non]) (t' := tk) upd_same e5 (by simp) (.cons rfl .nil) (by rw [List.length_singleton, sizeLine_eq]; decide)
  obtain ⟨z7, its7, k7, r7, hl7, e7⟩ := I6.lstM upd_same
  obtain ⟨u7, rfl, ru7⟩ := r7.one
  refine wpAny_updateSeq e7 rfl ?_ (by show 1 ≤ sizeLine; rw [sizeLine_eq]; decide) (by show 0 ≤ sizeLine + 1; exact Nat.zero_le _)
  have I8 := I6.lset (f := (·.pop)) (its := [u7]) (its' := []) (ys := []) (t' := tk) upd_same e7 (by rfl) .nil (Nat.zero_le _)
  rw [upd_upd, upd_upd] at I8
  refine wpAny_pure ⟨plainId_quiet PySem.F.plain_extend_loop _, loop _ fin _ (Nat.sub_zero _) (Nat.zero_le _) I8 (st2.at fun o z => ?_)⟩
  exact (Heap.get?_update_other _ _ (Ne.symm hqi)).trans ((Heap.get?_update_other _ _ (Ne.symm hqi)).trans z)
end
end OwnOp

/-! ### text * int -/
namespace OwnOp
open PySem PySem.Spec PyProof.Rows L2
theorem fold_app (a : Array Nat) : ∀ (n : Nat) (acc : Array Nat), ((List.replicate n a).foldl (· ++ ·) acc).toList = acc.toList ++ (List.replicate n a.toList).flatten
  | 0, acc => by simp
  | n + 1, acc => by
    rw [List.replicate_succ, List.foldl_cons, fold_app a n, List.replicate_succ, List.flatten_cons, Array.toList_append, List.append_assoc]
theorem mul_cs (z : Str) (n : Int) : (Txt.mul z n).cps.toList = (List.replicate n.toNat z.cps.toList).flatten := by
  unfold Txt.mul
  by_cases h1 : n < 1
  · rw [if_pos h1, show n.toNat = 0 by omega]
    rfl
  · rw [if_neg h1]
    by_cases h2 : n = 1
    · subst h2
      show z.cps.toList = _
      rw [show (1 : Int).toNat = 1 from rfl]
      simp
    · by_cases h3 : z.length = 0
      · have e : (n == 1 || z.length == 0) = true := by simp [h3]
        rw [if_pos e]
        have hz : z.cps.toList = [] := by
          have : z.cps.size = 0 := h3
          exact List.eq_nil_of_length_eq_zero (by rw [Array.length_toList]; exact this)
        rw [hz]
        induction n.toNat with
        | zero => rfl
        | succ m ih => rw [List.replicate_succ, List.flatten_cons, ← ih]; rfl
      · have e : ¬ (n == 1 || z.length == 0) = true := by simp [h2, h3]
        rw [if_neg e]
        show ((List.replicate n.toNat z.cps).foldl (· ++ ·) #[]).toList = _
        rw [fold_app]
        rfl
theorem mulOk {z : Str} {n : Int} (hz : z.length ≤ 4000) (h1 : -(2 ^ 62) ≤ n) (h2 : n ≤ 4000) : MulOk z n := by
  refine ⟨by simp; omega, fun h _ => ?_, fun h _ => ?_⟩
  · have : (z.length : Int) ≤ 4000 := by omega
    have h3 : (4000 : Int) ≤ (2 ^ 63 - 1) / n := by
      refine Int.le_ediv_of_mul_le (by omega) ?_
      have : (4000 : Int) * n ≤ 4000 * 4000 := Int.mul_le_mul_of_nonneg_left h2 (by decide)
      omega
    omega
  · unfold Builtin.Str.tooLong
    rw [sizeLine_eq]
    have : z.length * n.toNat ≤ 4000 * 4000 := Nat.mul_le_mul hz (by omega)
    simp only [decide_eq_false_iff_not]
    omega
theorem op_mulS {X : Cx} : OpR X (binaryOp .Mult) (fun x y H Q => ∃ z n, x = .str z ∧ y = .int n ∧ z.length ≤ 4000 ∧ -(2 ^ 62) ≤ n ∧ n ≤ 4000 ∧ Q (.str (Txt.mul z n)) H) := by
  intro pins s σ H x y v u Q I rx ry h
  obtain ⟨z, n, rfl, rfl, hz, h1, h2, q⟩ := h
  obtain ⟨t, rfl⟩ := rx
  obtain ⟨t', rfl⟩ := ry
  exact SB.mul (mulOk hz h1 h2) fun t' k => ⟨.str (Txt.mul z n), H, I.tok _, ⟨_, rfl⟩, q⟩
end OwnOp

namespace M
open PySem PySem.Spec PyProof.Rows L2
def topS (i : Nat) : Stmt := PySem.Challenge.pw_mendedtree_k32_tree_written.main.body.getD i (.Pass ⟨0, 0, 0, 0⟩)
abbrev s_Node_init : Stmt := inClass (topS 7) 0
theorem sc_Node_init : FnScope ["self", "kind", "symbol", "state", "lead", "width", "look", "alternative", "nodes", "popped"] ["self", "kind", "symbol", "state", "lead", "width", "look", "alternative", "nodes", "popped"] (defScope s_Node_init) := ⟨rfl, rfl, rfl, by decide +kernel, rfl, by decide +kernel, by decide +kernel⟩
abbrev s_write_tree : Stmt := topS 11
theorem sc_write_tree : FnScope ["node", "words", "waiting", "last"] ["node"] (defScope s_write_tree) := ⟨rfl, rfl, rfl, by decide +kernel, rfl, by decide +kernel, by decide +kernel⟩
abbrev s_written : Stmt := topS 12
theorem sc_written : FnScope ["node", "numbers", "number"] ["node"] (defScope s_written) := ⟨rfl, rfl, rfl, by decide +kernel, rfl, by decide +kernel, by decide +kernel⟩
abbrev s_read_tree : Stmt := topS 13
theorem sc_read_tree : FnScope ["notation", "reader", "opened", "words", "nodes", "node"] ["notation"] (defScope s_read_tree) := ⟨rfl, rfl, rfl, by decide +kernel, rfl, by decide +kernel, by decide +kernel⟩
abbrev s_node : Stmt := topS 14
theorem sc_node : FnScope ["words", "nodes", "kind", "symbol", "state", "lead", "width", "look", "alternative", "popped"] ["words", "nodes"] (defScope s_node) := ⟨rfl, rfl, rfl, by decide +kernel, rfl, by decide +kernel, by decide +kernel⟩
abbrev s_Reader_init : Stmt := inClass (topS 15) 0
theorem sc_Reader_init : FnScope ["self", "notation", "char"] ["self", "notation"] (defScope s_Reader_init) := ⟨rfl, rfl, rfl, by decide +kernel, rfl, by decide +kernel, by decide +kernel⟩
abbrev s_Reader__char : Stmt := inClass (topS 15) 1
theorem sc_Reader__char : FnScope ["self"] ["self"] (defScope s_Reader__char) := ⟨rfl, rfl, rfl, by decide +kernel, rfl, by decide +kernel, by decide +kernel⟩
abbrev s_Reader__pass_one_of : Stmt := inClass (topS 15) 2
theorem sc_Reader__pass_one_of : FnScope ["self", "chars"] ["self", "chars"] (defScope s_Reader__pass_one_of) := ⟨rfl, rfl, rfl, by decide +kernel, rfl, by decide +kernel, by decide +kernel⟩
abbrev s_Reader_sign : Stmt := inClass (topS 15) 3
theorem sc_Reader_sign : FnScope ["self", "char"] ["self", "char"] (defScope s_Reader_sign) := ⟨rfl, rfl, rfl, by decide +kernel, rfl, by decide +kernel, by decide +kernel⟩
abbrev s_Reader_goes_on : Stmt := inClass (topS 15) 4
theorem sc_Reader_goes_on : FnScope ["self"] ["self"] (defScope s_Reader_goes_on) := ⟨rfl, rfl, rfl, by decide +kernel, rfl, by decide +kernel, by decide +kernel⟩
abbrev s_Reader_finish : Stmt := inClass (topS 15) 5
theorem sc_Reader_finish : FnScope ["self"] ["self"] (defScope s_Reader_finish) := ⟨rfl, rfl, rfl, by decide +kernel, rfl, by decide +kernel, by decide +kernel⟩
abbrev s_Reader_words : Stmt := inClass (topS 15) 6
theorem sc_Reader_words : FnScope ["self", "words", "signed"] ["self"] (defScope s_Reader_words) := ⟨rfl, rfl, rfl, by decide +kernel, rfl, by decide +kernel, by decide +kernel⟩
abbrev s_Reader__name : Stmt := inClass (topS 15) 7
theorem sc_Reader__name : FnScope ["self", "begin"] ["self"] (defScope s_Reader__name) := ⟨rfl, rfl, rfl, by decide +kernel, rfl, by decide +kernel, by decide +kernel⟩
abbrev s_Reader__pass_literal : Stmt := inClass (topS 15) 8
theorem sc_Reader__pass_literal : FnScope ["self", "first"] ["self"] (defScope s_Reader__pass_literal) := ⟨rfl, rfl, rfl, by decide +kernel, rfl, by decide +kernel, by decide +kernel⟩
abbrev s_Reader__number : Stmt := inClass (topS 15) 9
theorem sc_Reader__number : FnScope ["self", "signed", "begin"] ["self", "signed"] (defScope s_Reader__number) := ⟨rfl, rfl, rfl, by decide +kernel, rfl, by decide +kernel, by decide +kernel⟩
abbrev s_law_reel : Stmt := topS 17
theorem sc_law_reel : FnScope ["script", "reel", "k", "cell", "rest", "turn", "mixed"] ["script"] (defScope s_law_reel) := ⟨rfl, rfl, rfl, by decide +kernel, rfl, by decide +kernel, by decide +kernel⟩
abbrev s_law_draw : Stmt := topS 18
theorem sc_law_draw : FnScope ["reel", "size", "count", "at"] ["reel", "size"] (defScope s_law_draw) := ⟨rfl, rfl, rfl, by decide +kernel, rfl, by decide +kernel, by decide +kernel⟩
abbrev s_law_pick : Stmt := topS 19
theorem sc_law_pick : FnScope ["reel", "row"] ["reel", "row"] (defScope s_law_pick) := ⟨rfl, rfl, rfl, by decide +kernel, rfl, by decide +kernel, by decide +kernel⟩
abbrev s_law_word : Stmt := topS 20
theorem sc_law_word : FnScope ["reel", "letters", "least", "most", "k"] ["reel", "letters", "least", "most"] (defScope s_law_word) := ⟨rfl, rfl, rfl, by decide +kernel, rfl, by decide +kernel, by decide +kernel⟩
abbrev s_law_quoted : Stmt := topS 21
theorem sc_law_quoted : FnScope ["chars", "text", "char"] ["chars"] (defScope s_law_quoted) := ⟨rfl, rfl, rfl, by decide +kernel, rfl, by decide +kernel, by decide +kernel⟩
abbrev s_law_literal : Stmt := topS 22
theorem sc_law_literal : FnScope ["reel", "plain", "chars", "turn"] ["reel"] (defScope s_law_literal) := ⟨rfl, rfl, rfl, by decide +kernel, rfl, by decide +kernel, by decide +kernel⟩
abbrev s_law_name : Stmt := topS 23
theorem sc_law_name : FnScope ["reel", "letters"] ["reel"] (defScope s_law_name) := ⟨rfl, rfl, rfl, by decide +kernel, rfl, by decide +kernel, by decide +kernel⟩
abbrev s_law_sort : Stmt := topS 24
theorem sc_law_sort : FnScope ["reel"] ["reel"] (defScope s_law_sort) := ⟨rfl, rfl, rfl, by decide +kernel, rfl, by decide +kernel, by decide +kernel⟩
abbrev s_law_comb : Stmt := topS 25
theorem sc_law_comb : FnScope ["reel", "deep", "right", "levels", "k"] ["reel", "deep"] (defScope s_law_comb) := ⟨rfl, rfl, rfl, by decide +kernel, rfl, by decide +kernel, by decide +kernel⟩
abbrev s_law_levels : Stmt := topS 26
theorem sc_law_levels : FnScope ["reel", "levels", "size", "turn", "drop"] ["reel"] (defScope s_law_levels) := ⟨rfl, rfl, rfl, by decide +kernel, rfl, by decide +kernel, by decide +kernel⟩
abbrev s_law_count : Stmt := topS 27
theorem sc_law_count : FnScope ["reel", "least", "form"] ["reel", "least"] (defScope s_law_count) := ⟨rfl, rfl, rfl, by decide +kernel, rfl, by decide +kernel, by decide +kernel⟩
abbrev s_law_row : Stmt := topS 28
theorem sc_law_row : FnScope ["reel", "level", "first", "second", "numbers", "least"] ["reel", "level"] (defScope s_law_row) := ⟨rfl, rfl, rfl, by decide +kernel, rfl, by decide +kernel, by decide +kernel⟩
abbrev s_law_small_row : Stmt := topS 29
theorem sc_law_small_row : FnScope ["reel", "level", "first", "second", "numbers", "least"] ["reel", "level"] (defScope s_law_small_row) := ⟨rfl, rfl, rfl, by decide +kernel, rfl, by decide +kernel, by decide +kernel⟩
abbrev s_law_tree : Stmt := topS 30
theorem sc_law_tree : FnScope ["reel", "form", "levels", "level"] ["reel"] (defScope s_law_tree) := ⟨rfl, rfl, rfl, by decide +kernel, rfl, by decide +kernel, by decide +kernel⟩
abbrev s_law_made : Stmt := topS 31
theorem sc_law_made : FnScope ["rows", "made", "waiting", "k", "row", "below"] ["rows"] (defScope s_law_made) := ⟨rfl, rfl, rfl, by decide +kernel, rfl, by decide +kernel, by decide +kernel⟩
abbrev s_law_told : Stmt := topS 32
theorem sc_law_told : FnScope ["root", "most", "told", "todo", "turn", "level", "node", "numbers", "number", "k"] ["root", "most"] (defScope s_law_told) := ⟨rfl, rfl, rfl, by decide +kernel, rfl, by decide +kernel, by decide +kernel⟩
abbrev s_law_text : Stmt := topS 33
theorem sc_law_text : FnScope ["rows", "pieces", "last", "row", "words", "k"] ["rows"] (defScope s_law_text) := ⟨rfl, rfl, rfl, by decide +kernel, rfl, by decide +kernel, by decide +kernel⟩
abbrev s_law : Stmt := topS 34
theorem sc_law : FnScope ["script", "reel", "rows", "others", "level", "first", "second", "text", "near", "pair", "top", "twice", "tree", "due", "written", "back", "beside"] ["script"] (defScope s_law) := ⟨rfl, rfl, rfl, by decide +kernel, rfl, by decide +kernel, by decide +kernel⟩
structure Txt (K : PySem.W.Frag) (mg : Str → Option Value) where
  a_Node_init : Addr
  fd_Node_init : FuncData
  F_Node_init : Fun K "__init__" "Node.__init__" s_Node_init a_Node_init fd_Node_init
  T0_Node : Addr
  t0_Node : ∃ (oc : Option Addr) (n : Nat) (sl : Array (Option Value)), K.lookup T0_Node = some ⟨.type "tuple", oc, .seq #[] n, sl⟩
  FD_Node_init : FunD K "__init__" "Node.__init__" (defArgs s_Node_init) (defBody s_Node_init) (defScope s_Node_init) [] [("alternative", V.int (-1)), ("nodes", V.ref T0_Node), ("popped", V.int (0))] a_Node_init fd_Node_init
  a_write_tree : Addr
  fd_write_tree : FuncData
  F_write_tree : Fun K "write_tree" "write_tree" s_write_tree a_write_tree fd_write_tree
  b_write_tree : Binds K fd_write_tree ["node"] []
  g_write_tree : mg "write_tree" = some (.ref a_write_tree)
  a_written : Addr
  fd_written : FuncData
  F_written : Fun K "_written" "_written" s_written a_written fd_written
  b_written : Binds K fd_written ["node"] []
  g_written : mg "_written" = some (.ref a_written)
  a_read_tree : Addr
  fd_read_tree : FuncData
  F_read_tree : Fun K "read_tree" "read_tree" s_read_tree a_read_tree fd_read_tree
  b_read_tree : Binds K fd_read_tree ["notation"] []
  g_read_tree : mg "read_tree" = some (.ref a_read_tree)
  a_node : Addr
  fd_node : FuncData
  F_node : Fun K "_node" "_node" s_node a_node fd_node
  b_node : Binds K fd_node ["words", "nodes"] []
  g_node : mg "_node" = some (.ref a_node)
  a_Reader_init : Addr
  fd_Reader_init : FuncData
  F_Reader_init : Fun K "__init__" "Reader.__init__" s_Reader_init a_Reader_init fd_Reader_init
  b_Reader_init : Binds K fd_Reader_init ["self", "notation"] []
  a_Reader__char : Addr
  fd_Reader__char : FuncData
  F_Reader__char : Fun K "_char" "Reader._char" s_Reader__char a_Reader__char fd_Reader__char
  b_Reader__char : Binds K fd_Reader__char ["self"] []
  a_Reader__pass_one_of : Addr
  fd_Reader__pass_one_of : FuncData
  F_Reader__pass_one_of : Fun K "_pass_one_of" "Reader._pass_one_of" s_Reader__pass_one_of a_Reader__pass_one_of fd_Reader__pass_one_of
  b_Reader__pass_one_of : Binds K fd_Reader__pass_one_of ["self", "chars"] []
  a_Reader_sign : Addr
  fd_Reader_sign : FuncData
  F_Reader_sign : Fun K "sign" "Reader.sign" s_Reader_sign a_Reader_sign fd_Reader_sign
  b_Reader_sign : Binds K fd_Reader_sign ["self", "char"] []
  a_Reader_goes_on : Addr
  fd_Reader_goes_on : FuncData
  F_Reader_goes_on : Fun K "goes_on" "Reader.goes_on" s_Reader_goes_on a_Reader_goes_on fd_Reader_goes_on
  b_Reader_goes_on : Binds K fd_Reader_goes_on ["self"] []
  a_Reader_finish : Addr
  fd_Reader_finish : FuncData
  F_Reader_finish : Fun K "finish" "Reader.finish" s_Reader_finish a_Reader_finish fd_Reader_finish
  b_Reader_finish : Binds K fd_Reader_finish ["self"] []
  a_Reader_words : Addr
  fd_Reader_words : FuncData
  F_Reader_words : Fun K "words" "Reader.words" s_Reader_words a_Reader_words fd_Reader_words
  b_Reader_words : Binds K fd_Reader_words ["self"] []
  a_Reader__name : Addr
  fd_Reader__name : FuncData
  F_Reader__name : Fun K "_name" "Reader._name" s_Reader__name a_Reader__name fd_Reader__name
  b_Reader__name : Binds K fd_Reader__name ["self"] []
  a_Reader__pass_literal : Addr
  fd_Reader__pass_literal : FuncData
  F_Reader__pass_literal : Fun K "_pass_literal" "Reader._pass_literal" s_Reader__pass_literal a_Reader__pass_literal fd_Reader__pass_literal
  b_Reader__pass_literal : Binds K fd_Reader__pass_literal ["self"] []
  a_Reader__number : Addr
  fd_Reader__number : FuncData
  F_Reader__number : Fun K "_number" "Reader._number" s_Reader__number a_Reader__number fd_Reader__number
  b_Reader__number : Binds K fd_Reader__number ["self", "signed"] []
  a_law_reel : Addr
  fd_law_reel : FuncData
  F_law_reel : Fun K "_law_reel" "_law_reel" s_law_reel a_law_reel fd_law_reel
  b_law_reel : Binds K fd_law_reel ["script"] []
  g_law_reel : mg "_law_reel" = some (.ref a_law_reel)
  a_law_draw : Addr
  fd_law_draw : FuncData
  F_law_draw : Fun K "_law_draw" "_law_draw" s_law_draw a_law_draw fd_law_draw
  b_law_draw : Binds K fd_law_draw ["reel", "size"] []
  g_law_draw : mg "_law_draw" = some (.ref a_law_draw)
  a_law_pick : Addr
  fd_law_pick : FuncData
  F_law_pick : Fun K "_law_pick" "_law_pick" s_law_pick a_law_pick fd_law_pick
  b_law_pick : Binds K fd_law_pick ["reel", "row"] []
  g_law_pick : mg "_law_pick" = some (.ref a_law_pick)
  a_law_word : Addr
  fd_law_word : FuncData
  F_law_word : Fun K "_law_word" "_law_word" s_law_word a_law_word fd_law_word
  b_law_word : Binds K fd_law_word ["reel", "letters", "least", "most"] []
  g_law_word : mg "_law_word" = some (.ref a_law_word)
  a_law_quoted : Addr
  fd_law_quoted : FuncData
  F_law_quoted : Fun K "_law_quoted" "_law_quoted" s_law_quoted a_law_quoted fd_law_quoted
  b_law_quoted : Binds K fd_law_quoted ["chars"] []
  g_law_quoted : mg "_law_quoted" = some (.ref a_law_quoted)
  a_law_literal : Addr
  fd_law_literal : FuncData
  F_law_literal : Fun K "_law_literal" "_law_literal" s_law_literal a_law_literal fd_law_literal
  b_law_literal : Binds K fd_law_literal ["reel"] []
  g_law_literal : mg "_law_literal" = some (.ref a_law_literal)
  a_law_name : Addr
  fd_law_name : FuncData
  F_law_name : Fun K "_law_name" "_law_name" s_law_name a_law_name fd_law_name
  b_law_name : Binds K fd_law_name ["reel"] []
  g_law_name : mg "_law_name" = some (.ref a_law_name)
  a_law_sort : Addr
  fd_law_sort : FuncData
  F_law_sort : Fun K "_law_sort" "_law_sort" s_law_sort a_law_sort fd_law_sort
  b_law_sort : Binds K fd_law_sort ["reel"] []
  g_law_sort : mg "_law_sort" = some (.ref a_law_sort)
  a_law_comb : Addr
  fd_law_comb : FuncData
  F_law_comb : Fun K "_law_comb" "_law_comb" s_law_comb a_law_comb fd_law_comb
  b_law_comb : Binds K fd_law_comb ["reel", "deep"] []
  g_law_comb : mg "_law_comb" = some (.ref a_law_comb)
  a_law_levels : Addr
  fd_law_levels : FuncData
  F_law_levels : Fun K "_law_levels" "_law_levels" s_law_levels a_law_levels fd_law_levels
  b_law_levels : Binds K fd_law_levels ["reel"] []
  g_law_levels : mg "_law_levels" = some (.ref a_law_levels)
  a_law_count : Addr
  fd_law_count : FuncData
  F_law_count : Fun K "_law_count" "_law_count" s_law_count a_law_count fd_law_count
  b_law_count : Binds K fd_law_count ["reel", "least"] []
  g_law_count : mg "_law_count" = some (.ref a_law_count)
  a_law_row : Addr
  fd_law_row : FuncData
  F_law_row : Fun K "_law_row" "_law_row" s_law_row a_law_row fd_law_row
  b_law_row : Binds K fd_law_row ["reel", "level"] []
  g_law_row : mg "_law_row" = some (.ref a_law_row)
  a_law_small_row : Addr
  fd_law_small_row : FuncData
  F_law_small_row : Fun K "_law_small_row" "_law_small_row" s_law_small_row a_law_small_row fd_law_small_row
  b_law_small_row : Binds K fd_law_small_row ["reel", "level"] []
  g_law_small_row : mg "_law_small_row" = some (.ref a_law_small_row)
  a_law_tree : Addr
  fd_law_tree : FuncData
  F_law_tree : Fun K "_law_tree" "_law_tree" s_law_tree a_law_tree fd_law_tree
  b_law_tree : Binds K fd_law_tree ["reel"] []
  g_law_tree : mg "_law_tree" = some (.ref a_law_tree)
  a_law_made : Addr
  fd_law_made : FuncData
  F_law_made : Fun K "_law_made" "_law_made" s_law_made a_law_made fd_law_made
  b_law_made : Binds K fd_law_made ["rows"] []
  g_law_made : mg "_law_made" = some (.ref a_law_made)
  a_law_told : Addr
  fd_law_told : FuncData
  F_law_told : Fun K "_law_told" "_law_told" s_law_told a_law_told fd_law_told
  b_law_told : Binds K fd_law_told ["root", "most"] []
  g_law_told : mg "_law_told" = some (.ref a_law_told)
  a_law_text : Addr
  fd_law_text : FuncData
  F_law_text : Fun K "_law_text" "_law_text" s_law_text a_law_text fd_law_text
  b_law_text : Binds K fd_law_text ["rows"] []
  g_law_text : mg "_law_text" = some (.ref a_law_text)
  a_law : Addr
  fd_law : FuncData
  F_law : Fun K "law" "law" s_law a_law fd_law
  b_law : Binds K fd_law ["script"] []
  g_law : mg "law" = some (.ref a_law)
  m_range : mg "range" = none
  m_min : mg "min" = none
  m_max : mg "max" = none
  m_len : mg "len" = none
  m_abs : mg "abs" = none
  m_int : mg "int" = none
  m_sum : mg "sum" = none
  m_isinstance : mg "isinstance" = none
  m_bool : mg "bool" = none
  m_list : mg "list" = none
  m_tuple : mg "tuple" = none
  m_str : mg "str" = none
  m_reversed : mg "reversed" = none
  c_PLAIN : ∃ t, mg "PLAIN" = some (Value.str "\t\n !\"#$&'()*+,-./0123456789:;<=>?@ABCDEFGHIJKLMNOPQRSTUVWXYZ[\\]^_abcdefghijklmnopqrstuvwxyz{|}~" t)
  c_LETTERS : ∃ t, mg "LETTERS" = some (Value.str "abcdefghijklmnopqrstuvwxyz" t)
  c_NAME_CHARS : ∃ t, mg "NAME_CHARS" = some (Value.str "abcdefghijklmnopqrstuvwxyz0123456789_~" t)
  c_DIGITS : ∃ t, mg "DIGITS" = some (Value.str "0123456789" t)
  c_MOST_DIGITS : ∃ t, mg "MOST_DIGITS" = some (Value.int 9 t)
  C_Node : Addr
  G_Node : mg "Node" = some (.ref C_Node)
  C_Reader : Addr
  G_Reader : mg "Reader" = some (.ref C_Reader)
  CL_Node : Cls K C_Node
  MK_Node : Mk K C_Node a_Node_init
  IC_Node : C8.InsC K C_Node
  NA_Node_kind : NoAttr K C_Node "kind"
  NA_Node_symbol : NoAttr K C_Node "symbol"
  NA_Node_state : NoAttr K C_Node "state"
  NA_Node_lead : NoAttr K C_Node "lead"
  NA_Node_width : NoAttr K C_Node "width"
  NA_Node_look : NoAttr K C_Node "look"
  NA_Node_alternative : NoAttr K C_Node "alternative"
  NA_Node_nodes : NoAttr K C_Node "nodes"
  NA_Node_popped : NoAttr K C_Node "popped"
  CL_Reader : Cls K C_Reader
  MK_Reader : Mk K C_Reader a_Reader_init
  IC_Reader : C8.InsC K C_Reader
  NA_Reader__notation : NoAttr K C_Reader "_notation"
  NA_Reader__place : NoAttr K C_Reader "_place"
  NA_Reader__plain_chars : NoAttr K C_Reader "_plain_chars"
  ME_Reader_char : Meth K C_Reader "_char" a_Reader__char
  ME_Reader_pass_one_of : Meth K C_Reader "_pass_one_of" a_Reader__pass_one_of
  ME_Readersign : Meth K C_Reader "sign" a_Reader_sign
  ME_Readergoes_on : Meth K C_Reader "goes_on" a_Reader_goes_on
  ME_Readerfinish : Meth K C_Reader "finish" a_Reader_finish
  ME_Readerwords : Meth K C_Reader "words" a_Reader_words
  ME_Reader_name : Meth K C_Reader "_name" a_Reader__name
  ME_Reader_pass_literal : Meth K C_Reader "_pass_literal" a_Reader__pass_literal
  ME_Reader_number : Meth K C_Reader "_number" a_Reader__number
/-! ### heaps: what a def leaves as it was -/
/-- all that was tracked but at r stands as it was -/
def But (r : Addr) (H H' : Hp) : Prop := ∀ b o, b ≠ r → H b = some o → H' b = some o
theorem But.refl (r : Addr) (H : Hp) : But r H H := fun _ _ _ h => h
theorem But.trans {r : Addr} {H H1 H2 : Hp} (a : But r H H1) (b : But r H1 H2) : But r H H2 := fun c o n h => b c o n (a c o n h)
theorem But.of {r : Addr} {H H' : Hp} (e : Same H H') : But r H H' := fun b o _ h => e b o h
theorem But.set {r : Addr} {H : Hp} {o : HO} : But r H (upd H r o) := fun b u n h => by rw [upd_ne n]; exact h
theorem But.new {r p : Addr} {H : Hp} {o : HO} (h : H p = none) : But r H (upd H p o) := fun b u _ e => by rw [upd_ne (ne_of_none e h)]; exact e
theorem same_upd {H : Hp} {p : Addr} {o : HO} (h : H p = none) : Same H (upd H p o) := fun b x e => by rw [upd_ne (ne_of_none e h)]; exact e
/-- the list that the drawing goes along: a place, then numbers -/
def ReelAt (H : Hp) (r : Addr) : Prop := ∃ (z : Int) (c : List Int), H r = some (.lst (.int z :: c.map V.int)) ∧ 1 ≤ c.length ∧ c.length ≤ 100000
theorem ReelAt.new {H : Hp} {r p : Addr} {o : HO} (h : ReelAt H r) (n : H p = none) : ReelAt (upd H p o) r := by
  obtain ⟨z, c, h1, h2⟩ := h
  exact ⟨z, c, by rw [upd_ne (ne_of_none h1 n)]; exact h1, h2⟩
theorem ReelAt.ne {H : Hp} {r p : Addr} (h : ReelAt H r) (n : H p = none) : r ≠ p := by
  obtain ⟨z, c, h1, h2⟩ := h
  exact ne_of_none h1 n
theorem atI_lt {xs : List V} {z : Int} (h0 : 0 ≤ z) (h : z.toNat < xs.length) : atI xs z = some (xs[z.toNat]'h) :=
  at_of (j := z.toNat) (by omega) (List.getElem?_eq_getElem h)
theorem at_of' {α : Type} {xs : List α} {z : Int} {c : α} (h0 : 0 ≤ z) (h : xs[z.toNat]? = some c) : atI xs z = some c := by
  have e : z = ((z.toNat : Nat) : Int) := by omega
  rw [e]
  exact atI_nat h
theorem fmod_range (a : Int) {n : Int} (h : 0 < n) : 0 ≤ a.fmod n ∧ a.fmod n < n := ⟨Int.fmod_nonneg_of_pos a h, Int.fmod_lt_of_pos a h⟩
theorem sz1 {n : Nat} (h : n ≤ 100000) : n ≤ sizeLine := Nat.le_trans h (by decide)
theorem sz2 {n : Nat} (h : n < 100000) : n < sizeLine := Nat.lt_of_lt_of_le h (by decide)
/-- a text's signs -/
abbrev cs (x : Str) : List Nat := x.cps.toList
theorem len_cs (x : Str) : x.length = (cs x).length := by
  show x.cps.size = x.cps.toList.length
  rw [Array.length_toList]
theorem cs_mk (l : List Nat) : cs ⟨l.toArray⟩ = l := rfl
theorem cs_inj {x y : Str} (h : cs x = cs y) : x = y := by
  cases x with
  | mk a =>
    cases y with
    | mk b =>
      have e : a = b := Array.toList_inj.mp h
      rw [e]
theorem cs_app (x y : Str) : cs (x ++ y) = cs x ++ cs y := by
  show (x.cps ++ y.cps).toList = _
  rw [Array.toList_append]
theorem cs_join {e : Str} (he : cs e = []) : ∀ ys : List Str, cs (Str.join e ys) = (ys.map cs).flatten
  | [] => rfl
  | [x] => by
    show cs x = ([x].map cs).flatten
    simp
  | x :: y :: r => by
    show cs (x ++ e ++ Str.join e (y :: r)) = _
    rw [cs_app, cs_app, he, List.append_nil, cs_join he (y :: r)]
    rfl
theorem cs_joinT {e : Str} (he : cs e = []) (ys : List Str) : cs (Txt.join e ys) = (ys.map cs).flatten := by rw [TL.join_eq]; exact cs_join he ys
/-- the text of one sign -/
abbrev sg (c : Nat) : Str := ⟨#[c]⟩
theorem sg_flat : ∀ l : List Nat, ((l.map sg).map cs).flatten = l
  | [] => rfl
  | c :: r => by
    show [c] ++ ((r.map sg).map cs).flatten = c :: r
    rw [sg_flat r]
    rfl
theorem sg_lens : ∀ l : List Nat, ((l.map sg).map (·.length)).sum = l.length
  | [] => rfl
  | c :: r => by
    show 1 + ((r.map sg).map (·.length)).sum = r.length + 1
    rw [sg_lens r]
    omega
theorem join_sg {e : Str} (he : cs e = []) (l : List Nat) : Txt.join e (l.map sg) = ⟨l.toArray⟩ := cs_inj (by rw [cs_joinT he, sg_flat])
theorem But.seq {r : Addr} {K : PySem.W.Frag} {H H' : Hp} {a : Addr} {xs : List V} (e : But r H H') (n : a ≠ r) (h : SqL K H a xs) : SqL K H' a xs := by
  rcases h with (h | ⟨o, h⟩) | h
  · exact .inl (.inl (e _ _ n h))
  · exact .inl (.inr ⟨o, e _ _ n h⟩)
  · exact .inr h
theorem But.free {r : Addr} {H H' : Hp} (e : But r H H') {l : Addr} (n : l ≠ r) (h : H' l = none) : H l = none := by
  cases q : H l with
  | none => rfl
  | some o =>
    rw [e l o n q] at h
    cases h
/-- a text whose signs are signs -/
def TOk (x : Str) : Prop := ∀ c ∈ cs x, c < 1114112
def tokB (x : Str) : Bool := x.cps.toList.all fun c => decide (c < 1114112)
theorem tok_of {x : Str} (h : tokB x = true) : TOk x := fun c hc => of_decide_eq_true (List.all_eq_true.mp h c hc)

section
variable {P : Program} {w : World} {K : PySem.W.Frag} {mg : Str → Option Value} {base : Heap}
theorem ix_tupK {X : Cx} {K : PySem.W.Frag} (h : X.K = K) : IxR X (rIxT K) := by
  subst h
  exact ix_tup
theorem ix_listK {X : Cx} {K : PySem.W.Frag} (h : X.K = K) : IxR X (rIxL K) := by
  subst h
  exact ix_list
theorem call_len_seqK {X : Cx} {K : PySem.W.Frag} (h : X.K = K) : CallR X (.builtin "len") (fun xs H Q => ∃ p ys, xs = [V.ref p] ∧ (SqL K H p ys ∨ SqT K H p ys) ∧ Q (.int (ys.length : Int)) H) := by
  subst h
  exact call_len_seq

/-! ### keyword-only defaults -/
theorem kwd_all3 {K : PySem.W.Frag} {D : Addr} {a b c : Str × V} (ha : ∃ u, PySem.W.nsIn K D a.1 = some (some u) ∧ RelV a.2 u) (hb : ∃ u, PySem.W.nsIn K D b.1 = some (some u) ∧ RelV b.2 u) (hc : ∃ u, PySem.W.nsIn K D c.1 = some (some u) ∧ RelV c.2 u) :
    ∀ q ∈ [a, b, c], ∃ u, PySem.W.nsIn K D q.1 = some (some u) ∧ RelV q.2 u := fun q hq => by
  rcases List.mem_cons.mp hq with rfl | hq
  · exact ha
  · rcases List.mem_cons.mp hq with rfl | hq
    · exact hb
    · rw [List.mem_singleton.mp hq]
      exact hc

/-! ### Node(.., k = v, ..) -/
abbrev psN : List Str := ["self", "kind", "symbol", "state", "lead", "width", "look", "alternative", "nodes", "popped"]
theorem kb_Node4 (T : Txt K mg) : ∃ mv, KBn K T.fd_Node_init psN 3 ["state", "lead", "width", "look"] (fun us ws => us ++ ws ++ mv) (fun vs zs => vs ++ zs ++ [.int (-1), .ref T.T0_Node, .int 0]) :=
  T.FD_Node_init.kbinds0 3 ["state", "lead", "width", "look"] [("alternative", .int (-1)), ("nodes", .ref T.T0_Node), ("popped", .int 0)] (fun a b c => a ++ c ++ b) (List.cons_ne_nil _ _) (fun _ h => h) (fun r1 r2 r3 => (r1.append r3).append r2) fun D doc pm an cdv ct us mv ws l1 l2 l3 => by
    match us, l1, mv, l2, ws, l3 with
    | [u1, u2, u3], _, [m1, m2, m3], _, [w1, w2, w3, w4], _ => exact ⟨_, _, _, _, _, _, rfl, rfl, _, _, _, _, _, _, rfl, rfl, _, _, _, _, _, _, rfl, rfl, rfl⟩
theorem kb_Node6 (T : Txt K mg) : ∃ mv, KBn K T.fd_Node_init psN 3 ["state", "lead", "width", "look", "alternative", "nodes"] (fun us ws => us ++ ws ++ mv) (fun vs zs => vs ++ zs ++ [.int 0]) :=
  T.FD_Node_init.kbinds0 3 ["state", "lead", "width", "look", "alternative", "nodes"] [("popped", .int 0)] (fun a b c => a ++ c ++ b) (List.cons_ne_nil _ _) (fun _ h => by rw [List.mem_singleton.mp h]; exact List.mem_cons_of_mem _ (List.mem_cons_of_mem _ List.mem_cons_self)) (fun r1 r2 r3 => (r1.append r3).append r2) fun D doc pm an cdv ct us mv ws l1 l2 l3 => by
    match us, l1, mv, l2, ws, l3 with
    | [u1, u2, u3], _, [m1], _, [w1, w2, w3, w4, w5, w6], _ => exact ⟨_, _, _, _, _, _, rfl, rfl, rfl⟩
theorem kb_Node7 (T : Txt K mg) : ∃ mv, KBn K T.fd_Node_init psN 3 ["state", "lead", "width", "look", "alternative", "nodes", "popped"] (fun us ws => us ++ ws ++ mv) (fun vs zs => vs ++ zs ++ []) :=
  T.FD_Node_init.kbinds0 3 ["state", "lead", "width", "look", "alternative", "nodes", "popped"] [] (fun a b c => a ++ c ++ b) (List.cons_ne_nil _ _) (fun _ h => absurd h List.not_mem_nil) (fun r1 r2 r3 => (r1.append r3).append r2) fun D doc pm an cdv ct us mv ws l1 l2 l3 => by
    match us, l1, mv, l2, ws, l3 with
    | [u1, u2, u3], _, [], _, [w1, w2, w3, w4, w5, w6, w7], _ => exact rfl

/-! ### the reel -/
def spReel (K : PySem.W.Frag) : Sp := fun vs H Q _ => ∃ (a : Addr) (ns : List Int), vs = [.ref a] ∧ SqL K H a (ns.map V.int) ∧
  ∀ H' p, Same H H' → H p = none → ReelAt H' p → Q (.ref p) H'
def spDraw : Sp := fun vs H Q _ => ∃ (r : Addr) (n : Int), vs = [.ref r, .int n] ∧ ReelAt H r ∧ 0 < n ∧
  ∀ (v : Int) H', 0 ≤ v → v < n → But r H H' → ReelAt H' r → Q (.int v) H'
theorem ok_draw (T : Txt K mg) : FnOk P w K mg base CX0 1 T.a_law_draw T.fd_law_draw ["reel", "size"] spDraw := by
  refine T.F_law_draw.ok sc_law_draw (fun vs H Q E h => ?_) (fun cdv A outer s H vs Q E hr h => ?_)
  · obtain ⟨r, n, rfl, _⟩ := h
    rfl
  · obtain ⟨r, n, rfl, ⟨z, c, hr0, hc, hc2⟩, hn, q⟩ := h
    refine ⟨_, (pss_cons (ps_set (i := 2) sc_law_draw.nd rfl (.inl rfl) (pe_op op_sub (pe_callB call_len_seq (by rfl) T.m_len PySem.boot_len (pa_cons (pv 0) pa_nil)) pe_int))
      (pss_cons (ps_set (i := 3) sc_law_draw.nd rfl (.inl rfl) (pe_ix ix_list (pv 0) pe_int (fun _ _ => rfl)))
      (pss_cons (ps_asg (pe_op op_add (pv 3) pe_int) (pg_sub (pv 0) pe_int set_list))
      (pss_one (ps_ret (pe_op op_modN (pe_callTy call_int1 (by rfl) T.m_int (by decide +kernel) (pa_cons (pe_op op_add (pe_ix ix_list (pv 0) (pe_op op_add pe_int (pe_op op_modN (pe_callTy call_int1 (by rfl) T.m_int (by decide +kernel) (pa_cons (pv 3) pa_nil)) (pv 2))) (fun _ _ => rfl)) (pe_op op_mul (pe_op op_fdivN (pv 3) (pv 2)) pe_int)) pa_nil)) (pv 1))))))), ?_⟩
    have hl : (V.int z :: c.map V.int).length = c.length + 1 := by rw [List.length_cons, List.length_map]
    -- count = len(reel) - 1
    refine ⟨.ref r, rfl, r, _, rfl, .inl (SqL.of hr0), _, _, rfl, rfl, ?_⟩
    -- at = reel[0]
    refine ⟨.ref r, rfl, r, _, 0, .int z, rfl, rfl, SqL.of hr0, atI_nat (j := 0) rfl, ?_⟩
    -- reel[0] = at + 1
    refine ⟨_, rfl, z, 1, rfl, rfl, .ref r, rfl, r, _, 0, 0, rfl, rfl, hr0, by rw [hl]; unfold ixN; rw [if_pos (by omega), if_pos (by omega)]; rfl, ?_⟩
    have e1 : (V.int z :: c.map V.int).set 0 (.int (z + 1)) = .int (z + 1) :: c.map V.int := rfl
    rw [e1]
    have hc0 : (0 : Int) < ((V.int z :: c.map V.int).length : Int) - 1 := by rw [hl]; omega
    have fm := fmod_range z hc0
    have hat : 0 ≤ 1 + z.fmod (((V.int z :: c.map V.int).length : Int) - 1) := by omega
    have hat2 : (1 + z.fmod (((V.int z :: c.map V.int).length : Int) - 1)).toNat < (V.int (z + 1) :: c.map V.int).length := by
      have e2 : (V.int (z + 1) :: c.map V.int).length = c.length + 1 := by rw [List.length_cons, List.length_map]
      rw [hl] at fm ⊢
      rw [e2]
      omega
    obtain ⟨y, hy⟩ : ∃ y, atI (V.int (z + 1) :: c.map V.int) (1 + z.fmod (((V.int z :: c.map V.int).length : Int) - 1)) = some (.int y) := by
      have e := atI_lt hat hat2
      have e2 : (V.int (z + 1) :: c.map V.int) = ((z + 1) :: c).map V.int := rfl
      refine ⟨((z + 1) :: c)[(1 + z.fmod (((V.int z :: c.map V.int).length : Int) - 1)).toNat]'(by rw [e2, List.length_map] at hat2; exact hat2), ?_⟩
      rw [e]
      congr 1
      simp only [e2, List.getElem_map]
    -- return int(reel[1 + int(at) % count] + at // count * 389) % size
    refine ⟨.ref r, rfl, _, rfl, .inl ⟨z, rfl, ?_⟩⟩
    refine ⟨_, rfl, z, _, rfl, rfl, by omega, 1, _, rfl, rfl, r, _, _, .int y, rfl, rfl, SqL.of upd_same, hy, ?_⟩
    refine ⟨_, rfl, _, rfl, z, _, rfl, rfl, ⟨by omega, by rw [hl]; omega⟩, _, 389, rfl, rfl, .inr ⟨by decide, by decide⟩, _, _, rfl, rfl, .inl ⟨_, rfl, ?_⟩⟩
    refine ⟨_, rfl, _, n, rfl, rfl, by omega, ?_⟩
    exact q _ _ (fmod_range _ hn).1 (fmod_range _ hn).2 But.set ⟨z + 1, c, upd_same, hc, hc2⟩
/-- the words in which a turn of the reel's making is told -/
def Making (a o : Addr) (H : Hp) (n : Nat) (σ : L2.St) (H' : Hp) : Prop := ∃ y2 y3 y4 y5 y6, σ = [some (.ref a), some (.ref o), y2, y3, y4, y5, y6] ∧ Same H H' ∧ ∃ c : List Int, H' o = some (.lst (.int 0 :: c.map V.int)) ∧ c.length ≤ n
theorem ints_snoc (c : List Int) (x : Int) : (V.int 0 :: c.map V.int) ++ [V.int x] = .int 0 :: (c ++ [x]).map V.int := by
  rw [List.map_append]
  rfl
theorem same_mut {H H' : Hp} {p : Addr} {o : HO} (e : Same H H') (h : H p = none) : Same H (upd H' p o) := fun b x q => by
  rw [upd_ne (ne_of_none q h)]
  exact e b x q
theorem ok_reel (T : Txt K mg) : FnOk P w K mg base CX0 1 T.a_law_reel T.fd_law_reel ["script"] (spReel K) := by
  refine T.F_law_reel.ok sc_law_reel (fun vs H Q E h => ?_) (fun cdv A outer s H vs Q E hr h => ?_)
  · obtain ⟨a, ns, rfl, _⟩ := h
    rfl
  · obtain ⟨a, ns, rfl, hS, q⟩ := h
    refine ⟨_, (pss_cons (ps_set (i := 1) sc_law_reel.nd rfl (.inl rfl) (pe_lst (pa_cons pe_int pa_nil)))
      (pss_cons (ps_for PassesOwn.never rfl (pi_range1 (by rfl) T.m_range (pa_cons (pe_callB (call_min2 rfl) (by rfl) T.m_min (by decide +kernel) (pa_cons (pe_callB call_len_seq (by rfl) T.m_len PySem.boot_len (pa_cons (pv 0) pa_nil)) (pa_cons pe_int pa_nil))) pa_nil)) (pg_name (i := 2) sc_law_reel.nd rfl (.inl rfl)) (pss_cons (ps_set (i := 3) sc_law_reel.nd rfl (.inl rfl) (pe_ix ix_list (pv 0) (pv 2) (fun _ _ => rfl)))
      (pss_one (ps_if (pt_cmpR op_ge (pe_callB call_abs (by rfl) T.m_abs (by decide +kernel) (pa_cons (pv 3) pa_nil)) (pe_op op_pow pe_int pe_int) (nomark _)) (pss_cons (ps_set (i := 4) sc_law_reel.nd rfl (.inl rfl) (pe_callB call_abs (by rfl) T.m_abs (by decide +kernel) (pa_cons (pv 3) pa_nil)))
      (pss_one (ps_for PassesOwn.never rfl (pi_range1 (by rfl) T.m_range (pa_cons pe_int pa_nil)) (pg_name (i := 5) sc_law_reel.nd rfl (.inl rfl)) (pss_one (ps_if (pt_cmpR op_gt (pv 4) pe_int (nomark _)) (pss_cons (ps_expr (pe_bm PySem.F.plainAttrs_list PySem.F.slot_list_append PySem.F.type_list_append mt_append (pv 1) (pa_cons (pe_op op_mod (pe_callTy call_int1 (by rfl) T.m_int (by decide +kernel) (pa_cons (pv 4) pa_nil)) pe_int) pa_nil)))
      (pss_one (ps_set (i := 4) sc_law_reel.nd rfl (.inl rfl) (pe_op op_fdiv (pv 4) pe_int)))) pss_nil))))) (pss_cons (ps_set (i := 6) sc_law_reel.nd rfl (.inl rfl) (pe_op op_mod (pe_callTy call_int1 (by rfl) T.m_int (by decide +kernel) (pa_cons (pe_op op_add (pe_op op_add (pe_op op_mul (pv 3) pe_int) (pe_op op_mul (pv 2) pe_int)) pe_int) pa_nil)) pe_int))
      (pss_one (ps_for PassesOwn.never rfl (pi_range1 (by rfl) T.m_range (pa_cons pe_int pa_nil)) (pg_name (i := 5) sc_law_reel.nd rfl (.inl rfl)) (pss_cons (ps_set (i := 6) sc_law_reel.nd rfl (.inl rfl) (pe_op op_mod (pe_callTy call_int1 (by rfl) T.m_int (by decide +kernel) (pa_cons (pe_op op_add (pe_op op_add (pe_op op_mul (pv 6) pe_int) (pe_op op_mul (pv 5) pe_int)) pe_int) pa_nil)) pe_int))
      (pss_one (ps_expr (pe_bm PySem.F.plainAttrs_list PySem.F.slot_list_append PySem.F.type_list_append mt_append (pv 1) (pa_cons (pe_op op_mod (pe_callTy call_int1 (by rfl) T.m_int (by decide +kernel) (pa_cons (pe_op op_fdiv (pv 6) pe_int) pa_nil)) pe_int) pa_nil))))))))))))
      (pss_cons (ps_set (i := 6) sc_law_reel.nd rfl (.inl rfl) (pe_op op_mod (pe_callTy call_int1 (by rfl) T.m_int (by decide +kernel) (pa_cons (pe_op op_add (pe_op op_add (pe_op op_mul (pe_callB (cr_sum rfl) (by rfl) T.m_sum (by decide +kernel) (pa_cons (pv 1) pa_nil)) pe_int) (pe_op op_mul (pe_callB call_len_seq (by rfl) T.m_len PySem.boot_len (pa_cons (pv 1) pa_nil)) pe_int)) pe_int) pa_nil)) pe_int))
      (pss_cons (ps_for PassesOwn.never rfl (pi_range1 (by rfl) T.m_range (pa_cons pe_int pa_nil)) (pg_name (i := 5) sc_law_reel.nd rfl (.inl rfl)) (pss_cons (ps_set (i := 6) sc_law_reel.nd rfl (.inl rfl) (pe_op op_mod (pe_callTy call_int1 (by rfl) T.m_int (by decide +kernel) (pa_cons (pe_op op_add (pe_op op_add (pe_op op_mul (pv 6) pe_int) (pe_op op_mul (pv 5) pe_int)) pe_int) pa_nil)) pe_int))
      (pss_one (ps_expr (pe_bm PySem.F.plainAttrs_list PySem.F.slot_list_append PySem.F.type_list_append mt_append (pv 1) (pa_cons (pe_op op_mod (pe_callTy call_int1 (by rfl) T.m_int (by decide +kernel) (pa_cons (pe_op op_fdiv (pv 6) pe_int) pa_nil)) pe_int) pa_nil))))))
      (pss_one (ps_ret (pv 1))))))), ?_⟩
    -- reel = [0]
    refine ⟨by show 1 ≤ sizeLine; decide, fun o no => ?_⟩
    have s1 : Same H (upd H o (.lst [.int 0])) := same_upd no
    -- for k in range(min(len(script), 63))
    refine ⟨.ref a, rfl, a, _, rfl, .inl (s1.seq hS), _, _, rfl, _, rfl, by split <;> omega, by split <;> omega, ?_⟩
    refine for_range (lo := 0) (fun i σ H' => Making a o H (60 * i) σ H' ∧ i ≤ 63) ⟨⟨none, none, none, none, none, rfl, s1, [], upd_same, Nat.zero_le _⟩, Nat.zero_le _⟩ ?_ ?_
    · rintro i σ H3 hi ⟨⟨y2, y3, y4, y5, y6, rfl, s3, c, ho, hc⟩, hi63⟩
      have hi' : i < ns.length ∧ i < 63 := by
        rw [List.length_map] at hi
        split at hi <;> omega
      obtain ⟨x, hx⟩ : ∃ x, ns[i]? = some x := ⟨_, List.getElem?_eq_getElem hi'.1⟩
      -- cell = script[k]
      refine ⟨.ref a, rfl, _, rfl, a, _, _, .int x, rfl, rfl, s3.seq hS, at_of (j := i) (by omega) (by rw [List.getElem?_map, hx]; rfl), ?_⟩
      -- if abs(cell) >= 10 ** 18
      refine ⟨_, rfl, x, rfl, 10, 18, rfl, rfl, ⟨by decide, by decide, by decide⟩, _, _, rfl, rfl, _, rfl, ite2 (fun e => ?_) (fun e => ?_)⟩
      · -- rest = abs(cell); for turn in range(60)
        refine ⟨_, rfl, x, rfl, 60, rfl, by decide, by decide, ?_⟩
        refine for_range (lo := 0) (n := 60) (fun j σ H' => (∃ z : Int, σ[4]? = some (some (.int z))) ∧ Making a o H (60 * i + j) σ H') ⟨⟨_, rfl⟩, _, _, _, _, _, rfl, s3, c, ho, hc⟩ ?_ ?_
        · rintro j σ H4 hj ⟨⟨z, hz⟩, y2, y3, y4, y5, y6, rfl, s4, c, ho, hc⟩
          have hz' : y4 = some (.int z) := Option.some.inj hz
          subst hz'
          refine ⟨_, rfl, z, 0, rfl, rfl, _, rfl, ite2 (fun e => ?_) (fun e => ?_)⟩
          · refine ⟨.ref o, rfl, .inl ⟨rfl, _, SqL.of ho⟩, _, rfl, .inl ⟨z, rfl, z, 1009, rfl, rfl, (by show (0 : Int) < 1009; decide), o, _, _, rfl, rfl, ho, ?_, ?_⟩⟩
            · rw [List.length_cons, List.length_map]
              exact sz2 (by omega)
            · refine ⟨_, rfl, z, 1009, rfl, rfl, ⟨by decide, by decide⟩, ⟨_, rfl⟩, _, _, _, _, _, rfl, same_mut s4 no, c ++ [z % 1009], ?_, ?_⟩
              · rw [upd_same, ints_snoc]
              · rw [List.length_append]
                show c.length + 1 ≤ _
                omega
          · exact ⟨⟨z, rfl⟩, _, _, _, _, _, rfl, s4, c, ho, by omega⟩
        · rintro σ H4 ⟨_, y2, y3, y4, y5, y6, rfl, s4, c, ho, hc⟩
          exact ⟨⟨_, _, _, _, _, rfl, s4, c, ho, by omega⟩, by omega⟩
      · -- mixed = ..; for turn in range(4)
        refine ⟨_, rfl, x, 48271, rfl, rfl, .inr ⟨by decide, by decide⟩, _, rfl, _, 69621, rfl, rfl, .inr ⟨by decide, by decide⟩, _, _, rfl, rfl, _, 4099, rfl, rfl, .inl ⟨_, rfl, _, _, rfl, rfl, (by show (0 : Int) < 2147483647; decide), ?_⟩⟩
        refine ⟨4, rfl, by decide, by decide, ?_⟩
        refine for_range (lo := 0) (n := 4) (fun j σ H' => (∃ z : Int, σ[6]? = some (some (.int z))) ∧ Making a o H (60 * i + j) σ H') ⟨⟨_, rfl⟩, _, _, _, _, _, rfl, s3, c, ho, hc⟩ ?_ ?_
        · rintro j σ H4 hj ⟨⟨z, hz⟩, y2, y3, y4, y5, y6, rfl, s4, c, ho, hc⟩
          have hz' : y6 = some (.int z) := Option.some.inj hz
          subst hz'
          refine ⟨_, rfl, z, 16807, rfl, rfl, .inr ⟨by decide, by decide⟩, _, rfl, _, 7919, rfl, rfl, .inr ⟨by decide, by decide⟩, _, _, rfl, rfl, _, 101, rfl, rfl, .inl ⟨_, rfl, _, _, rfl, rfl, (by show (0 : Int) < 2147483629; decide), ?_⟩⟩
          refine ⟨.ref o, rfl, .inl ⟨rfl, _, SqL.of ho⟩, _, rfl, _, 2111, rfl, rfl, ⟨by decide, by decide⟩, .inl ⟨_, rfl, _, 1009, rfl, rfl, (by show (0 : Int) < 1009; decide), o, _, _, rfl, rfl, ho, ?_, ?_⟩⟩
          · rw [List.length_cons, List.length_map]
            exact sz2 (by omega)
          · refine ⟨⟨_, rfl⟩, _, _, _, _, _, rfl, same_mut s4 no, c ++ [((z * 16807 + (0 + (j : Int)) * 7919 + 101) % 2147483629 / 2111) % 1009], ?_, ?_⟩
            · rw [upd_same]
              exact congrArg (fun l => some (HO.lst l)) (ints_snoc c _)
            · rw [List.length_append]
              show c.length + 1 ≤ _
              omega
        · rintro σ H4 ⟨_, y2, y3, y4, y5, y6, rfl, s4, c, ho, hc⟩
          exact ⟨⟨_, _, _, _, _, rfl, s4, c, ho, by omega⟩, by omega⟩
    · rintro σ H3 ⟨⟨y2, y3, y4, y5, y6, rfl, s3, c, ho, hc⟩, hi63⟩
      have e0 : (V.int 0 :: c.map V.int) = ((0 : Int) :: c).map V.int := rfl
      have ho' : SqL K H3 o (((0 : Int) :: c).map V.int) := SqL.of ho
      refine ⟨.ref o, rfl, o, (0 : Int) :: c, rfl, ho', _, 69621, rfl, rfl, .inr ⟨by decide, by decide⟩, .ref o, rfl, o, _, rfl, .inl ho', _, 48271, rfl, rfl, .inr ⟨by decide, by decide⟩, _, _, rfl, rfl, _, 977, rfl, rfl, .inl ⟨_, rfl, _, _, rfl, rfl, (by show (0 : Int) < 2147483647; decide), ?_⟩⟩
      refine ⟨40, rfl, by decide, by decide, ?_⟩
      refine for_range (lo := 0) (n := 40) (fun j σ H' => (∃ z : Int, σ[6]? = some (some (.int z))) ∧ ∃ y2 y3 y4 y5 y6, σ = [some (.ref a), some (.ref o), y2, y3, y4, y5, y6] ∧ Same H H' ∧ ∃ c : List Int, H' o = some (.lst (.int 0 :: c.map V.int)) ∧ j ≤ c.length ∧ c.length ≤ 4000 + j) ⟨⟨_, rfl⟩, _, _, _, _, _, rfl, s3, c, ho, Nat.zero_le _, ?_⟩ ?_ ?_
      · have : (min' : Nat) → min' ≤ 63 → c.length ≤ 60 * min' → c.length ≤ 4000 + 0 := fun m h1 h2 => by omega
        exact this _ hi63 hc
      · rintro j σ H4 hj ⟨⟨z, hz⟩, y2, y3, y4, y5, y6, rfl, s4, c, ho, hc1, hc⟩
        have hz' : y6 = some (.int z) := Option.some.inj hz
        subst hz'
        refine ⟨_, rfl, z, 16807, rfl, rfl, .inr ⟨by decide, by decide⟩, _, rfl, _, 7919, rfl, rfl, .inr ⟨by decide, by decide⟩, _, _, rfl, rfl, _, 101, rfl, rfl, .inl ⟨_, rfl, _, _, rfl, rfl, (by show (0 : Int) < 2147483629; decide), ?_⟩⟩
        refine ⟨.ref o, rfl, .inl ⟨rfl, _, SqL.of ho⟩, _, rfl, _, 2111, rfl, rfl, ⟨by decide, by decide⟩, .inl ⟨_, rfl, _, 1009, rfl, rfl, (by show (0 : Int) < 1009; decide), o, _, _, rfl, rfl, ho, ?_, ?_⟩⟩
        · rw [List.length_cons, List.length_map]
          exact sz2 (by omega)
        · refine ⟨⟨_, rfl⟩, _, _, _, _, _, rfl, same_mut s4 no, c ++ [((z * 16807 + (0 + (j : Int)) * 7919 + 101) % 2147483629 / 2111) % 1009], ?_, ?_, ?_⟩
          · rw [upd_same]
            exact congrArg (fun l => some (HO.lst l)) (ints_snoc c _)
          · rw [List.length_append]
            show _ ≤ c.length + 1
            omega
          · rw [List.length_append]
            show c.length + 1 ≤ _
            omega
      · rintro σ H4 ⟨_, y2, y3, y4, y5, y6, rfl, s4, c, ho, hc1, hc⟩
        refine ⟨.ref o, rfl, q H4 o s4 no ⟨0, c, ho, by omega, by omega⟩⟩

/-! ### a drawn item, a drawn word -/
theorem But.seqT {r : Addr} {K : PySem.W.Frag} {H H' : Hp} {a : Addr} {xs : List V} (e : But r H H') (n : a ≠ r) (h : SqT K H a xs) : SqT K H' a xs := by
  rcases h with (h | ⟨o, h⟩) | h
  · exact .inl (.inl (e _ _ n h))
  · exact .inl (.inr ⟨o, e _ _ n h⟩)
  · exact .inr h
def spPick (K : PySem.W.Frag) : Sp := fun vs H Q _ => ∃ (r : Addr) (row : V), vs = [.ref r, row] ∧ ReelAt H r ∧
  ((∃ z, row = .str z ∧ 0 < (cs z).length ∧ (cs z).length ≤ 100000 ∧ ∀ c H', c ∈ cs z → But r H H' → ReelAt H' r → Q (.str (sg c)) H') ∨
   (∃ p xs, row = .ref p ∧ p ≠ r ∧ SqL K H p xs ∧ 0 < xs.length ∧ ∀ v H', v ∈ xs → But r H H' → ReelAt H' r → Q v H'))
theorem ok_pick (T : Txt K mg) : FnOk P w K mg base CX0 2 T.a_law_pick T.fd_law_pick ["reel", "row"] (spPick K) := by
  have G_law_draw : FnOk P w K mg base CX0 1 T.a_law_draw T.fd_law_draw ["reel", "size"] spDraw := ok_draw T
  refine T.F_law_pick.ok sc_law_pick (fun vs H Q E h => ?_) (fun cdv A outer s H vs Q E hr h => ?_)
  · obtain ⟨r, n, rfl, _⟩ := h
    rfl
  · have hr_law_draw : Room 1 _ := hr
    obtain ⟨r, row, rfl, hr0, ⟨z, rfl, hz, hz2, q⟩ | ⟨p, xs, rfl, hp, hS, hx, q⟩⟩ := h
    · refine ⟨_, (pss_one (ps_ret (pe_ix ix_seq (pv 1) (pe_call G_law_draw hr_law_draw (by rfl) T.g_law_draw T.F_law_draw.kp T.b_law_draw .nil pass0 (pa_cons (pv 0) (pa_cons (pe_callB call_len (by rfl) T.m_len PySem.boot_len (pa_cons (pv 1) pa_nil)) pa_nil))) (fun _ _ => rfl)))), ?_⟩
      have hl := len_cs z
      refine ⟨_, rfl, _, rfl, _, rfl, _, z.length, rfl, ⟨sz1 (by omega), rfl⟩, r, _, rfl, hr0, by omega, fun v H' h0 h1 hb hR => ?_⟩
      have hv : v.toNat < (cs z).length := by omega
      exact .inr (.inr ⟨z, v, (cs z)[v.toNat], rfl, rfl, sz1 (by omega), at_of' h0 (List.getElem?_eq_getElem hv), q _ _ (List.getElem_mem hv) hb hR⟩)
    · refine ⟨_, (pss_one (ps_ret (pe_ix ix_seq (pv 1) (pe_call G_law_draw hr_law_draw (by rfl) T.g_law_draw T.F_law_draw.kp T.b_law_draw .nil pass0 (pa_cons (pv 0) (pa_cons (pe_callB call_len (by rfl) T.m_len PySem.boot_len (pa_cons (pv 1) pa_nil)) pa_nil))) (fun _ _ => rfl)))), ?_⟩
      refine ⟨_, rfl, _, rfl, _, rfl, _, xs.length, rfl, .inl ⟨xs, hS, rfl⟩, r, _, rfl, hr0, by omega, fun v H' h0 h1 hb hR => ?_⟩
      have hv : v.toNat < xs.length := by omega
      exact .inl ⟨p, xs, v, xs[v.toNat], rfl, rfl, hb.seq hp hS, at_of (j := v.toNat) (by omega) (List.getElem?_eq_getElem hv), q _ _ (List.getElem_mem hv) hb hR⟩
def spWord : Sp := fun vs H Q _ => ∃ (r : Addr) (z : Str) (a b : Int), vs = [.ref r, .str z, .int a, .int b] ∧ ReelAt H r ∧ 0 < (cs z).length ∧ (cs z).length ≤ 100000 ∧ 0 ≤ a ∧ a ≤ b ∧ b ≤ 50000 ∧
  ∀ (x : Str) H', a ≤ ((cs x).length : Int) → ((cs x).length : Int) ≤ b → (∀ c ∈ cs x, c ∈ cs z) → But r H H' → ReelAt H' r → Q (.str x) H'
theorem map_snoc (l : List Nat) (c : Nat) : ((l.map sg).map V.str) ++ [V.str (sg c)] = ((l ++ [c]).map sg).map V.str := by
  rw [List.map_append, List.map_append]
  rfl
theorem ok_word (T : Txt K mg) : FnOk P w K mg base CX0 3 T.a_law_word T.fd_law_word ["reel", "letters", "least", "most"] spWord := by
  have G_law_draw : FnOk P w K mg base CX0 1 T.a_law_draw T.fd_law_draw ["reel", "size"] spDraw := ok_draw T
  have G_law_pick : FnOk P w K mg base CX0 2 T.a_law_pick T.fd_law_pick ["reel", "row"] (spPick K) := ok_pick T
  refine T.F_law_word.ok sc_law_word (fun vs H Q E h => ?_) (fun cdv A outer s H vs Q E hr h => ?_)
  · obtain ⟨r, z, a, b, rfl, _⟩ := h
    rfl
  · have hr_law_draw : Room 1 _ := hr.mono (by decide)
    have hr_law_pick : Room 2 _ := hr
    obtain ⟨r, z, a, b, rfl, hr0, hz, hz2, h0, h1, h2, q⟩ := h
    refine ⟨_, (pss_one (ps_ret (pe_join pe_str (pe_lc (own := [("k", 4)]) (g := gName 4) (by rfl) sc_law_word.nd (pi_range1 (by rfl) T.m_range (pa_cons (pe_op op_add (pv 2) (pe_call G_law_draw hr_law_draw (by rfl) T.g_law_draw T.F_law_draw.kp T.b_law_draw .nil pass0 (pa_cons (pv 0) (pa_cons (pe_op op_add (pe_op op_sub (pv 3) (pv 2)) pe_int) pa_nil)))) pa_nil)) (blkOk_by (own := [("k", 4)]) (N := ["reel", "letters", "least", "most", "k"]) (sc := defScope s_law_word) (by decide +kernel)) (fun _ _ _ _ _ => pg_name (i := 4) sc_law_word.nd rfl (Or.inl rfl)) (fun _ _ _ _ _ => pts_nil) (fun _ _ _ _ _ => (pe_call G_law_pick hr_law_pick (by rfl) T.g_law_pick T.F_law_pick.kp T.b_law_pick .nil pass0 (pa_cons (pv 0) (pa_cons (pv 1) pa_nil)))))))), ?_⟩
    refine ⟨⟨_, rfl⟩, _, rfl, _, rfl, _, rfl, _, rfl, _, _, rfl, rfl, _, 1, rfl, rfl, r, _, rfl, hr0, by omega, fun v H1 v0 v1 hb1 hR1 => ?_⟩
    refine ⟨_, _, rfl, rfl, _, rfl, by omega, by omega, fun D nD => ?_⟩
    refine lc_range (lo := 0) (n := (a + v).toNat) (fun i H' => ∃ l : List Nat, H' D = some (.lst ((l.map sg).map V.str)) ∧ l.length = i ∧ (∀ c ∈ l, c ∈ cs z) ∧ But r H1 H' ∧ ReelAt H' r)
      ⟨[], upd_same, rfl, (fun c hc => absurd hc List.not_mem_nil), But.new nD, hR1.new nD⟩ ?_ ?_
    · rintro i H' hi ⟨l, hD, hl, hm, hb, hR⟩
      refine ⟨rfl, _, rfl, _, rfl, r, _, rfl, hR, .inl ⟨z, rfl, hz, hz2, fun c H2 hc hb2 hR2 => ?_⟩⟩
      have hDr : D ≠ r := (hR1.ne nD).symm
      have hD2 := hb2 D _ hDr hD
      refine ⟨_, hD2, sz2 (by rw [List.length_map, List.length_map]; omega), l ++ [c], ?_, ?_, ?_, ?_, ?_⟩
      · rw [upd_same, map_snoc]
      · rw [List.length_append, hl]
        rfl
      · intro x hx
        rcases List.mem_append.mp hx with hx | hx
        · exact hm x hx
        · rw [List.mem_singleton.mp hx]
          exact hc
      · exact fun b o n e => by
          rw [upd_ne (ne_of_none e nD)]
          exact hb2 b o n (hb b o n e)
      · obtain ⟨z1, c1, e1, e2⟩ := hR2
        exact ⟨z1, c1, by rw [upd_ne hDr.symm]; exact e1, e2⟩
    · rintro H' ⟨l, hD, hl, hm, hb, hR⟩
      refine ⟨_, _, _, rfl, rfl, .inl (SqL.of hD), ?_, ?_⟩
      · rw [sg_lens, List.length_map]
        show l.length + l.length * 0 ≤ _
        omega
      · rw [join_sg rfl]
        exact q _ _ (by show a ≤ (l.length : Int); omega) (by show (l.length : Int) ≤ b; omega) hm (hb1.trans hb) hR

/-! ### walks over texts -/
theorem for_strS {x : Str} {g : L2.TG} {tb : L2.TS} {D : L2.Ends} {σ : L2.St} {H : Hp} (Pv : Nat → L2.St → Hp → Prop) (h0 : Pv 0 σ H)
    (hs : ∀ i c σ H, x.cps[i]? = some c → Pv i σ H → g (.str ⟨#[c]⟩) σ H fun σ2 H2 => tb { D with nx := Pv (i + 1), ct := Pv (i + 1), bk := D.nx } σ2 H2) (hd : ∀ σ H, Pv x.cps.size σ H → D.nx σ H) :
    ∃ Wk : Nat → Nat → L2.St → Hp → Prop, (∃ mm, Wk 0 mm σ H) ∧ ∀ i mm σ H, Wk i mm σ H →
      ((Its x).stop i H ∧ D.nx σ H) ∨ ((Its x).go i H ∧ ∃ N : L2.St → Hp → Prop, (∀ σ' H', N σ' H' → ∃ mm', mm' < mm ∧ Wk (i + 1) mm' σ' H') ∧ ∀ y H', (Its x).yld i H y H' → g y σ H' fun σ2 H2 => tb { D with nx := N, ct := N, bk := D.nx } σ2 H2) := by
  refine ⟨fun i mm σ H => mm = x.cps.size - i ∧ i ≤ x.cps.size ∧ Pv i σ H, ⟨x.cps.size, by simp, Nat.zero_le _, h0⟩, ?_⟩
  rintro i mm σ H ⟨rfl, hi, pz⟩
  by_cases hlt : i < x.cps.size
  · refine .inr ⟨hlt, Pv (i + 1), fun σ' H' pz' => ⟨x.cps.size - (i + 1), by omega, rfl, hlt, pz'⟩, fun y H' hy => ?_⟩
    obtain ⟨rfl, c, hc, rfl⟩ := hy
    exact hs i c σ H' hc pz
  · have ee : i = x.cps.size := by omega
    subst ee
    exact .inl ⟨Nat.le_refl _, hd σ H pz⟩
theorem lc_strS {x : Str} {g : L2.TG} {tt : L2.TT} {te : L2.TE} {vs : List Nat} {σ : L2.St} {H1 : Hp} {D : Addr} {Qd : Hp → Prop} (Pv : Nat → Hp → Prop) (h0 : Pv 0 (upd H1 D (.lst [])))
    (hs : ∀ i c H, x.cps[i]? = some c → Pv i H → g (.str ⟨#[c]⟩) (wipe σ vs) H fun σ2 H2 => wipe σ2 vs = wipe σ vs ∧ tt σ2 H2 fun b H3 =>
      if b = true then te σ2 H3 fun y H4 => ∃ acc, H4 D = some (.lst acc) ∧ acc.length < sizeLine ∧ Pv (i + 1) (upd H4 D (.lst (acc ++ [y]))) else Pv (i + 1) H3) (hd : ∀ H, Pv x.cps.size H → Qd H) :
    ∃ Wk : Nat → Nat → Hp → Prop, (∃ mm, Wk 0 mm (upd H1 D (.lst []))) ∧ ∀ i mm H, Wk i mm H →
      ((Its x).stop i H ∧ Qd H) ∨ ((Its x).go i H ∧ ∃ Nx : Hp → Prop, (∀ H', Nx H' → ∃ mm', mm' < mm ∧ Wk (i + 1) mm' H') ∧ ∀ y H', (Its x).yld i H y H' → g y (wipe σ vs) H' fun σ2 H2 => wipe σ2 vs = wipe σ vs ∧ tt σ2 H2 fun b H3 =>
        if b = true then te σ2 H3 fun y H4 => ∃ acc, H4 D = some (.lst acc) ∧ acc.length < sizeLine ∧ Nx (upd H4 D (.lst (acc ++ [y]))) else Nx H3) := by
  refine ⟨fun i mm H => mm = x.cps.size - i ∧ i ≤ x.cps.size ∧ Pv i H, ⟨x.cps.size, by simp, Nat.zero_le _, h0⟩, ?_⟩
  rintro i mm H ⟨rfl, hi, pz⟩
  by_cases hlt : i < x.cps.size
  · refine .inr ⟨hlt, Pv (i + 1), fun H' pz' => ⟨x.cps.size - (i + 1), by omega, rfl, hlt, pz'⟩, fun y H' hy => ?_⟩
    obtain ⟨rfl, c, hc, rfl⟩ := hy
    exact hs i c H' hc pz
  · have ee : i = x.cps.size := by omega
    subst ee
    exact .inl ⟨Nat.le_refl _, hd H pz⟩
/-- a walk over enumerate(xs) -/
theorem for_enumS {K : PySem.W.Frag} {a : Addr} {xs : List V} {g : L2.TG} {tb : L2.TS} {D : L2.Ends} {σ : L2.St} {H : Hp} (Pv : Nat → L2.St → Hp → Prop) (h0 : Pv 0 σ H) (hl : ∀ i σ H, i ≤ xs.length → Pv i σ H → SqL K H a xs)
    (hs : ∀ i x t σ H, xs[i]? = some x → Pv i σ H → H t = none → g (.ref t) σ (upd H t (.tup [.int (i : Nat), x])) fun σ2 H2 => tb { D with nx := Pv (i + 1), ct := Pv (i + 1), bk := D.nx } σ2 H2) (hd : ∀ σ H, Pv xs.length σ H → D.nx σ H) :
    ∃ Wk : Nat → Nat → L2.St → Hp → Prop, (∃ mm, Wk 0 mm σ H) ∧ ∀ i mm σ H, Wk i mm σ H →
      ((Ite K a).stop i H ∧ D.nx σ H) ∨ ((Ite K a).go i H ∧ ∃ N : L2.St → Hp → Prop, (∀ σ' H', N σ' H' → ∃ mm', mm' < mm ∧ Wk (i + 1) mm' σ' H') ∧ ∀ y H', (Ite K a).yld i H y H' → g y σ H' fun σ2 H2 => tb { D with nx := N, ct := N, bk := D.nx } σ2 H2) := by
  refine ⟨fun i mm σ H => mm = xs.length - i ∧ i ≤ xs.length ∧ Pv i σ H, ⟨xs.length, by simp, Nat.zero_le _, h0⟩, ?_⟩
  rintro i mm σ H ⟨rfl, hi, pz⟩
  have q := hl i σ H hi pz
  by_cases hlt : i < xs.length
  · have hx : xs[i]? = some (xs[i]) := List.getElem?_eq_getElem hlt
    refine .inr ⟨⟨xs, xs[i], q, hx⟩, Pv (i + 1), fun σ' H' pz' => ⟨xs.length - (i + 1), by omega, rfl, hlt, pz'⟩, fun y H' hy => ?_⟩
    obtain ⟨t, x, rfl, ht, rfl, hall⟩ := hy
    exact hs i x t σ H (hall xs q) pz ht
  · have ee : i = xs.length := by omega
    subst ee
    exact .inl ⟨⟨xs, q, Nat.le_refl _⟩, hd σ H pz⟩

/-! ### tuples, pairs -/
def Tups (H H' : Hp) : Prop := ∀ b xs, H b = some (.tup xs) → H' b = some (.tup xs)
theorem Tups.refl (H : Hp) : Tups H H := fun _ _ h => h
theorem Tups.trans {H H1 H2 : Hp} (a : Tups H H1) (b : Tups H1 H2) : Tups H H2 := fun c xs h => b c xs (a c xs h)
theorem But.tups {r : Addr} {H H' : Hp} (b : But r H H') (h : ReelAt H r) : Tups H H' := fun c xs e => b c _ (fun z => by
  obtain ⟨z1, c1, e1, _⟩ := h
  rw [z, e1] at e
  cases e) e
theorem Tups.new {H : Hp} {p : Addr} {o : HO} (h : H p = none) : Tups H (upd H p o) := fun c xs e => by rw [upd_ne (ne_of_none e h)]; exact e
theorem Tups.mut {H : Hp} {p : Addr} {xs : List V} {o : HO} (h : H p = some (.lst xs)) : Tups H (upd H p o) := fun c ys e => by
  rw [upd_ne (ne_of e h (fun z => by cases z))]
  exact e
theorem paired_len {α β : Type} {F : α → β → Prop} : ∀ {xs : List α} {ys : List β}, Paired F xs ys → xs.length = ys.length
  | _, _, .nil => rfl
  | _, _, .cons _ t => congrArg (· + 1) (paired_len t)
theorem paired_app {α β : Type} {F : α → β → Prop} : ∀ {xs xs' : List α} {ys ys' : List β}, Paired F xs ys → Paired F xs' ys' → Paired F (xs ++ xs') (ys ++ ys')
  | _, _, _, _, .nil, h => h
  | _, _, _, _, .cons r t, h => .cons r (paired_app t h)
theorem paired_get {α β : Type} {F : α → β → Prop} : ∀ {xs : List α} {ys : List β} {i : Nat} {y : β}, Paired F xs ys → ys[i]? = some y → ∃ x, xs[i]? = some x ∧ F x y
  | _, _, _, _, .nil, h => by simp at h
  | _, _, 0, y, .cons r t, h => by
    have e := Option.some.inj h
    subst e
    exact ⟨_, rfl, r⟩
  | _, _, i + 1, y, .cons r t, h => by
    obtain ⟨x, h1, h2⟩ := paired_get (i := i) (y := y) t (by simpa using h)
    exact ⟨x, by simpa using h1, h2⟩
theorem paired_take {α β : Type} {F : α → β → Prop} : ∀ {xs : List α} {ys : List β} (n : Nat), Paired F xs ys → Paired F (xs.take n) (ys.take n)
  | _, _, 0, _ => .nil
  | _, _, _ + 1, .nil => .nil
  | _, _, n + 1, .cons r t => .cons r (paired_take n t)
theorem paired_drop {α β : Type} {F : α → β → Prop} : ∀ {xs : List α} {ys : List β} (n : Nat), Paired F xs ys → Paired F (xs.drop n) (ys.drop n)
  | _, _, 0, h => h
  | _, _, _ + 1, .nil => .nil
  | _, _, n + 1, .cons r t => paired_drop n t

/-! ### an if told once -/
theorem if_ev {tt : L2.TT} {a b : L2.TS} {D : L2.Ends} {σ : L2.St} {H : Hp} (R : Hp → Prop) (h : ∀ Qb : Bool → Hp → Prop, (∀ c H2, R H2 → Qb c H2) → tt σ H Qb) (ha : ∀ H2, R H2 → a D σ H2) (hb : ∀ H2, R H2 → b D σ H2) : tIfS tt a b D σ H := h _ (fun c H2 r => by
  cases c
  · exact iteF (hb H2 r)
  · exact iteT (ha H2 r))
theorem if_2 {tt : L2.TT} {a b : L2.TS} {D : L2.Ends} {σ : L2.St} {H : Hp} (R : Hp → Prop) (A : Prop) (h : ∀ Qb : Bool → Hp → Prop, (∀ c H2, R H2 → (c = true ↔ A) → Qb c H2) → tt σ H Qb) (ha : A → ∀ H2, R H2 → a D σ H2) (hb : ¬ A → ∀ H2, R H2 → b D σ H2) : tIfS tt a b D σ H := h _ (fun c H2 r i => by
  cases c
  · exact iteF (hb (fun z => absurd (i.mpr z) (by decide)) H2 r)
  · exact iteT (ha (i.mp rfl) H2 r))
theorem g_if {i : Nat} {x : V} {σ : L2.St} {H : Hp} {tt : L2.TT} {a b : L2.TS} {D : L2.Ends} {r : VK} {k c : L2.St → Hp → Prop} (h : tIfS tt a b D (σ.set i (some x)) H) : gName i x σ H (Ends.nx ⟨tIfS tt a b D, r, k, c⟩) := h
theorem g_seq {i : Nat} {x : V} {σ : L2.St} {H : Hp} {t u : L2.TS} {D : L2.Ends} {r : VK} {k c : L2.St → Hp → Prop} (h : tSeq t u D (σ.set i (some x)) H) : gName i x σ H (Ends.nx ⟨tSeq t u D, r, k, c⟩) := h
/-- if ..: a (and it ends here); the rest is told once -/
theorem sif {tt : L2.TT} {a c : L2.TS} {D : L2.Ends} {σ : L2.St} {H : Hp} (R : Hp → Prop) (A : Prop) (h : ∀ Qb : Bool → Hp → Prop, (∀ c H2, R H2 → (c = true ↔ A) → Qb c H2) → tt σ H Qb) (ha : A → ∀ H2, R H2 → a { D with nx := fun σ2 H2 => c D σ2 H2 } σ H2) (hb : ¬ A → ∀ H2, R H2 → c D σ H2) :
    tSeq (tIfS tt a tNext) c D σ H := if_2 (D := { D with nx := fun σ2 H2 => c D σ2 H2 }) R A h ha hb
theorem itF {c : Bool} {A B : Prop} (h : c = false) (b : B) : if c = true then A else B := by
  rw [h]
  exact iteF b

/-! ### slices -/
theorem cut_pre (z : Str) (a : Nat) : cs (cutS z none (some (a : Int))) = (cs z).take a := by
  show ((cs z).drop 0).take _ = _
  rw [HT.sIx_nat, HT.sIx_none, List.drop_zero, Nat.sub_zero, len_cs, ← List.take_eq_take_min]
theorem cut_suf (z : Str) (a : Nat) : cs (cutS z (some (a : Int)) none) = (cs z).drop a := by
  show ((cs z).drop _).take _ = _
  rw [HT.sIx_nat, HT.sIx_none, len_cs, List.take_of_length_le (by rw [List.length_drop]; exact Nat.le_refl _)]
  by_cases h : a ≤ (cs z).length
  · rw [Nat.min_eq_left h]
  · rw [Nat.min_eq_right (by omega), List.drop_eq_nil_of_le (Nat.le_refl _), List.drop_eq_nil_of_le (by omega)]
theorem cut_mid (z : Str) (a b : Nat) : cs (cutS z (some (a : Int)) (some (b : Int))) = ((cs z).take b).drop a := by
  show ((cs z).drop _).take _ = _
  rw [HT.sIx_nat, HT.sIx_nat, len_cs]
  by_cases h : a ≤ (cs z).length
  · rw [Nat.min_eq_left h, List.drop_take]
    by_cases h2 : b ≤ (cs z).length
    · rw [Nat.min_eq_left h2]
    · rw [Nat.min_eq_right (by omega), List.take_of_length_le (by rw [List.length_drop]; exact Nat.le_refl _), List.take_of_length_le (by rw [List.length_drop]; omega)]
  · rw [Nat.min_eq_right (show (cs z).length ≤ a by omega), List.drop_eq_nil_of_le (Nat.le_refl _), List.take_nil, List.drop_eq_nil_of_le (by rw [List.length_take]; omega)]

/-! ### trees, in plain Lean -/
structure Nd where
  kind : Str
  sym : Str
  st : Int
  lead : Int
  wid : Int
  look : Int
  alt : Int
  pop : Int
inductive Tr where
  | mk (p : Addr) (d : Nd) (ks : List Tr)
def Tr.at : Tr → Addr
  | .mk p _ _ => p
def Tr.d : Tr → Nd
  | .mk _ d _ => d
def Tr.ks : Tr → List Tr
  | .mk _ _ ks => ks
/-- a tree's rows, in their order -/
abbrev Rw := Int × Nd
mutual
def Tr.rows (l : Int) : Tr → List Rw
  | .mk _ d ks => (l, d) :: rowsL (l + 1) ks
def rowsL (l : Int) : List Tr → List Rw
  | [] => []
  | t :: ts => t.rows l ++ rowsL l ts
end
mutual
/-- a tree's nodes, in their order -/
def Tr.ats : Tr → List Addr
  | .mk p _ ks => p :: atsL ks
def atsL : List Tr → List Addr
  | [] => []
  | t :: ts => t.ats ++ atsL ts
end
/-- a row with its node -/
abbrev Ra := Int × Nd × Addr
mutual
def Tr.ras (l : Int) : Tr → List Ra
  | .mk p d ks => (l, d, p) :: rasL (l + 1) ks
def rasL (l : Int) : List Tr → List Ra
  | [] => []
  | t :: ts => t.ras l ++ rasL l ts
end
abbrev Lt := Int × Tr
def flatL (ps : List Lt) : List Ra := (ps.map fun p => p.2.ras p.1).flatten
/-- from the right: each row takes the trees in front that stand one level below it -/
def grow : List Ra → List Lt
  | [] => []
  | r :: rs => (r.1, .mk r.2.2 r.2.1 (((grow rs).takeWhile fun p => p.1 == r.1 + 1).map Prod.snd)) :: (grow rs).dropWhile fun p => p.1 == r.1 + 1
theorem rasL_same {l : Int} : ∀ ps : List Lt, (∀ p ∈ ps, p.1 = l) → rasL l (ps.map Prod.snd) = flatL ps
  | [], _ => rfl
  | p :: ps, h => by
    have ih := rasL_same ps fun q hq => h q (List.mem_cons_of_mem _ hq)
    show p.2.ras l ++ rasL l (ps.map Prod.snd) = p.2.ras p.1 ++ flatL ps
    rw [ih, h p List.mem_cons_self]
theorem mem_takeW {α : Type} {f : α → Bool} {x : α} : ∀ {l : List α}, x ∈ l.takeWhile f → f x = true ∧ x ∈ l
  | [], h => absurd h List.not_mem_nil
  | y :: l, h => by
    rw [List.takeWhile_cons] at h
    split at h
    · rename_i c
      rcases List.mem_cons.mp h with rfl | h
      · exact ⟨c, List.mem_cons_self⟩
      · have := mem_takeW h
        exact ⟨this.1, List.mem_cons_of_mem _ this.2⟩
    · exact absurd h List.not_mem_nil
theorem mem_dropW {α : Type} {f : α → Bool} {x : α} {l : List α} (h : x ∈ l.dropWhile f) : x ∈ l := by
  rw [← List.takeWhile_append_dropWhile (p := f) (l := l)]
  exact List.mem_append_right _ h
theorem flat_app (ps qs : List Lt) : flatL (ps ++ qs) = flatL ps ++ flatL qs := by
  unfold flatL
  rw [List.map_append, List.flatten_append]
theorem grow_flat : ∀ rs : List Ra, flatL (grow rs) = rs
  | [] => rfl
  | r :: rs => by
    have ih := grow_flat rs
    have h1 := rasL_same (l := r.1 + 1) ((grow rs).takeWhile fun p => p.1 == r.1 + 1) fun p hp => by simpa using (mem_takeW hp).1
    have h2 : flatL ((grow rs).takeWhile fun p => p.1 == r.1 + 1) ++ flatL ((grow rs).dropWhile fun p => p.1 == r.1 + 1) = rs := by
      rw [← flat_app, List.takeWhile_append_dropWhile]
      exact ih
    show (((r.1, r.2.1, r.2.2) : Ra) :: rasL (r.1 + 1) (((grow rs).takeWhile fun p => p.1 == r.1 + 1).map Prod.snd)) ++ flatL ((grow rs).dropWhile fun p => p.1 == r.1 + 1) = r :: rs
    rw [h1, List.cons_append, h2]
/-- levels that climb by one at most -/
def Lad : List Int → Prop
  | [] => True
  | [_] => True
  | a :: b :: ls => b ≤ a + 1 ∧ Lad (b :: ls)
theorem Lad.tail {a : Int} {ls : List Int} (h : Lad (a :: ls)) : Lad ls := by
  cases ls with
  | nil => exact True.intro
  | cons b ls => exact h.2
theorem grow_mem {p : Lt} : ∀ {rs : List Ra}, p ∈ grow rs → ∃ r ∈ rs, r.1 = p.1
  | [], h => absurd h List.not_mem_nil
  | r :: rs, h => by
    rcases List.mem_cons.mp h with rfl | h
    · exact ⟨r, List.mem_cons_self, rfl⟩
    · obtain ⟨x, hx, e⟩ := grow_mem (mem_dropW h)
      exact ⟨x, List.mem_cons_of_mem _ hx, e⟩
theorem grow_head : ∀ {r : Ra} {rs : List Ra}, ∃ t ps, grow (r :: rs) = (r.1, t) :: ps := ⟨_, _, rfl⟩
/-- along grow the levels fall -/
theorem grow_desc : ∀ {rs : List Ra}, Lad (rs.map Prod.fst) → (grow rs).Pairwise fun p q => q.1 ≤ p.1
  | [], _ => .nil
  | r :: rs, h => by
    have ih := grow_desc (rs := rs) h.tail
    have ihd : ((grow rs).dropWhile fun p => p.1 == r.1 + 1).Pairwise fun p q => q.1 ≤ p.1 := ih.sublist (List.dropWhile_sublist _)
    refine List.pairwise_cons.mpr ⟨fun q hq => ?_, ihd⟩
    have top : ∀ q ∈ grow rs, q.1 ≤ r.1 + 1 := fun q hq => by
      cases rs with
      | nil => exact absurd hq List.not_mem_nil
      | cons s rs =>
        have hs : s.1 ≤ r.1 + 1 := h.1
        obtain ⟨t, ps, e⟩ := grow_head (r := s) (rs := rs)
        rw [e] at hq ih
        rcases List.mem_cons.mp hq with rfl | hq
        · exact hs
        · have := (List.pairwise_cons.mp ih).1 q hq
          simp only at this
          omega
    show q.1 ≤ r.1
    cases hd : (grow rs).dropWhile fun p => p.1 == r.1 + 1 with
    | nil =>
      rw [hd] at hq
      exact absurd hq List.not_mem_nil
    | cons x xs =>
      have hx : ¬ x.1 = r.1 + 1 := by
        have := List.head?_dropWhile_not (fun p : Lt => p.1 == r.1 + 1) (grow rs)
        rw [hd] at this
        simpa using this
      have hx2 := top x (mem_dropW (by rw [hd]; exact List.mem_cons_self))
      rw [hd] at hq ihd
      rcases List.mem_cons.mp hq with rfl | hq
      · omega
      · have := (List.pairwise_cons.mp ihd).1 q hq
        omega
/-- rows that begin at the level 0 and stand above it from then on are one tree -/
theorem grow_one {r : Ra} {rs : List Ra} (h : Lad ((r :: rs).map Prod.fst)) (hr : r.1 = 0) (hs : ∀ x ∈ rs, 1 ≤ x.1) : ∃ t, grow (r :: rs) = [(0, t)] := by
  obtain ⟨t, ps, e⟩ := grow_head (r := r) (rs := rs)
  have hd := grow_desc h
  rw [e] at hd
  cases ps with
  | nil => exact ⟨t, by rw [e, hr]⟩
  | cons p ps =>
    exfalso
    have h1 := (List.pairwise_cons.mp hd).1 p List.mem_cons_self
    have h2 : p ∈ (grow rs).dropWhile fun p => p.1 == r.1 + 1 := by
      have e2 : grow (r :: rs) = _ :: (grow rs).dropWhile fun p => p.1 == r.1 + 1 := rfl
      rw [e] at e2
      have := (List.cons.inj e2).2
      rw [← this]
      exact List.mem_cons_self
    obtain ⟨x, hx, ex⟩ := grow_mem (mem_dropW h2)
    have := hs x hx
    simp only at h1
    omega

/-! ### nodes in the heap -/
theorem putF_le (f : Str) (v : V) : ∀ fs : List (Str × V), (putF f v fs).length ≤ fs.length + 1
  | [] => Nat.le_refl _
  | (g, u) :: r => by
    have ih := putF_le f v r
    show (if g = f then _ else _ : List (Str × V)).length ≤ _
    split
    · rw [List.length_cons, List.length_cons]
      omega
    · rw [List.length_cons, List.length_cons]
      omega
def nfl (d : Nd) (tp : Addr) : List (Str × V) := putF "popped" (.int d.pop) (putF "nodes" (.ref tp) (putF "alternative" (.int d.alt) (putF "look" (.int d.look) (putF "width" (.int d.wid) (putF "lead" (.int d.lead) (putF "state" (.int d.st) (putF "symbol" (.str d.sym) (putF "kind" (.str d.kind) []))))))))
theorem nf_kind (d : Nd) (tp : Addr) : (nfl d tp).lookup ("kind" : Str) = some (.str d.kind) := by
  unfold nfl
  rw [lookup_putF, if_neg (by decide +kernel), lookup_putF, if_neg (by decide +kernel), lookup_putF, if_neg (by decide +kernel), lookup_putF, if_neg (by decide +kernel), lookup_putF, if_neg (by decide +kernel), lookup_putF, if_neg (by decide +kernel), lookup_putF, if_neg (by decide +kernel), lookup_putF, if_neg (by decide +kernel), lookup_putF, if_pos rfl]
theorem nf_symbol (d : Nd) (tp : Addr) : (nfl d tp).lookup ("symbol" : Str) = some (.str d.sym) := by
  unfold nfl
  rw [lookup_putF, if_neg (by decide +kernel), lookup_putF, if_neg (by decide +kernel), lookup_putF, if_neg (by decide +kernel), lookup_putF, if_neg (by decide +kernel), lookup_putF, if_neg (by decide +kernel), lookup_putF, if_neg (by decide +kernel), lookup_putF, if_neg (by decide +kernel), lookup_putF, if_pos rfl]
theorem nf_state (d : Nd) (tp : Addr) : (nfl d tp).lookup ("state" : Str) = some (.int d.st) := by
  unfold nfl
  rw [lookup_putF, if_neg (by decide +kernel), lookup_putF, if_neg (by decide +kernel), lookup_putF, if_neg (by decide +kernel), lookup_putF, if_neg (by decide +kernel), lookup_putF, if_neg (by decide +kernel), lookup_putF, if_neg (by decide +kernel), lookup_putF, if_pos rfl]
theorem nf_lead (d : Nd) (tp : Addr) : (nfl d tp).lookup ("lead" : Str) = some (.int d.lead) := by
  unfold nfl
  rw [lookup_putF, if_neg (by decide +kernel), lookup_putF, if_neg (by decide +kernel), lookup_putF, if_neg (by decide +kernel), lookup_putF, if_neg (by decide +kernel), lookup_putF, if_neg (by decide +kernel), lookup_putF, if_pos rfl]
theorem nf_width (d : Nd) (tp : Addr) : (nfl d tp).lookup ("width" : Str) = some (.int d.wid) := by
  unfold nfl
  rw [lookup_putF, if_neg (by decide +kernel), lookup_putF, if_neg (by decide +kernel), lookup_putF, if_neg (by decide +kernel), lookup_putF, if_neg (by decide +kernel), lookup_putF, if_pos rfl]
theorem nf_look (d : Nd) (tp : Addr) : (nfl d tp).lookup ("look" : Str) = some (.int d.look) := by
  unfold nfl
  rw [lookup_putF, if_neg (by decide +kernel), lookup_putF, if_neg (by decide +kernel), lookup_putF, if_neg (by decide +kernel), lookup_putF, if_pos rfl]
theorem nf_alternative (d : Nd) (tp : Addr) : (nfl d tp).lookup ("alternative" : Str) = some (.int d.alt) := by
  unfold nfl
  rw [lookup_putF, if_neg (by decide +kernel), lookup_putF, if_neg (by decide +kernel), lookup_putF, if_pos rfl]
theorem nf_nodes (d : Nd) (tp : Addr) : (nfl d tp).lookup ("nodes" : Str) = some (.ref tp) := by
  unfold nfl
  rw [lookup_putF, if_neg (by decide +kernel), lookup_putF, if_pos rfl]
theorem nf_popped (d : Nd) (tp : Addr) : (nfl d tp).lookup ("popped" : Str) = some (.int d.pop) := by
  unfold nfl
  rw [lookup_putF, if_pos rfl]
theorem szM {n : Nat} (h : n ≤ 4000000) : n ≤ sizeLine := Nat.le_trans h (by decide)
mutual
def NodeAt (K : PySem.W.Frag) (C : Addr) (H : Hp) : Tr → Prop
  | .mk p d ks => (∃ dx tp, H p = some (.ins C dx (nfl d tp)) ∧ SqT K H tp (ks.map fun t => V.ref t.at)) ∧ NodesAt K C H ks
def NodesAt (K : PySem.W.Frag) (C : Addr) (H : Hp) : List Tr → Prop
  | [] => True
  | t :: ts => NodeAt K C H t ∧ NodesAt K C H ts
end
/-- what a heap keeps of nodes and tuples -/
structure Keeps (K : PySem.W.Frag) (C : Addr) (H H' : Hp) : Prop where
  ins : ∀ p dx d tp, H p = some (.ins C dx (nfl d tp)) → H' p = some (.ins C dx (nfl d tp))
  tup : ∀ tp us, SqT K H tp us → SqT K H' tp us
theorem Keeps.of {K : PySem.W.Frag} {C : Addr} {H H' : Hp} (s : Same H H') : Keeps K C H H' :=
  ⟨fun _ _ _ _ h => s _ _ h, fun tp us h => by
    rcases h with (h | ⟨o, h⟩) | h
    · exact .inl (.inl (s _ _ h))
    · exact .inl (.inr ⟨o, s _ _ h⟩)
    · exact .inr h⟩
theorem Keeps.trans {K : PySem.W.Frag} {C : Addr} {H H1 H2 : Hp} (a : Keeps K C H H1) (b : Keeps K C H1 H2) : Keeps K C H H2 := ⟨fun p dx d tp h => b.ins p dx d tp (a.ins p dx d tp h), fun tp us h => b.tup tp us (a.tup tp us h)⟩
mutual
theorem NodeAt.keep {K : PySem.W.Frag} {C : Addr} {H H' : Hp} (s : Keeps K C H H') : ∀ {t : Tr}, NodeAt K C H t → NodeAt K C H' t
  | .mk _ _ _, ⟨⟨dx, tp, h1, h2⟩, h3⟩ => ⟨⟨dx, tp, s.ins _ _ _ _ h1, s.tup _ _ h2⟩, NodesAt.keep s h3⟩
theorem NodesAt.keep {K : PySem.W.Frag} {C : Addr} {H H' : Hp} (s : Keeps K C H H') : ∀ {ts : List Tr}, NodesAt K C H ts → NodesAt K C H' ts
  | [], _ => True.intro
  | _ :: _, ⟨h1, h2⟩ => ⟨NodeAt.keep s h1, NodesAt.keep s h2⟩
end
theorem NodesAt.mem {K : PySem.W.Frag} {C : Addr} {H : Hp} : ∀ {ts : List Tr} {t : Tr}, NodesAt K C H ts → t ∈ ts → NodeAt K C H t
  | _ :: _, _, ⟨h1, h2⟩, hm => by
    rcases List.mem_cons.mp hm with rfl | hm
    · exact h1
    · exact NodesAt.mem h2 hm
theorem NodesAt.of {K : PySem.W.Frag} {C : Addr} {H : Hp} : ∀ {ts : List Tr}, (∀ t ∈ ts, NodeAt K C H t) → NodesAt K C H ts
  | [], _ => True.intro
  | _ :: _, h => ⟨h _ List.mem_cons_self, NodesAt.of fun t ht => h t (List.mem_cons_of_mem _ ht)⟩
theorem NodeAt.it {K : PySem.W.Frag} {C : Addr} {H : Hp} : ∀ {t : Tr}, NodeAt K C H t → ∃ dx tp, H t.at = some (.ins C dx (nfl t.d tp)) ∧ SqT K H tp (t.ks.map fun t => V.ref t.at)
  | .mk _ _ _, h => h.1
theorem NodeAt.kids {K : PySem.W.Frag} {C : Addr} {H : Hp} : ∀ {t : Tr}, NodeAt K C H t → NodesAt K C H t.ks
  | .mk _ _ _, h => h.2
/-! ### Node(..) -/
def spNInit (K : PySem.W.Frag) (C : Addr) : Sp := fun vs H Q _ => ∃ (p dx tn : Addr) (d : Nd) (us : List V), H p = some (.ins C dx []) ∧ vs = [.ref p, .str d.kind, .str d.sym, .int d.st, .int d.lead, .int d.wid, .int d.look, .int d.alt, .ref tn, .int d.pop] ∧
  ((SqT K H tn us ∧ Q .non (upd H p (.ins C dx (nfl d tn)))) ∨ (SqL K H tn us ∧ ∀ tp, tp ≠ p → H tp = none → Q .non (upd (upd H tp (.tup us)) p (.ins C dx (nfl d tp)))))
theorem upd_swap {H : Hp} {a b : Addr} {x y : HO} (h : a ≠ b) : upd (upd H a x) b y = upd (upd H b y) a x := by
  funext c
  unfold upd
  by_cases c1 : c = a
  · by_cases c2 : c = b
    · exact absurd (c1.symm.trans c2) h
    · rw [if_neg c2, if_pos c1, if_pos c1]
  · rw [if_neg c1]
    by_cases c2 : c = b
    · rw [if_pos c2, if_neg c1]
    · rw [if_neg c2, if_neg c1]
theorem sqT_updI {K : PySem.W.Frag} {H : Hp} {t p C dx : Addr} {us : List V} {fs : List (Str × V)} {o : HO} (h : SqT K H t us) (hp : H p = some (.ins C dx fs)) : SqT K (upd H p o) t us := by
  rcases h with (h | ⟨x, h⟩) | h
  · exact .inl (.inl (by rw [upd_ne (fun e => by rw [e, hp] at h; cases h)]; exact h))
  · exact .inl (.inr ⟨x, by rw [upd_ne (fun e => by rw [e, hp] at h; cases h)]; exact h⟩)
  · exact .inr h
theorem sqL_updI {K : PySem.W.Frag} {H : Hp} {t p C dx : Addr} {us : List V} {fs : List (Str × V)} {o : HO} (h : SqL K H t us) (hp : H p = some (.ins C dx fs)) : SqL K (upd H p o) t us := by
  rcases h with (h | ⟨x, h⟩) | h
  · exact .inl (.inl (by rw [upd_ne (fun e => by rw [e, hp] at h; cases h)]; exact h))
  · exact .inl (.inr ⟨x, by rw [upd_ne (fun e => by rw [e, hp] at h; cases h)]; exact h⟩)
  · exact .inr h
theorem ok_Node_init (T : Txt K mg) : FnOk P w K mg base CX0 1 T.a_Node_init T.fd_Node_init psN (spNInit K T.C_Node) := by
  refine T.F_Node_init.ok sc_Node_init (fun vs H Q E h => ?_) (fun cdv A outer s H vs Q E hr h => ?_)
  · obtain ⟨p, dx, tn, d, us, _, rfl, _⟩ := h
    rfl
  · obtain ⟨p, dx, tn, d, us, hp, rfl, h⟩ := h
    refine ⟨_, (pss_cons (ps_fld (pv 0) (pv 1) rfl)
      (pss_cons (ps_fld (pv 0) (pv 2) rfl)
      (pss_cons (ps_fld (pv 0) (pv 3) rfl)
      (pss_cons (ps_fld (pv 0) (pv 4) rfl)
      (pss_cons (ps_fld (pv 0) (pv 5) rfl)
      (pss_cons (ps_fld (pv 0) (pv 6) rfl)
      (pss_cons (ps_fld (pv 0) (pv 7) rfl)
      (pss_cons (ps_fld (pv 0) (pe_callTy call_tuple_of (by rfl) T.m_tuple (by decide +kernel) (pa_cons (pv 8) pa_nil)) rfl)
      (pss_one (ps_fld (pv 0) (pv 9) rfl)))))))))), ?_⟩
    have ln0 : ([] : List (Str × V)).length = 0 := rfl
    have l1 := putF_le "kind" (.str d.kind) []
    have l2 := putF_le "symbol" (.str d.sym) (putF "kind" (.str d.kind) [])
    have l3 := putF_le "state" (.int d.st) (putF "symbol" (.str d.sym) (putF "kind" (.str d.kind) []))
    have l4 := putF_le "lead" (.int d.lead) (putF "state" (.int d.st) (putF "symbol" (.str d.sym) (putF "kind" (.str d.kind) [])))
    have l5 := putF_le "width" (.int d.wid) (putF "lead" (.int d.lead) (putF "state" (.int d.st) (putF "symbol" (.str d.sym) (putF "kind" (.str d.kind) []))))
    have l6 := putF_le "look" (.int d.look) (putF "width" (.int d.wid) (putF "lead" (.int d.lead) (putF "state" (.int d.st) (putF "symbol" (.str d.sym) (putF "kind" (.str d.kind) [])))))
    have l7 := putF_le "alternative" (.int d.alt) (putF "look" (.int d.look) (putF "width" (.int d.wid) (putF "lead" (.int d.lead) (putF "state" (.int d.st) (putF "symbol" (.str d.sym) (putF "kind" (.str d.kind) []))))))
    refine ⟨_, rfl, _, rfl, p, _, dx, _, rfl, hp, T.CL_Node, T.NA_Node_kind, by omega, ?_⟩
    refine ⟨_, rfl, _, rfl, p, _, dx, _, rfl, upd_same, T.CL_Node, T.NA_Node_symbol, by omega, ?_⟩
    refine ⟨_, rfl, _, rfl, p, _, dx, _, rfl, upd_same, T.CL_Node, T.NA_Node_state, by omega, ?_⟩
    refine ⟨_, rfl, _, rfl, p, _, dx, _, rfl, upd_same, T.CL_Node, T.NA_Node_lead, by omega, ?_⟩
    refine ⟨_, rfl, _, rfl, p, _, dx, _, rfl, upd_same, T.CL_Node, T.NA_Node_width, by omega, ?_⟩
    refine ⟨_, rfl, _, rfl, p, _, dx, _, rfl, upd_same, T.CL_Node, T.NA_Node_look, by omega, ?_⟩
    refine ⟨_, rfl, _, rfl, p, _, dx, _, rfl, upd_same, T.CL_Node, T.NA_Node_alternative, by omega, ?_⟩
    rw [upd_upd, upd_upd, upd_upd, upd_upd, upd_upd, upd_upd]
    have l8 := fun tp : Addr => putF_le "nodes" (.ref tp) (putF "alternative" (.int d.alt) (putF "look" (.int d.look) (putF "width" (.int d.wid) (putF "lead" (.int d.lead) (putF "state" (.int d.st) (putF "symbol" (.str d.sym) (putF "kind" (.str d.kind) [])))))))
    rcases h with ⟨ht, q⟩ | ⟨ht, q⟩
    · refine ⟨_, rfl, tn, us, rfl, .inr ⟨sqT_updI ht hp, ?_⟩⟩
      refine ⟨_, rfl, p, _, dx, _, rfl, upd_same, T.CL_Node, T.NA_Node_nodes, by omega, ?_⟩
      have := l8 tn
      refine ⟨_, rfl, _, rfl, p, _, dx, _, rfl, upd_same, T.CL_Node, T.NA_Node_popped, by omega, ?_⟩
      rw [upd_upd, upd_upd]
      exact q
    · refine ⟨_, rfl, tn, us, rfl, .inl ⟨sqL_updI ht hp, fun tp ntp => ?_⟩⟩
      have hne : tp ≠ p := fun e => by rw [e, upd_same] at ntp; cases ntp
      refine ⟨_, rfl, p, _, dx, _, rfl, by rw [upd_ne hne.symm]; exact upd_same, T.CL_Node, T.NA_Node_nodes, by omega, ?_⟩
      have := l8 tp
      refine ⟨_, rfl, _, rfl, p, _, dx, _, rfl, upd_same, T.CL_Node, T.NA_Node_popped, by omega, ?_⟩
      rw [upd_upd, upd_swap hne.symm, upd_upd]
      exact q tp hne (by rw [upd_ne hne] at ntp; exact ntp)

/-! ### written kinds -/
theorem takeN {α : Type} {xs : List α} {k : Nat} {x : α} (h : xs[k]? = some x) : xs.take (k + 1) = xs.take k ++ [x] := by
  rw [List.take_add_one, h, Option.toList_some]
theorem sg_dec (c n : Nat) (x : Str) (hx : x = sg n) : decide (V.str ⟨#[c]⟩ = V.str x) = decide (c = n) := by
  subst hx
  refine decide_eq_decide.mpr ⟨fun e => ?_, fun e => by rw [e]⟩
  have h1 : (⟨#[c]⟩ : Str) = ⟨#[n]⟩ := by injection e
  have h2 : #[c] = #[n] := by injection h1
  have h3 : [c] = [n] := congrArg Array.toList h2
  exact (List.cons.inj h3).1
def escC (c : Nat) : List Nat := if c = 10 then [92, 110] else if c = 9 then [92, 116] else if c = 34 then [92, 34] else if c = 92 then [92, 92] else [c]
def quoteL (l : List Nat) : List Nat := 34 :: ((l.map escC).flatten ++ [34])
theorem esc_len (c : Nat) : (escC c).length ≤ 2 := by
  unfold escC
  split
  · decide
  · split
    · decide
    · split
      · decide
      · split
        · decide
        · exact Nat.le_succ 1
theorem escs_len : ∀ l : List Nat, ((l.map escC).flatten).length ≤ 2 * l.length
  | [] => Nat.le_refl _
  | c :: l => by
    have h1 := esc_len c
    have h2 := escs_len l
    show (escC c ++ (l.map escC).flatten).length ≤ 2 * (l.length + 1)
    rw [List.length_append]
    omega
def spQuoted : Sp := fun vs H Q _ => ∃ z : Str, vs = [.str z] ∧ (cs z).length ≤ 1000 ∧ ∀ x : Str, cs x = quoteL (cs z) → Q (.str x) H
theorem ok_quoted (T : Txt K mg) : FnOk P w K mg base CX0 1 T.a_law_quoted T.fd_law_quoted ["chars"] spQuoted := by
  refine T.F_law_quoted.ok sc_law_quoted (fun vs H Q E h => ?_) (fun cdv A outer s H vs Q E hr h => ?_)
  · obtain ⟨z, rfl, _⟩ := h
    rfl
  · obtain ⟨z, rfl, lz, q⟩ := h
    refine ⟨_, (pss_cons (ps_set (i := 1) sc_law_quoted.nd rfl (.inl rfl) pe_str)
      (pss_cons (ps_for PassesOwn.never rfl (pi_str (pv 0)) (pg_name (i := 2) sc_law_quoted.nd rfl (.inl rfl)) (pss_one (ps_if (pt_cmpR op_eq (pv 2) pe_str (nomark _)) (pss_one (ps_set (i := 1) sc_law_quoted.nd rfl (.inl rfl) (pe_op op_add_str (pv 1) pe_str))) (pss_one (ps_if (pt_cmpR op_eq (pv 2) pe_str (nomark _)) (pss_one (ps_set (i := 1) sc_law_quoted.nd rfl (.inl rfl) (pe_op op_add_str (pv 1) pe_str))) (pss_one (ps_if (PW.pt (pw_or (pt_cmpR op_eq (pv 2) pe_str (nomark _)) (pw_or1 (pt_cmpR op_eq (pv 2) pe_str (nomark _))))) (pss_one (ps_set (i := 1) sc_law_quoted.nd rfl (.inl rfl) (pe_op op_add_str (pe_op op_add_str (pv 1) pe_str) (pv 2)))) (pss_one (ps_set (i := 1) sc_law_quoted.nd rfl (.inl rfl) (pe_op op_add_str (pv 1) (pv 2)))))))))))
      (pss_one (ps_ret (pe_op op_add_str (pv 1) pe_str))))), ?_⟩
    refine ⟨_, rfl, z, rfl, ?_⟩
    refine for_strS (fun i σ H' => H' = H ∧ ∃ (x : Str) (y2 : Option V), σ = [some (.str z), some (.str x), y2] ∧ cs x = 34 :: (((cs z).take i).map escC).flatten) ⟨rfl, "\"", none, rfl, by rw [List.take_zero]; show cs _ = [34]; decide +kernel⟩ ?_ ?_
    · rintro i c σ H' hc ⟨rfl, x, y2, rfl, hx⟩
      have hc' : (cs z)[i]? = some c := by rw [← hc]; exact Array.getElem?_toList
      have lx : x.length ≤ 3000 := by
        rw [len_cs, hx, List.length_cons]
        have := escs_len ((cs z).take i)
        have : ((cs z).take i).length ≤ (cs z).length := by rw [List.length_take]; exact Nat.min_le_right _ _
        omega
      have fin : ∀ e : Str, cs e = escC c → cs (x ++ e) = 34 :: (((cs z).take (i + 1)).map escC).flatten := fun e he => by
        rw [cs_app, hx, he, takeN hc', List.map_append, List.flatten_append]
        show _ = 34 :: (_ ++ (escC c ++ []))
        rw [List.append_nil]
        rfl
      have c10 := sg_dec c 10 "\n" (by decide +kernel)
      have c9 := sg_dec c 9 "\t" (by decide +kernel)
      have c34 := sg_dec c 34 "\"" (by decide +kernel)
      have c92 := sg_dec c 92 "\\" (by decide +kernel)
      have hs : ∀ e : Str, e.length ≤ 2 → x.length + e.length ≤ sizeLine := fun e he => Nat.le_trans (Nat.add_le_add lx he) (by decide)
      refine ⟨_, rfl, rfl, _, rfl, ite2 (fun h1 => ?_) (fun h1 => ?_)⟩
      · rw [c10] at h1
        have h1 := of_decide_eq_true h1
        exact ⟨_, rfl, _, _, rfl, rfl, hs _ (by decide +kernel), rfl, _, _, rfl, fin _ (by unfold escC; rw [if_pos h1]; decide +kernel)⟩
      rw [c10] at h1
      have h1 : ¬ c = 10 := fun e => h1 (decide_eq_true e)
      refine ⟨_, rfl, rfl, _, rfl, ite2 (fun h2 => ?_) (fun h2 => ?_)⟩
      · rw [c9] at h2
        have h2 := of_decide_eq_true h2
        exact ⟨_, rfl, _, _, rfl, rfl, hs _ (by decide +kernel), rfl, _, _, rfl, fin _ (by unfold escC; rw [if_neg h1, if_pos h2]; decide +kernel)⟩
      rw [c9] at h2
      have h2 : ¬ c = 9 := fun e => h2 (decide_eq_true e)
      have l1 : (cs "\\").length = 1 := by decide +kernel
      have lb : (x ++ "\\").length ≤ 3002 := by
        rw [len_cs, cs_app, List.length_append, ← len_cs]
        omega
      have two : escC c = cs "\\" ++ [c] → cs ((x ++ "\\") ++ ⟨#[c]⟩) = 34 :: (((cs z).take (i + 1)).map escC).flatten := fun e => by
        have f := fin ⟨(escC c).toArray⟩ rfl
        rw [cs_app, cs_mk, e] at f
        rw [cs_app, cs_app, List.append_assoc]
        exact f
      have sz2' : (x ++ "\\").length + (⟨#[c]⟩ : Str).length ≤ sizeLine := Nat.le_trans (Nat.add_le_add lb (show (⟨#[c]⟩ : Str).length ≤ 2 from Nat.le_succ 1)) (by decide)
      refine ⟨_, rfl, rfl, _, rfl, ite2 (fun h3 => ?_) (fun h3 => ?_)⟩
      · rw [c34] at h3
        have h3 := of_decide_eq_true h3
        exact ⟨_, rfl, _, _, rfl, rfl, hs _ (by decide +kernel), _, rfl, _, _, rfl, rfl, sz2', rfl, _, _, rfl, two (by unfold escC; rw [if_neg h1, if_neg h2, if_pos h3, h3]; decide +kernel)⟩
      rw [c34] at h3
      have h3 : ¬ c = 34 := fun e => h3 (decide_eq_true e)
      refine ⟨_, rfl, rfl, _, rfl, ite2 (fun h4 => ?_) (fun h4 => ?_)⟩
      · rw [c92] at h4
        have h4 := of_decide_eq_true h4
        exact ⟨_, rfl, _, _, rfl, rfl, hs _ (by decide +kernel), _, rfl, _, _, rfl, rfl, sz2', rfl, _, _, rfl, two (by unfold escC; rw [if_neg h1, if_neg h2, if_neg h3, if_pos h4, h4]; decide +kernel)⟩
      rw [c92] at h4
      have h4 : ¬ c = 92 := fun e => h4 (decide_eq_true e)
      exact ⟨_, rfl, _, rfl, _, _, rfl, rfl, hs _ (Nat.le_succ 1), rfl, _, _, rfl, fin _ (by unfold escC; rw [if_neg h1, if_neg h2, if_neg h3, if_neg h4])⟩
    · rintro σ H' ⟨rfl, x, y2, rfl, hx⟩
      have ez : (cs z).take z.cps.size = cs z := by
        rw [List.take_of_length_le]
        exact Nat.le_of_eq (len_cs z).symm
      rw [ez] at hx
      have lx : x.length ≤ 3000 := by
        rw [len_cs, hx, List.length_cons]
        have := escs_len (cs z)
        omega
      refine ⟨_, rfl, _, _, rfl, rfl, Nat.le_trans (Nat.add_le_add lx (show _ ≤ 2 by decide +kernel)) (by decide), q _ ?_⟩
      rw [cs_app, hx]
      unfold quoteL
      rw [List.cons_append]
      congr 2

def plainS : Str := "\t\n !\"#$&'()*+,-./0123456789:;<=>?@ABCDEFGHIJKLMNOPQRSTUVWXYZ[\\]^_abcdefghijklmnopqrstuvwxyz{|}~"
def lettS : Str := "abcdefghijklmnopqrstuvwxyz"
def nameS : Str := "abcdefghijklmnopqrstuvwxyz0123456789_~"
/-- a kind or a symbol as it is written -/
def Srt (l : List Nat) : Prop := (∃ c r, l = c :: r ∧ c ∈ cs lettS ∧ ∀ x ∈ r, x ∈ cs nameS) ∨ ∃ b, b ≠ [] ∧ (∀ c ∈ b, c ∈ cs plainS) ∧ l = quoteL b
def spSort : Sp := fun vs H Q _ => ∃ r : Addr, vs = [.ref r] ∧ ReelAt H r ∧ ∀ (x : Str) H', Srt (cs x) → (cs x).length ≤ 20 → But r H H' → ReelAt H' r → Q (.str x) H'
theorem ok_literal (T : Txt K mg) : FnOk P w K mg base CX0 3 T.a_law_literal T.fd_law_literal ["reel"] spSort := by
  have G_law_draw : FnOk P w K mg base CX0 1 T.a_law_draw T.fd_law_draw ["reel", "size"] spDraw := ok_draw T
  have G_law_pick : FnOk P w K mg base CX0 2 T.a_law_pick T.fd_law_pick ["reel", "row"] (spPick K) := ok_pick T
  have G_law_quoted : FnOk P w K mg base CX0 1 T.a_law_quoted T.fd_law_quoted ["chars"] spQuoted := ok_quoted T
  refine T.F_law_literal.ok sc_law_literal (fun vs H Q E h => ?_) (fun cdv A outer s H vs Q E hr h => ?_)
  · obtain ⟨r, rfl, _⟩ := h
    rfl
  · have hr_law_draw : Room 1 _ := hr.mono (by decide)
    have hr_law_pick : Room 2 _ := hr
    have hr_law_quoted : Room 1 _ := hr.mono (by decide)
    obtain ⟨r, rfl, hR, q⟩ := h
    refine ⟨_, (pss_cons (ps_set (i := 1) sc_law_literal.nd rfl (.inl rfl) pe_str)
      (pss_cons (ps_set (i := 1) sc_law_literal.nd rfl (.inl rfl) (pe_op op_add_str (pv 1) pe_str))
      (pss_cons (ps_set (i := 2) sc_law_literal.nd rfl (.inl rfl) pe_str)
      (pss_cons (ps_for PassesOwn.never rfl (pi_range1 (by rfl) T.m_range (pa_cons (pe_op op_add pe_int (pe_call G_law_draw hr_law_draw (by rfl) T.g_law_draw T.F_law_draw.kp T.b_law_draw .nil pass0 (pa_cons (pv 0) (pa_cons pe_int pa_nil)))) pa_nil)) (pg_name (i := 3) sc_law_literal.nd rfl (.inl rfl)) (pss_one (ps_if (pt_cmpR op_eq (pe_call G_law_draw hr_law_draw (by rfl) T.g_law_draw T.F_law_draw.kp T.b_law_draw .nil pass0 (pa_cons (pv 0) (pa_cons pe_int pa_nil))) pe_int (nomark _)) (pss_one (ps_set (i := 2) sc_law_literal.nd rfl (.inl rfl) (pe_op op_add_str (pv 2) (pe_call G_law_pick hr_law_pick (by rfl) T.g_law_pick T.F_law_pick.kp T.b_law_pick .nil pass0 (pa_cons (pv 0) (pa_cons pe_str pa_nil)))))) (pss_one (ps_set (i := 2) sc_law_literal.nd rfl (.inl rfl) (pe_op op_add_str (pv 2) (pe_call G_law_pick hr_law_pick (by rfl) T.g_law_pick T.F_law_pick.kp T.b_law_pick .nil pass0 (pa_cons (pv 0) (pa_cons (pv 1) pa_nil)))))))))
      (pss_one (ps_ret (pe_call G_law_quoted hr_law_quoted (by rfl) T.g_law_quoted T.F_law_quoted.kp T.b_law_quoted .nil pass0 (pa_cons (pv 2) pa_nil)))))))), ?_⟩
    refine ⟨_, rfl, _, _, rfl, rfl, by decide +kernel, ?_⟩
    have ep : (Str.ofString "\t\n !\"#$&'()*+,-./0123456789:;<=>?@ABCDEFGHIJKLMNOPQRSTUVWXYZ[\\]^_" : Str) ++ (Str.ofString "abcdefghijklmnopqrstuvwxyz{|}~" : Str) = plainS := by decide +kernel
    rw [ep]
    have ps : ∀ c ∈ cs (" ()\"\\\n\t-" : Str), c ∈ cs plainS := by decide +kernel
    refine ⟨_, rfl, r, 6, rfl, hR, by decide, fun v H1 v0 v1 b1 R1 => ⟨_, _, rfl, rfl, ?_⟩⟩
    refine ⟨_, rfl, by omega, by omega, ?_⟩
    refine for_range (lo := 0) (n := (1 + v).toNat) (fun i σ H' => But r H H' ∧ ReelAt H' r ∧ ∃ (x : Str) (y3 : Option V), σ = [some (.ref r), some (.str plainS), some (.str x), y3] ∧ (cs x).length = i ∧ ∀ c ∈ cs x, c ∈ cs plainS)
      ⟨b1, R1, "", none, rfl, by decide +kernel, fun c hc => absurd hc (by rw [show cs ("" : Str) = [] by decide +kernel]; exact List.not_mem_nil)⟩ ?_ ?_
    · rintro i σ H2 hi ⟨b2, R2, x, y3, rfl, lx, px⟩
      have more : ∀ (c : Nat), c ∈ cs plainS → (cs (x ++ sg c)).length = i + 1 ∧ ∀ d ∈ cs (x ++ sg c), d ∈ cs plainS := fun c hc => by
        rw [cs_app]
        refine ⟨by rw [List.length_append, lx]; rfl, fun d hd => ?_⟩
        rcases List.mem_append.mp hd with h | h
        · exact px d h
        · have h : d ∈ [c] := h
          rw [List.mem_singleton.mp h]
          exact hc
      have hs : ∀ c : Nat, x.length + (sg c).length ≤ sizeLine := fun c => Nat.le_trans (Nat.add_le_add (show x.length ≤ 10 by rw [len_cs]; omega) (show (sg c).length ≤ 2 from Nat.le_succ 1)) (by decide)
      refine ⟨_, rfl, r, 2, rfl, R2, by decide, fun w H3 w0 w1 b3 R3 => ⟨rfl, _, rfl, ite2 (fun _ => ?_) (fun _ => ?_)⟩⟩
      · refine ⟨_, rfl, _, rfl, r, _, rfl, R3, .inl ⟨_, rfl, by decide +kernel, by decide +kernel, fun c H4 hc b4 R4 => ⟨_, _, rfl, rfl, hs c, ?_⟩⟩⟩
        exact ⟨(b2.trans b3).trans b4, R4, _, _, rfl, more c (ps c hc)⟩
      · refine ⟨_, rfl, _, rfl, _, rfl, r, _, rfl, R3, .inl ⟨_, rfl, by decide +kernel, by decide +kernel, fun c H4 hc b4 R4 => ⟨_, _, rfl, rfl, hs c, ?_⟩⟩⟩
        exact ⟨(b2.trans b3).trans b4, R4, _, _, rfl, more c hc⟩
    · rintro σ H2 ⟨b2, R2, x, y3, rfl, lx, px⟩
      refine ⟨_, rfl, x, rfl, by omega, fun y ey => q y H2 (.inr ⟨cs x, ?_, px, ey⟩) ?_ b2 R2⟩
      · intro e
        rw [e] at lx
        have : 0 = (1 + v).toNat := lx
        omega
      · rw [ey]
        unfold quoteL
        have := escs_len (cs x)
        rw [List.length_cons, List.length_append, List.length_singleton]
        omega
theorem ok_name (T : Txt K mg) : FnOk P w K mg base CX0 4 T.a_law_name T.fd_law_name ["reel"] spSort := by
  have G_law_draw : FnOk P w K mg base CX0 1 T.a_law_draw T.fd_law_draw ["reel", "size"] spDraw := ok_draw T
  have G_law_pick : FnOk P w K mg base CX0 2 T.a_law_pick T.fd_law_pick ["reel", "row"] (spPick K) := ok_pick T
  have G_law_word : FnOk P w K mg base CX0 3 T.a_law_word T.fd_law_word ["reel", "letters", "least", "most"] spWord := ok_word T
  refine T.F_law_name.ok sc_law_name (fun vs H Q E h => ?_) (fun cdv A outer s H vs Q E hr h => ?_)
  · obtain ⟨r, rfl, _⟩ := h
    rfl
  · have hr_law_draw : Room 1 _ := hr.mono (by decide)
    have hr_law_pick : Room 2 _ := hr.mono (by decide)
    have hr_law_word : Room 3 _ := hr
    obtain ⟨r, rfl, hR, q⟩ := h
    refine ⟨_, (pss_cons (ps_if (pt_cmpR op_eq (pe_call G_law_draw hr_law_draw (by rfl) T.g_law_draw T.F_law_draw.kp T.b_law_draw .nil pass0 (pa_cons (pv 0) (pa_cons pe_int pa_nil))) pe_int (nomark _)) (pss_one (ps_ret (pe_call G_law_pick hr_law_pick (by rfl) T.g_law_pick T.F_law_pick.kp T.b_law_pick .nil pass0 (pa_cons (pv 0) (pa_cons (pe_lst (pa_cons pe_str (pa_cons pe_str (pa_cons pe_str (pa_cons pe_str pa_nil))))) pa_nil))))) pss_nil)
      (pss_cons (ps_set (i := 1) sc_law_name.nd rfl (.inl rfl) pe_str)
      (pss_one (ps_ret (pe_op op_add_str (pe_call G_law_pick hr_law_pick (by rfl) T.g_law_pick T.F_law_pick.kp T.b_law_pick .nil pass0 (pa_cons (pv 0) (pa_cons (pv 1) pa_nil))) (pe_call G_law_word hr_law_word (by rfl) T.g_law_word T.F_law_word.kp T.b_law_word .nil pass0 (pa_cons (pv 0) (pa_cons (pe_op op_add_str (pv 1) pe_str) (pa_cons pe_int (pa_cons pe_int pa_nil)))))))))), ?_⟩
    have nm : ∀ x : Str, (∃ c r, cs x = c :: r ∧ c ∈ cs lettS ∧ ∀ d ∈ r, d ∈ cs nameS) → Srt (cs x) := fun x h => .inl h
    refine ⟨_, rfl, r, 4, rfl, hR, by decide, fun v H1 v0 v1 b1 R1 => ⟨rfl, _, rfl, ite2 (fun _ => ?_) (fun _ => ?_)⟩⟩
    · refine ⟨_, rfl, by show 4 ≤ sizeLine; decide, fun p np => ?_⟩
      refine ⟨r, _, rfl, R1.new np, .inr ⟨p, _, rfl, (R1.ne np).symm, SqL.of upd_same, by show 0 < 4; decide, fun x H2 hx b2 R2 => ?_⟩⟩
      have all : ∀ y ∈ ([V.str "end", V.str "error", V.str "stray", V.str "root"] : List V), ∃ x : Str, y = .str x ∧ Srt (cs x) ∧ (cs x).length ≤ 20 := by
        intro y hy
        have s1 : ∀ x : Str, (∃ c r, cs x = c :: r ∧ c ∈ cs lettS ∧ (∀ d ∈ r, d ∈ cs nameS) ∧ r.length ≤ 19) → ∃ z : Str, V.str x = .str z ∧ Srt (cs z) ∧ (cs z).length ≤ 20 := fun x ⟨c, r, e, h1, h2, h3⟩ => ⟨x, rfl, nm x ⟨c, r, e, h1, h2⟩, by rw [e, List.length_cons]; omega⟩
        rcases List.mem_cons.mp hy with rfl | hy
        · exact s1 _ ⟨101, [110, 100], by decide +kernel, by decide +kernel, by decide +kernel, by decide⟩
        rcases List.mem_cons.mp hy with rfl | hy
        · exact s1 _ ⟨101, [114, 114, 111, 114], by decide +kernel, by decide +kernel, by decide +kernel, by decide⟩
        rcases List.mem_cons.mp hy with rfl | hy
        · exact s1 _ ⟨115, [116, 114, 97, 121], by decide +kernel, by decide +kernel, by decide +kernel, by decide⟩
        rw [List.mem_singleton.mp hy]
        exact s1 _ ⟨114, [111, 111, 116], by decide +kernel, by decide +kernel, by decide +kernel, by decide⟩
      obtain ⟨x, rfl, h1, h2⟩ := all _ hx
      exact q x H2 h1 h2 (b1.trans ((But.new np).trans b2)) R2
    · refine ⟨_, rfl, _, rfl, r, _, rfl, R1, .inl ⟨_, rfl, by decide +kernel, by decide +kernel, fun c H2 hc b2 R2 => ?_⟩⟩
      refine ⟨_, rfl, _, rfl, _, _, rfl, rfl, by decide +kernel, r, _, 0, 8, rfl, R2, by decide +kernel, by decide +kernel, by decide, by decide, by decide, fun x H3 l1 l2 hx b3 R3 => ?_⟩
      have en : (Str.ofString "abcdefghijklmnopqrstuvwxyz" : Str) ++ (Str.ofString "0123456789_~" : Str) = nameS := by decide +kernel
      rw [en] at hx
      have ec : cs (sg c ++ x) = c :: cs x := by
        rw [cs_app]
        rfl
      refine ⟨_, _, rfl, rfl, Nat.le_trans (Nat.add_le_add (show (sg c).length ≤ 2 from Nat.le_succ 1) (show x.length ≤ 8 by rw [len_cs]; omega)) (by decide), q _ H3 (nm _ ⟨c, cs x, ec, hc, hx⟩) ?_ ((b1.trans b2).trans b3) R3⟩
      rw [ec, List.length_cons]
      omega
theorem ok_sort (T : Txt K mg) : FnOk P w K mg base CX0 5 T.a_law_sort T.fd_law_sort ["reel"] spSort := by
  have G_law_draw : FnOk P w K mg base CX0 1 T.a_law_draw T.fd_law_draw ["reel", "size"] spDraw := ok_draw T
  have G_law_literal : FnOk P w K mg base CX0 3 T.a_law_literal T.fd_law_literal ["reel"] spSort := ok_literal T
  have G_law_name : FnOk P w K mg base CX0 4 T.a_law_name T.fd_law_name ["reel"] spSort := ok_name T
  refine T.F_law_sort.ok sc_law_sort (fun vs H Q E h => ?_) (fun cdv A outer s H vs Q E hr h => ?_)
  · obtain ⟨r, rfl, _⟩ := h
    rfl
  · have hr_law_draw : Room 1 _ := hr.mono (by decide)
    have hr_law_literal : Room 3 _ := hr.mono (by decide)
    have hr_law_name : Room 4 _ := hr
    obtain ⟨r, rfl, hR, q⟩ := h
    refine ⟨_, (pss_cons (ps_if (pt_cmpR op_eq (pe_call G_law_draw hr_law_draw (by rfl) T.g_law_draw T.F_law_draw.kp T.b_law_draw .nil pass0 (pa_cons (pv 0) (pa_cons pe_int pa_nil))) pe_int (nomark _)) (pss_one (ps_ret (pe_call G_law_literal hr_law_literal (by rfl) T.g_law_literal T.F_law_literal.kp T.b_law_literal .nil pass0 (pa_cons (pv 0) pa_nil)))) pss_nil)
      (pss_one (ps_ret (pe_call G_law_name hr_law_name (by rfl) T.g_law_name T.F_law_name.kp T.b_law_name .nil pass0 (pa_cons (pv 0) pa_nil))))), ?_⟩
    refine ⟨_, rfl, r, 2, rfl, hR, by decide, fun v H1 v0 v1 b1 R1 => ⟨rfl, _, rfl, ite2 (fun _ => ?_) (fun _ => ?_)⟩⟩
    · exact ⟨_, rfl, r, rfl, R1, fun x H2 h1 h2 b2 R2 => q x H2 h1 h2 (b1.trans b2) R2⟩
    · exact ⟨_, rfl, r, rfl, R1, fun x H2 h1 h2 b2 R2 => q x H2 h1 h2 (b1.trans b2) R2⟩

/-! ### levels -/
def intsIn (lo hi : Int) : List V → Bool
  | [] => true
  | .int i :: r => decide (lo ≤ i) && decide (i ≤ hi) && intsIn lo hi r
  | _ :: _ => false
theorem intsIn_mem {lo hi : Int} : ∀ {vs : List V}, intsIn lo hi vs = true → ∀ v ∈ vs, ∃ i, v = V.int i ∧ lo ≤ i ∧ i ≤ hi
  | [], _, v, m => absurd m List.not_mem_nil
  | .int i :: r, h, v, m => by
    unfold intsIn at h
    simp only [Bool.and_eq_true, decide_eq_true_eq] at h
    rcases List.mem_cons.mp m with rfl | m
    · exact ⟨i, rfl, h.1.1, h.1.2⟩
    · exact intsIn_mem h.2 v m
  | .non :: _, h, _, _ => by cases h
  | .bl _ :: _, h, _, _ => by cases h
  | .str _ :: _, h, _, _ => by cases h
  | .byt _ :: _, h, _, _ => by cases h
  | .flt _ :: _, h, _, _ => by cases h
  | .ref _ :: _, h, _, _ => by cases h
  | .ty _ :: _, h, _, _ => by cases h
def Lev (L : List Int) : Prop := ∃ ls, L = 0 :: ls ∧ (∀ x ∈ ls, 1 ≤ x) ∧ Lad L
theorem Lad.snoc {a x : Int} : ∀ {L : List Int}, Lad (L ++ [a]) → x ≤ a + 1 → Lad (L ++ [a] ++ [x])
  | [], _, h => ⟨h, True.intro⟩
  | [b], h1, h => ⟨h1.1, h, True.intro⟩
  | b :: c :: L, h1, h => ⟨h1.1, Lad.snoc (L := c :: L) h1.2 h⟩
/-- levels, the last of them -/
def LevE (L : List Int) (a : Int) : Prop := Lev L ∧ ∃ L', L = L' ++ [a]
theorem LevE.more {L : List Int} {a x : Int} (h : LevE L a) (h1 : 1 ≤ x) (h2 : x ≤ a + 1) : LevE (L ++ [x]) x := by
  obtain ⟨⟨ls, e, hs, hl⟩, L', e2⟩ := h
  refine ⟨⟨ls ++ [x], by rw [e]; rfl, fun y hy => ?_, ?_⟩, L, rfl⟩
  · rcases List.mem_append.mp hy with h | h
    · exact hs y h
    · rw [List.mem_singleton.mp h]
      exact h1
  · rw [e2] at hl ⊢
    exact hl.snoc h2
theorem LevE.zero : LevE [0] 0 := ⟨⟨[], rfl, fun x hx => absurd hx List.not_mem_nil, True.intro⟩, [], rfl⟩
theorem LevE.ge {L : List Int} {a : Int} (h : LevE L a) : 0 ≤ a := by
  obtain ⟨⟨ls, e, hs, _⟩, L', e2⟩ := h
  have hm : a ∈ L := by rw [e2]; exact List.mem_append_right _ List.mem_cons_self
  rw [e] at hm
  rcases List.mem_cons.mp hm with rfl | hm
  · exact Int.le_refl _
  · have := hs _ hm
    omega
def LevsAt (H : Hp) (l : Addr) (L : List Int) : Prop := H l = some (.lst (L.map V.int))
def spLevs (n : Nat) : Sp := fun vs H Q _ => ∃ r : Addr, vs = [.ref r] ∧ ReelAt H r ∧ ∀ l L H', LevsAt H' l L → Lev L → L.length ≤ n → H l = none → But r H H' → ReelAt H' r → Q (.ref l) H'
def spComb : Sp := fun vs H Q _ => ∃ (r : Addr) (n : Nat), vs = [.ref r, .int (n : Int)] ∧ ReelAt H r ∧ n ≤ 2000 ∧ ∀ l L H', LevsAt H' l L → Lev L → L.length ≤ 2 * n + 1 → H l = none → But r H H' → ReelAt H' r → Q (.ref l) H'
theorem But.updN {r l : Addr} {H H' : Hp} {o : HO} (b : But r H H') (nl : H l = none) : But r H (upd H' l o) := fun c u n e => by
  rw [upd_ne (ne_of_none e nl)]
  exact b c u n e
theorem ReelAt.updN {H : Hp} {r p : Addr} {o : HO} (h : ReelAt H r) (n : p ≠ r) : ReelAt (upd H p o) r := by
  obtain ⟨z, c, h1, h2⟩ := h
  exact ⟨z, c, by rw [upd_ne n.symm]; exact h1, h2⟩
theorem ok_comb (T : Txt K mg) : FnOk P w K mg base CX0 2 T.a_law_comb T.fd_law_comb ["reel", "deep"] spComb := by
  have G_law_draw : FnOk P w K mg base CX0 1 T.a_law_draw T.fd_law_draw ["reel", "size"] spDraw := ok_draw T
  refine T.F_law_comb.ok sc_law_comb (fun vs H Q E h => ?_) (fun cdv A outer s H vs Q E hr h => ?_)
  · obtain ⟨r, n, rfl, _⟩ := h
    rfl
  · have hr_law_draw : Room 1 _ := hr
    obtain ⟨r, n, rfl, hR, hn, q⟩ := h
    refine ⟨_, (pss_cons (ps_set (i := 2) sc_law_comb.nd rfl (.inl rfl) (pe_cmpR op_eq (pe_call G_law_draw hr_law_draw (by rfl) T.g_law_draw T.F_law_draw.kp T.b_law_draw .nil pass0 (pa_cons (pv 0) (pa_cons pe_int pa_nil))) pe_int (nomark _)))
      (pss_cons (ps_set (i := 3) sc_law_comb.nd rfl (.inl rfl) (pe_lst (pa_cons pe_int pa_nil)))
      (pss_cons (ps_for PassesOwn.never rfl (pi_range1 (by rfl) T.m_range (pa_cons (pv 1) pa_nil)) (pg_name (i := 4) sc_law_comb.nd rfl (.inl rfl)) (pss_cons (ps_expr (pe_bm PySem.F.plainAttrs_list PySem.F.slot_list_append PySem.F.type_list_append mt_append (pv 3) (pa_cons (pe_op op_add (pv 4) pe_int) pa_nil)))
      (pss_one (ps_if (pt_val (pv 2)) (pss_one (ps_expr (pe_bm PySem.F.plainAttrs_list PySem.F.slot_list_append PySem.F.type_list_append mt_append (pv 3) (pa_cons (pe_op op_add (pv 4) pe_int) pa_nil)))) pss_nil))))
      (pss_cons (ps_if (pt_not (pt_val (pv 2))) (pss_one (ps_for PassesOwn.never rfl (pi_range1 (by rfl) T.m_range (pa_cons (pv 1) pa_nil)) (pg_name (i := 4) sc_law_comb.nd rfl (.inl rfl)) (pss_one (ps_expr (pe_bm PySem.F.plainAttrs_list PySem.F.slot_list_append PySem.F.type_list_append mt_append (pv 3) (pa_cons (pe_op op_sub (pv 1) (pv 4)) pa_nil)))))) pss_nil)
      (pss_one (ps_ret (pv 3))))))), ?_⟩
    refine ⟨_, rfl, r, 2, rfl, hR, by decide, fun v H1 v0 v1 b1 R1 => ⟨rfl, ?_⟩⟩
    refine ⟨by show 1 ≤ sizeLine; decide, fun l nl => ?_⟩
    have hlr : l ≠ r := (R1.ne nl).symm
    have nl0 : H l = none := b1.free hlr nl
    obtain ⟨b, hb⟩ : ∃ b, b = decide (V.int v = V.int 1) := ⟨_, rfl⟩
    rw [← hb]
    have app : ∀ {H' : Hp} {L : List Int} {x : Int}, LevsAt H' l L → LevsAt (upd H' l (.lst (L.map V.int ++ [V.int x]))) l (L ++ [x]) := fun _ => by
      unfold LevsAt
      rw [upd_same, List.map_append]
      rfl
    refine ⟨_, rfl, _, rfl, by omega, by omega, ?_⟩
    refine for_range (lo := 0) (n := (n : Int).toNat) (fun i σ H' => But r H H' ∧ ReelAt H' r ∧ ∃ (L : List Int) (y4 : Option V), σ = [some (.ref r), some (.int (n : Int)), some (.bl b), some (.ref l), y4] ∧ LevsAt H' l L ∧ LevE L (i : Int) ∧ L.length ≤ (if b = true then 2 * i + 1 else i + 1))
      ⟨b1.updN nl0, R1.updN hlr, [0], none, rfl, upd_same, LevE.zero, by split <;> decide⟩ ?_ ?_
    · rintro i σ H' hi ⟨b2, R2, L, y4, rfl, hl, hL, lL⟩
      have lb : L.length ≤ 5000 := by
        split at lL <;> omega
      have ei : (0 : Int) + (i : Int) + 1 = ((i + 1 : Nat) : Int) := by omega
      have h1 : LevE (L ++ [((i + 1 : Nat) : Int)]) ((i + 1 : Nat) : Int) := hL.more (by omega) (by omega)
      refine ⟨_, rfl, .inl ⟨rfl, _, SqL.of hl⟩, _, rfl, _, _, rfl, rfl, l, _, _, rfl, rfl, hl, sz2 (by rw [List.length_map]; omega), ?_⟩
      have e1 : (fun i j : Int => V.int (i + j)) (0 + (i : Int)) 1 = V.int ((i + 1 : Nat) : Int) := congrArg V.int ei
      rw [e1]
      have l1 := app (x := ((i + 1 : Nat) : Int)) hl
      refine ⟨_, rfl, b, rfl, ?_⟩
      cases b with
      | true =>
        refine iteT ?_
        have h2 : LevE (L ++ [((i + 1 : Nat) : Int)] ++ [((i + 1 : Nat) : Int)]) ((i + 1 : Nat) : Int) := h1.more (by omega) (by omega)
        refine ⟨_, rfl, .inl ⟨rfl, _, SqL.of l1⟩, _, rfl, _, _, rfl, rfl, l, _, _, rfl, rfl, l1, sz2 (by rw [List.length_map, List.length_append]; have : ([((i + 1 : Nat) : Int)] : List Int).length = 1 := rfl; omega), ?_⟩
        rw [e1]
        refine ⟨(b2.updN nl0).updN nl0, (R2.updN hlr).updN hlr, _, _, rfl, app l1, h2, ?_⟩
        rw [if_pos rfl] at lL ⊢
        rw [List.length_append, List.length_append]
        have : ([((i + 1 : Nat) : Int)] : List Int).length = 1 := rfl
        omega
      | false =>
        refine iteF ?_
        refine ⟨b2.updN nl0, R2.updN hlr, _, _, rfl, l1, h1, ?_⟩
        rw [if_neg (by decide)] at lL ⊢
        rw [List.length_append]
        have : ([((i + 1 : Nat) : Int)] : List Int).length = 1 := rfl
        omega
    · rintro σ H' ⟨b2, R2, L, y4, rfl, hl, hL, lL⟩
      rw [show (n : Int).toNat = n by omega] at hL lL
      refine ⟨_, rfl, b, rfl, ?_⟩
      cases b with
      | true =>
        rw [if_pos rfl] at lL
        refine iteF ?_
        exact ⟨_, rfl, q l L H' hl hL.1 lL nl0 b2 R2⟩
      | false =>
        rw [if_neg (by decide)] at lL
        refine iteT ?_
        refine ⟨_, rfl, _, rfl, by omega, by omega, ?_⟩
        refine for_range (lo := 0) (n := (n : Int).toNat) (fun i σ H' => But r H H' ∧ ReelAt H' r ∧ ∃ (L : List Int) (y4 : Option V) (a : Int), σ = [some (.ref r), some (.int (n : Int)), some (.bl false), some (.ref l), y4] ∧ LevsAt H' l L ∧ LevE L a ∧ (n : Int) - (i : Int) ≤ a + 1 ∧ L.length ≤ n + 1 + i)
          ⟨b2, R2, L, y4, _, rfl, hl, hL, by omega, by omega⟩ ?_ ?_
        · rintro i σ H' hi ⟨b2, R2, L, y4, a, rfl, hl, hL, ha, lL⟩
          have e1 : (fun i j : Int => V.int (i - j)) (n : Int) (0 + (i : Int)) = V.int ((n : Int) - (i : Int)) := congrArg V.int (by omega)
          refine ⟨_, rfl, .inl ⟨rfl, _, SqL.of hl⟩, _, rfl, _, rfl, _, _, rfl, rfl, l, _, _, rfl, rfl, hl, sz2 (by rw [List.length_map]; omega), ?_⟩
          rw [e1]
          refine ⟨b2.updN nl0, R2.updN hlr, _, _, _, rfl, app hl, hL.more (by omega) ha, by omega, ?_⟩
          rw [List.length_append]
          have : ([(n : Int) - (i : Int)] : List Int).length = 1 := rfl
          omega
        · rintro σ H' ⟨b2, R2, L, y4, a, rfl, hl, hL, ha, lL⟩
          exact ⟨_, rfl, q l L H' hl hL.1 (by omega) nl0 b2 R2⟩
theorem ok_levels (T : Txt K mg) : FnOk P w K mg base CX0 3 T.a_law_levels T.fd_law_levels ["reel"] (spLevs 50) := by
  have G_law_pick : FnOk P w K mg base CX0 2 T.a_law_pick T.fd_law_pick ["reel", "row"] (spPick K) := ok_pick T
  refine T.F_law_levels.ok sc_law_levels (fun vs H Q E h => ?_) (fun cdv A outer s H vs Q E hr h => ?_)
  · obtain ⟨r, rfl, _⟩ := h
    rfl
  · have hr_law_pick : Room 2 _ := hr
    obtain ⟨r, rfl, hR, q⟩ := h
    refine ⟨_, (pss_cons (ps_set (i := 1) sc_law_levels.nd rfl (.inl rfl) (pe_lst (pa_cons pe_int pa_nil)))
      (pss_cons (ps_set (i := 2) sc_law_levels.nd rfl (.inl rfl) (pe_call G_law_pick hr_law_pick (by rfl) T.g_law_pick T.F_law_pick.kp T.b_law_pick .nil pass0 (pa_cons (pv 0) (pa_cons (pe_lst (pa_cons pe_int (pa_cons pe_int (pa_cons pe_int (pa_cons pe_int (pa_cons pe_int (pa_cons pe_int (pa_cons pe_int (pa_cons pe_int (pa_cons pe_int (pa_cons pe_int (pa_cons pe_int (pa_cons pe_int (pa_cons pe_int pa_nil)))))))))))))) pa_nil))))
      (pss_cons (ps_for PassesOwn.never rfl (pi_range1 (by rfl) T.m_range (pa_cons (pv 2) pa_nil)) (pg_name (i := 3) sc_law_levels.nd rfl (.inl rfl)) (pss_cons (ps_set (i := 4) sc_law_levels.nd rfl (.inl rfl) (pe_call G_law_pick hr_law_pick (by rfl) T.g_law_pick T.F_law_pick.kp T.b_law_pick .nil pass0 (pa_cons (pv 0) (pa_cons (pe_lst (pa_cons pe_int (pa_cons pe_int (pa_cons pe_int (pa_cons pe_int (pa_cons pe_int (pa_cons pe_int (pa_cons pe_int (pa_cons pe_int pa_nil))))))))) pa_nil))))
      (pss_one (ps_expr (pe_bm PySem.F.plainAttrs_list PySem.F.slot_list_append PySem.F.type_list_append mt_append (pv 1) (pa_cons (pe_callB (call_max2 rfl) (by rfl) T.m_max (by decide +kernel) (pa_cons pe_int (pa_cons (pe_callB (call_min2 rfl) (by rfl) T.m_min (by decide +kernel) (pa_cons pe_int (pa_cons (pe_op op_sub (pe_op op_add (pe_ix ix_list (pv 1) (pv 3) (fun _ _ => rfl)) pe_int) (pv 4)) pa_nil))) pa_nil))) pa_nil))))))
      (pss_one (ps_ret (pv 1)))))), ?_⟩
    refine ⟨by show 1 ≤ sizeLine; decide, fun l nl => ?_⟩
    have hlr : l ≠ r := (hR.ne nl).symm
    refine ⟨_, rfl, by show 13 ≤ sizeLine; decide, fun p np => ?_⟩
    have hpr : p ≠ r := ((hR.new nl).ne np).symm
    have hl0 : (upd H l (.lst [.int 0])) l = some (.lst [.int 0]) := upd_same
    have hpl : l ≠ p := ne_of_none hl0 np
    refine ⟨r, _, rfl, (hR.new nl).new np, .inr ⟨p, _, rfl, hpr, SqL.of upd_same, by show 0 < 13; decide, fun v H1 hv b1 R1 => ?_⟩⟩
    obtain ⟨n, rfl, n0, n1⟩ := intsIn_mem (lo := 0) (hi := 39) (by decide +kernel) v hv
    have bb : But r H H1 := ((But.new nl).trans (But.new np)).trans b1
    have hl1 : LevsAt H1 l [0] := b1 _ _ hlr (by rw [upd_ne hpl]; exact upd_same)
    refine ⟨_, rfl, _, rfl, by omega, by omega, ?_⟩
    refine for_range (lo := 0) (n := n.toNat) (fun i σ H' => But r H H' ∧ ReelAt H' r ∧ ∃ (L : List Int) (y3 y4 : Option V) (a : Int), σ = [some (.ref r), some (.ref l), some (.int n), y3, y4] ∧ LevsAt H' l L ∧ LevE L a ∧ a ≤ 12 ∧ L.length = i + 1)
      ⟨bb, R1, [0], none, none, 0, rfl, hl1, LevE.zero, by decide, rfl⟩ ?_ ?_
    · rintro i σ H2 hi ⟨b2, R2, L, y3, y4, a, rfl, hl, hL, ha, lL⟩
      refine ⟨_, rfl, by show 8 ≤ sizeLine; decide, fun p2 np2 => ?_⟩
      have hpr2 : p2 ≠ r := (R2.ne np2).symm
      have hpl2 : l ≠ p2 := ne_of_none hl np2
      refine ⟨r, _, rfl, R2.new np2, .inr ⟨p2, _, rfl, hpr2, SqL.of upd_same, by show 0 < 8; decide, fun v H3 hv b3 R3 => ?_⟩⟩
      obtain ⟨d, rfl, d0, d1⟩ := intsIn_mem (lo := 0) (hi := 12) (by decide +kernel) v hv
      have hl3 : LevsAt H3 l L := b3 _ _ hlr (by rw [upd_ne hpl2]; exact hl)
      have b03 : But r H H3 := b2.trans ((But.new np2).trans b3)
      obtain ⟨L', eL⟩ := hL.2
      have ga := hL.ge
      have at1 : atI (L.map V.int) (0 + (i : Int)) = some (.int a) := by
        rw [show (0 : Int) + (i : Int) = (i : Int) by omega]
        refine atI_nat ?_
        rw [List.getElem?_map, eL, List.getElem?_append_right (by rw [eL, List.length_append, List.length_singleton] at lL; omega)]
        rw [eL, List.length_append, List.length_singleton] at lL
        rw [show i - L'.length = 0 by omega]
        rfl
      refine ⟨_, rfl, .inl ⟨rfl, _, SqL.of hl3⟩, ?_⟩
      refine ⟨_, rfl, _, rfl, l, _, _, _, rfl, rfl, SqL.of hl3, at1, _, _, rfl, rfl, _, rfl, _, _, rfl, rfl, _, _, rfl, _, _, rfl, l, _, _, rfl, rfl, hl3, sz2 (by rw [List.length_map]; omega), ?_⟩
      obtain ⟨x, hx⟩ : ∃ x : Int, x = (if (if a + 1 - d < 12 then a + 1 - d else 12) > 1 then (if a + 1 - d < 12 then a + 1 - d else 12) else 1) := ⟨_, rfl⟩
      have h1 : 1 ≤ x := by
        rw [hx]
        split <;> omega
      have h2 : x ≤ a + 1 := by
        rw [hx]
        split
        · split <;> omega
        · omega
      have h3 : x ≤ 12 := by
        rw [hx]
        split
        · split <;> omega
        · omega
      rw [← hx]
      refine ⟨b03.updN nl, R3.updN hlr, L ++ [x], _, _, x, rfl, ?_, hL.more h1 h2, h3, ?_⟩
      · unfold LevsAt
        rw [upd_same, List.map_append]
        rfl
      · rw [List.length_append, lL]
        rfl
    · rintro σ H2 ⟨b2, R2, L, y3, y4, a, rfl, hl, hL, ha, lL⟩
      exact ⟨_, rfl, q l L H2 hl hL.1 (by omega) (by exact nl) b2 R2⟩

/-! ### rows -/
def NumOk (v : Int) : Prop := v = -1 ∨ (0 ≤ v ∧ v < 1000000000)
structure NdOk (d : Nd) : Prop where
  kind : Srt (cs d.kind)
  sym : Srt (cs d.sym)
  lk : (cs d.kind).length ≤ 20
  ls : (cs d.sym).length ≤ 20
  st : NumOk d.st
  lead : 0 ≤ d.lead ∧ d.lead < 1000000000
  wid : 0 ≤ d.wid ∧ d.wid < 1000000000
  look : 0 ≤ d.look ∧ d.look < 1000000000
  alt : NumOk d.alt
  pop : 0 ≤ d.pop ∧ d.pop < 1000000000
def numsV (d : Nd) : List V := [.int d.st, .int d.lead, .int d.wid, .int d.look, .int d.alt, .int d.pop]
def rwV (r : Rw) : List V := .int r.1 :: .str r.2.kind :: .str r.2.sym :: numsV r.2
def RwAt (H : Hp) (v : V) (r : Rw) : Prop := ∃ g, v = .ref g ∧ H g = some (.tup (rwV r))
theorem RwAt.tups {H H' : Hp} (t : Tups H H') {v : V} {r : Rw} (h : RwAt H v r) : RwAt H' v r := by
  obtain ⟨g, e, k⟩ := h
  exact ⟨g, e, t _ _ k⟩
def spCount : Sp := fun vs H Q _ => ∃ (r : Addr) (b : Int), vs = [.ref r, .int b] ∧ (b = -1 ∨ b = 0) ∧ ReelAt H r ∧ ∀ (v : Int) H', (v = b ∨ (0 ≤ v ∧ v < 1000000000)) → But r H H' → ReelAt H' r → Q (.int v) H'
theorem ok_count (T : Txt K mg) : FnOk P w K mg base CX0 2 T.a_law_count T.fd_law_count ["reel", "least"] spCount := by
  have G_law_draw : FnOk P w K mg base CX0 1 T.a_law_draw T.fd_law_draw ["reel", "size"] spDraw := ok_draw T
  refine T.F_law_count.ok sc_law_count (fun vs H Q E h => ?_) (fun cdv A outer s H vs Q E hr h => ?_)
  · obtain ⟨r, b, rfl, _⟩ := h
    rfl
  · have hr_law_draw : Room 1 _ := hr
    obtain ⟨r, b, rfl, hb, hR, q⟩ := h
    refine ⟨_, (pss_cons (ps_set (i := 2) sc_law_count.nd rfl (.inl rfl) (pe_call G_law_draw hr_law_draw (by rfl) T.g_law_draw T.F_law_draw.kp T.b_law_draw .nil pass0 (pa_cons (pv 0) (pa_cons pe_int pa_nil))))
      (pss_cons (ps_if (pt_cmpR op_lt (pv 2) pe_int (nomark _)) (pss_one (ps_ret (pv 1))) pss_nil)
      (pss_cons (ps_if (pt_cmpR op_eq (pv 2) pe_int (nomark _)) (pss_one (ps_ret (pe_op op_sub pe_int (pe_call G_law_draw hr_law_draw (by rfl) T.g_law_draw T.F_law_draw.kp T.b_law_draw .nil pass0 (pa_cons (pv 0) (pa_cons pe_int pa_nil)))))) pss_nil)
      (pss_cons (ps_if (pt_cmpR op_lt (pv 2) pe_int (nomark _)) (pss_one (ps_ret (pe_call G_law_draw hr_law_draw (by rfl) T.g_law_draw T.F_law_draw.kp T.b_law_draw .nil pass0 (pa_cons (pv 0) (pa_cons pe_int pa_nil))))) pss_nil)
      (pss_one (ps_ret (pe_op op_add (pe_op op_mul (pe_op op_add (pe_op op_mul (pe_call G_law_draw hr_law_draw (by rfl) T.g_law_draw T.F_law_draw.kp T.b_law_draw .nil pass0 (pa_cons (pv 0) (pa_cons pe_int pa_nil))) pe_int) (pe_call G_law_draw hr_law_draw (by rfl) T.g_law_draw T.F_law_draw.kp T.b_law_draw .nil pass0 (pa_cons (pv 0) (pa_cons pe_int pa_nil)))) pe_int) (pe_call G_law_draw hr_law_draw (by rfl) T.g_law_draw T.F_law_draw.kp T.b_law_draw .nil pass0 (pa_cons (pv 0) (pa_cons pe_int pa_nil)))))))))), ?_⟩
    refine ⟨_, rfl, r, 10, rfl, hR, by decide, fun f H1 f0 f1 b1 R1 => ?_⟩
    refine ⟨_, rfl, _, _, rfl, rfl, _, rfl, ite2 (fun _ => ?_) (fun _ => ?_)⟩
    · exact ⟨_, rfl, q b H1 (.inl rfl) b1 R1⟩
    refine ⟨_, rfl, rfl, _, rfl, ite2 (fun _ => ?_) (fun _ => ?_)⟩
    · exact ⟨_, rfl, r, 3, rfl, R1, by decide, fun v H2 v0 v1 b2 R2 => ⟨_, _, rfl, rfl, q _ H2 (.inr (by omega)) (b1.trans b2) R2⟩⟩
    refine ⟨_, rfl, _, _, rfl, rfl, _, rfl, ite2 (fun _ => ?_) (fun _ => ?_)⟩
    · exact ⟨_, rfl, r, 12, rfl, R1, by decide, fun v H2 v0 v1 b2 R2 => q _ H2 (.inr (by omega)) (b1.trans b2) R2⟩
    refine ⟨_, rfl, r, 1000, rfl, R1, by decide, fun x H2 x0 x1 b2 R2 => ?_⟩
    refine ⟨_, _, rfl, rfl, .inr ⟨by decide, by decide⟩, _, rfl, r, 1000, rfl, R2, by decide, fun y H3 y0 y1 b3 R3 => ⟨_, _, rfl, rfl, _, _, rfl, rfl, .inr ⟨by decide, by decide⟩, _, rfl, r, 1000, rfl, R3, by decide, fun z H4 z0 z1 b4 R4 => ?_⟩⟩
    exact ⟨_, _, rfl, rfl, q _ H4 (.inr (by omega)) (((b1.trans b2).trans b3).trans b4) R4⟩
def NumB (v b : Int) : Prop := v = b ∨ (0 ≤ v ∧ v < 1000000000)
abbrev leasts : List Int := [-1, 0, 0, 0, -1, 0]
theorem six_of {ns : List Int} (h : Paired NumB ns leasts) : ∃ a b c d e f, ns = [a, b, c, d, e, f] ∧ NumB a (-1) ∧ NumB b 0 ∧ NumB c 0 ∧ NumB d 0 ∧ NumB e (-1) ∧ NumB f 0 := by
  cases h with
  | cons h1 t => cases t with
    | cons h2 t => cases t with
      | cons h3 t => cases t with
        | cons h4 t => cases t with
          | cons h5 t => cases t with
            | cons h6 t => cases t with
              | nil => exact ⟨_, _, _, _, _, _, rfl, h1, h2, h3, h4, h5, h6⟩
theorem NumB.ok {v : Int} (h : NumB v (-1)) : NumOk v := h
theorem NumB.pos {v : Int} (h : NumB v 0) : 0 ≤ v ∧ v < 1000000000 := by
  rcases h with rfl | h
  · decide
  · exact h
def spRow : Sp := fun vs H Q _ => ∃ (r : Addr) (l : Int), vs = [.ref r, .int l] ∧ ReelAt H r ∧ ∀ (v : V) (d : Nd) H', RwAt H' v (l, d) → NdOk d → But r H H' → ReelAt H' r → Q v H'
theorem ok_row (T : Txt K mg) : FnOk P w K mg base CX0 6 T.a_law_row T.fd_law_row ["reel", "level"] spRow := by
  have G_law_draw : FnOk P w K mg base CX0 1 T.a_law_draw T.fd_law_draw ["reel", "size"] spDraw := ok_draw T
  have G_law_sort : FnOk P w K mg base CX0 5 T.a_law_sort T.fd_law_sort ["reel"] spSort := ok_sort T
  have G_law_count : FnOk P w K mg base CX0 2 T.a_law_count T.fd_law_count ["reel", "least"] spCount := ok_count T
  refine T.F_law_row.ok sc_law_row (fun vs H Q E h => ?_) (fun cdv A outer s H vs Q E hr h => ?_)
  · obtain ⟨r, l, rfl, _⟩ := h
    rfl
  · have hr_law_draw : Room 1 _ := hr.mono (by decide)
    have hr_law_sort : Room 5 _ := hr
    have hr_law_count : Room 2 _ := hr.mono (by decide)
    obtain ⟨r, l, rfl, hR, q⟩ := h
    refine ⟨_, (pss_cons (ps_set (i := 2) sc_law_row.nd rfl (.inl rfl) (pe_call G_law_sort hr_law_sort (by rfl) T.g_law_sort T.F_law_sort.kp T.b_law_sort .nil pass0 (pa_cons (pv 0) pa_nil)))
      (pss_cons (ps_set (i := 3) sc_law_row.nd rfl (.inl rfl) (pv 2))
      (C8.pss_cut (ps_if (pt_cmpR op_eq (pe_call G_law_draw hr_law_draw (by rfl) T.g_law_draw T.F_law_draw.kp T.b_law_draw .nil pass0 (pa_cons (pv 0) (pa_cons pe_int pa_nil))) pe_int (nomark _)) (pss_one (ps_set (i := 3) sc_law_row.nd rfl (.inl rfl) (pe_call G_law_sort hr_law_sort (by rfl) T.g_law_sort T.F_law_sort.kp T.b_law_sort .nil pass0 (pa_cons (pv 0) pa_nil)))) pss_nil)
      (pss_cons (ps_setLc (i := 4) (own := [("least", 5)]) (g := gName 5) (by rfl) sc_law_row.nd rfl rfl (sw_true rfl rfl rfl (by decide +kernel)) (pi_list (pe_lst (pa_cons (pe_un un_neg pe_int) (pa_cons pe_int (pa_cons pe_int (pa_cons pe_int (pa_cons (pe_un un_neg pe_int) (pa_cons pe_int pa_nil)))))))) (blkOk_by (own := [("least", 5)]) (N := ["reel", "level", "first", "second", "numbers", "least"]) (sc := defScope s_law_row) (by decide +kernel)) (fun _ _ _ _ _ => pg_name (i := 5) sc_law_row.nd rfl (Or.inl rfl)) (fun _ _ _ _ _ => pts_nil) (fun _ _ _ _ _ => (pe_call G_law_count hr_law_count (by rfl) T.g_law_count T.F_law_count.kp T.b_law_count .nil pass0 (pa_cons (pv 0) (pa_cons (pv 5) pa_nil)))))
      (C8.pss_cut (ps_if (pt_cmpR op_eq (pe_call G_law_draw hr_law_draw (by rfl) T.g_law_draw T.F_law_draw.kp T.b_law_draw .nil pass0 (pa_cons (pv 0) (pa_cons pe_int pa_nil))) pe_int (nomark _)) (pss_one (ps_set (i := 4) sc_law_row.nd rfl (.inl rfl) (pe_op op_cat (pe_slice sl_list (pv 4) po_none (po_some pe_int)) (pe_lst (pa_cons (pe_un un_neg pe_int) (pa_cons pe_int pa_nil)))))) pss_nil)
      (pss_one (ps_ret (pe_op op_catT (pe_tup (pa_cons (pv 1) (pa_cons (pv 2) (pa_cons (pv 3) pa_nil)))) (pe_callTy call_tuple_of (by rfl) T.m_tuple (by decide +kernel) (pa_cons (pv 4) pa_nil)))))))))), ?_⟩
    refine ⟨_, rfl, r, rfl, hR, fun x H1 sx lx b1 R1 => ?_⟩
    refine ⟨_, rfl, ?_⟩
    refine ⟨fun σ H' => But r H H' ∧ ReelAt H' r ∧ ∃ y : Str, σ = [some (.ref r), some (.int l), some (.str x), some (.str y), none, none] ∧ Srt (cs y) ∧ (cs y).length ≤ 20, ?_, ?_⟩
    · refine ⟨_, rfl, r, 3, rfl, R1, by decide, fun v H2 v0 v1 b2 R2 => ⟨rfl, _, rfl, ite2 (fun _ => ?_) (fun _ => ?_)⟩⟩
      · exact ⟨_, rfl, r, rfl, R2, fun y H3 sy ly b3 R3 => ⟨(b1.trans b2).trans b3, R3, y, rfl, sy, ly⟩⟩
      · exact ⟨b1.trans b2, R2, x, rfl, sx, lx⟩
    · rintro σ H2 ⟨b2, R2, y, rfl, sy, ly⟩
      refine ⟨1, rfl, 1, rfl, by show 6 ≤ sizeLine; decide, fun p np => ⟨p, rfl, ⟨_, SqL.of upd_same⟩, fun D nD => ?_⟩⟩
      have hp0 : (upd H2 p (.lst (leasts.map V.int))) p = some (.lst (leasts.map V.int)) := upd_same
      have hpr : p ≠ r := (R2.ne np).symm
      have R2' : ReelAt (upd H2 p (.lst (leasts.map V.int))) r := R2.new np
      have hDr : D ≠ r := (R2'.ne nD).symm
      have bp : But r H2 (upd H2 p (.lst (leasts.map V.int))) := But.new np
      refine lc_it (walk_list (K := K) (a := p) (xs := leasts.map V.int)) (fun j H' => But r (upd H2 p (.lst (leasts.map V.int))) H' ∧ ReelAt H' r ∧ ∃ ns : List Int, H' D = some (.lst (ns.map V.int)) ∧ Paired NumB ns (leasts.take j))
        ⟨But.new nD, R2'.new nD, [], upd_same, .nil⟩ (fun j H' _ ⟨b, _⟩ => SqL.of (b _ _ hpr hp0)) ?_ ?_
      · rintro j v H3 H4 hj ⟨b3, R3, ns, hD, hN⟩ ⟨rfl, hv⟩
        have hj6 : j < 6 := hj
        obtain ⟨b, hb⟩ : ∃ b, leasts[j]? = some b := ⟨_, List.getElem?_eq_getElem hj6⟩
        have hv : (leasts.map V.int)[j]? = some v := hv
        rw [List.getElem?_map, hb] at hv
        obtain rfl : V.int b = v := Option.some.inj hv
        have hbm : b = -1 ∨ b = 0 := by
          have hm := List.mem_of_getElem? hb
          have all : ∀ b ∈ leasts, b = -1 ∨ b = 0 := by decide
          exact all b hm
        have ln := paired_len hN
        rw [List.length_take] at ln
        refine ⟨rfl, _, rfl, _, rfl, r, b, rfl, hbm, R3, fun x H5 hx b5 R5 => ?_⟩
        have hD5 := b5 _ _ hDr hD
        refine ⟨_, hD5, sz2 (by rw [List.length_map]; omega), (b3.trans b5).updN nD, R5.updN hDr, ns ++ [x], ?_, ?_⟩
        · rw [upd_same, List.map_append]
          rfl
        · rw [takeN hb]
          exact paired_app hN (.cons hx .nil)
      · rintro H3 ⟨b3, R3, ns, hD, hN⟩
        have hN : Paired NumB ns leasts := hN
        obtain ⟨n1, n2, n3, n4, n5, n6, rfl, k1, k2, k3, k4, k5, k6⟩ := six_of hN
        have b03 : But r H H3 := b2.trans (bp.trans b3)
        refine ⟨fun σ H' => But r H H' ∧ ReelAt H' r ∧ ∃ (l4 : Addr) (ns : List Int) (y5 : Option V), σ = [some (.ref r), some (.int l), some (.str x), some (.str y), some (.ref l4), y5] ∧ H' l4 = some (.lst (ns.map V.int)) ∧ Paired NumB ns leasts, ?_, ?_⟩
        · refine ⟨_, rfl, r, 3, rfl, R3, by decide, fun v H4 v0 v1 b4 R4 => ⟨rfl, _, rfl, ite2 (fun _ => ?_) (fun _ => ?_)⟩⟩
          · have hD4 := b4 _ _ hDr hD
            have e4 : cutV ([n1, n2, n3, n4, n5, n6].map V.int) none (some 4) = [n1, n2, n3, n4].map V.int := rfl
            refine ⟨_, rfl, 4, rfl, D, _, rfl, SqL.of hD4, fun s1 ns1 => ?_⟩
            rw [e4]
            refine ⟨1, rfl, by show 2 ≤ sizeLine; decide, fun s2 ns2 => ?_⟩
            have k1' : (upd H4 s1 (.lst ([n1, n2, n3, n4].map V.int))) s1 = some (.lst ([n1, n2, n3, n4].map V.int)) := upd_same
            refine ⟨s1, s2, _, _, rfl, rfl, (same_upd ns2) _ _ k1', upd_same, by show 4 + 2 ≤ sizeLine; decide, fun s3 ns3 => ?_⟩
            refine ⟨((b03.trans b4).trans (But.new ns1)).trans ((But.new ns2).trans (But.new ns3)), ((R4.new ns1).new ns2).new ns3, s3, [n1, n2, n3, n4, -1, 0], _, rfl, upd_same, ?_⟩
            exact .cons k1 (.cons k2 (.cons k3 (.cons k4 (.cons (.inl rfl) (.cons (.inl rfl) .nil)))))
          · exact ⟨b03.trans b4, R4, D, _, _, rfl, b4 _ _ hDr hD, hN⟩
        · rintro σ H4 ⟨b4, R4, l4, ns, y5, rfl, h4, hN4⟩
          obtain ⟨n1, n2, n3, n4, n5, n6, rfl, k1, k2, k3, k4, k5, k6⟩ := six_of hN4
          refine ⟨_, rfl, _, rfl, _, rfl, by show 3 ≤ sizeLine; decide, fun t nt => ⟨_, rfl, l4, _, rfl, .inl ⟨SqL.of (same_upd nt _ _ h4), fun t2 nt2 => ?_⟩⟩⟩
          have ht : (upd (upd H4 t (.tup [V.int l, V.str x, V.str y])) t2 (.tup ([n1, n2, n3, n4, n5, n6].map V.int))) t = some (.tup [V.int l, V.str x, V.str y]) := (same_upd nt2) _ _ upd_same
          refine ⟨t, t2, _, _, rfl, rfl, SqT.of ht, SqT.of upd_same, List.cons_ne_nil _ _, by show 3 + 6 ≤ sizeLine; decide, fun e => (by cases e), fun _ g ng => ?_⟩
          exact q _ ⟨x, y, n1, n2, n3, n4, n5, n6⟩ _ ⟨g, rfl, upd_same⟩ ⟨sx, sy, lx, ly, k1, k2.pos, k3.pos, k4.pos, k5, k6.pos⟩ (b4.trans ((But.new nt).trans ((But.new nt2).trans (But.new ng)))) (((R4.new nt).new nt2).new ng)
theorem ok_small_row (T : Txt K mg) : FnOk P w K mg base CX0 3 T.a_law_small_row T.fd_law_small_row ["reel", "level"] spRow := by
  have G_law_draw : FnOk P w K mg base CX0 1 T.a_law_draw T.fd_law_draw ["reel", "size"] spDraw := ok_draw T
  have G_law_pick : FnOk P w K mg base CX0 2 T.a_law_pick T.fd_law_pick ["reel", "row"] (spPick K) := ok_pick T
  refine T.F_law_small_row.ok sc_law_small_row (fun vs H Q E h => ?_) (fun cdv A outer s H vs Q E hr h => ?_)
  · obtain ⟨r, l, rfl, _⟩ := h
    rfl
  · have hr_law_draw : Room 1 _ := hr.mono (by decide)
    have hr_law_pick : Room 2 _ := hr
    obtain ⟨r, l, rfl, hR, q⟩ := h
    refine ⟨_, (pss_cons (ps_set (i := 2) sc_law_small_row.nd rfl (.inl rfl) (pe_call G_law_pick hr_law_pick (by rfl) T.g_law_pick T.F_law_pick.kp T.b_law_pick .nil pass0 (pa_cons (pv 0) (pa_cons pe_str pa_nil))))
      (pss_cons (ps_set (i := 3) sc_law_small_row.nd rfl (.inl rfl) (pe_call G_law_pick hr_law_pick (by rfl) T.g_law_pick T.F_law_pick.kp T.b_law_pick .nil pass0 (pa_cons (pv 0) (pa_cons pe_str pa_nil))))
      (pss_cons (ps_setLc (i := 4) (own := [("least", 5)]) (g := gName 5) (by rfl) sc_law_small_row.nd rfl rfl (sw_true rfl rfl rfl (by decide +kernel)) (pi_list (pe_lst (pa_cons (pe_un un_neg pe_int) (pa_cons pe_int (pa_cons pe_int (pa_cons pe_int (pa_cons (pe_un un_neg pe_int) (pa_cons pe_int pa_nil)))))))) (blkOk_by (own := [("least", 5)]) (N := ["reel", "level", "first", "second", "numbers", "least"]) (sc := defScope s_law_small_row) (by decide +kernel)) (fun _ _ _ _ _ => pg_name (i := 5) sc_law_small_row.nd rfl (Or.inl rfl)) (fun _ _ _ _ _ => pts_nil) (fun _ _ _ _ _ => (pe_op op_add (pv 5) (pe_call G_law_draw hr_law_draw (by rfl) T.g_law_draw T.F_law_draw.kp T.b_law_draw .nil pass0 (pa_cons (pv 0) (pa_cons pe_int pa_nil))))))
      (pss_one (ps_ret (pe_op op_catT (pe_tup (pa_cons (pv 1) (pa_cons (pv 2) (pa_cons (pv 3) pa_nil)))) (pe_callTy call_tuple_of (by rfl) T.m_tuple (by decide +kernel) (pa_cons (pv 4) pa_nil)))))))), ?_⟩
    have one : ∀ c ∈ cs (Str.ofString "abcxyz"), Srt (cs (sg c)) ∧ (cs (sg c)).length ≤ 20 := fun c hc => by
      have all : ∀ c ∈ cs (Str.ofString "abcxyz"), c ∈ cs lettS := by decide +kernel
      exact ⟨.inl ⟨c, [], rfl, all c hc, fun x hx => absurd hx List.not_mem_nil⟩, by show 1 ≤ 20; decide⟩
    refine ⟨_, rfl, r, _, rfl, hR, .inl ⟨_, rfl, by decide +kernel, by decide +kernel, fun c H1 hc b1 R1 => ?_⟩⟩
    refine ⟨_, rfl, r, _, rfl, R1, .inl ⟨_, rfl, by decide +kernel, by decide +kernel, fun d H2 hd b2 R2 => ?_⟩⟩
    obtain ⟨sx, lx⟩ := one c hc
    obtain ⟨sy, ly⟩ := one d hd
    refine ⟨1, rfl, 1, rfl, by show 6 ≤ sizeLine; decide, fun p np => ⟨p, rfl, ⟨_, SqL.of upd_same⟩, fun D nD => ?_⟩⟩
    have hp0 : (upd H2 p (.lst (leasts.map V.int))) p = some (.lst (leasts.map V.int)) := upd_same
    have hpr : p ≠ r := (R2.ne np).symm
    have R2' : ReelAt (upd H2 p (.lst (leasts.map V.int))) r := R2.new np
    have hDr : D ≠ r := (R2'.ne nD).symm
    refine lc_it (walk_list (K := K) (a := p) (xs := leasts.map V.int)) (fun j H' => But r (upd H2 p (.lst (leasts.map V.int))) H' ∧ ReelAt H' r ∧ ∃ ns : List Int, H' D = some (.lst (ns.map V.int)) ∧ Paired NumB ns (leasts.take j))
      ⟨But.new nD, R2'.new nD, [], upd_same, .nil⟩ (fun j H' _ ⟨b, _⟩ => SqL.of (b _ _ hpr hp0)) ?_ ?_
    · rintro j v H3 H4 hj ⟨b3, R3, ns, hD, hN⟩ ⟨rfl, hv⟩
      have hj6 : j < 6 := hj
      obtain ⟨b, hb⟩ : ∃ b, leasts[j]? = some b := ⟨_, List.getElem?_eq_getElem hj6⟩
      have hv : (leasts.map V.int)[j]? = some v := hv
      rw [List.getElem?_map, hb] at hv
      obtain rfl : V.int b = v := Option.some.inj hv
      have hbm : b = -1 ∨ b = 0 := by
        have hm := List.mem_of_getElem? hb
        have all : ∀ b ∈ leasts, b = -1 ∨ b = 0 := by decide
        exact all b hm
      have ln := paired_len hN
      rw [List.length_take] at ln
      refine ⟨rfl, _, rfl, _, rfl, r, 100, rfl, R3, by decide, fun x H5 x0 x1 b5 R5 => ?_⟩
      have hD5 := b5 _ _ hDr hD
      refine ⟨_, _, rfl, rfl, _, hD5, sz2 (by rw [List.length_map]; omega), (b3.trans b5).updN nD, R5.updN hDr, ns ++ [b + x], ?_, ?_⟩
      · rw [upd_same, List.map_append]
        rfl
      · rw [takeN hb]
        refine paired_app hN (.cons ?_ .nil)
        unfold NumB
        omega
    · rintro H3 ⟨b3, R3, ns, hD, hN⟩
      have hN : Paired NumB ns leasts := hN
      obtain ⟨n1, n2, n3, n4, n5, n6, rfl, k1, k2, k3, k4, k5, k6⟩ := six_of hN
      have b03 : But r H H3 := (b1.trans b2).trans ((But.new np).trans b3)
      refine ⟨_, rfl, _, rfl, _, rfl, by show 3 ≤ sizeLine; decide, fun t nt => ⟨_, rfl, D, _, rfl, .inl ⟨SqL.of (same_upd nt _ _ hD), fun t2 nt2 => ?_⟩⟩⟩
      have ht : (upd (upd H3 t (.tup [V.int l, V.str (sg c), V.str (sg d)])) t2 (.tup ([n1, n2, n3, n4, n5, n6].map V.int))) t = some (.tup [V.int l, V.str (sg c), V.str (sg d)]) := (same_upd nt2) _ _ upd_same
      refine ⟨t, t2, _, _, rfl, rfl, SqT.of ht, SqT.of upd_same, List.cons_ne_nil _ _, by show 3 + 6 ≤ sizeLine; decide, fun e => (by cases e), fun _ g ng => ?_⟩
      exact q _ ⟨sg c, sg d, n1, n2, n3, n4, n5, n6⟩ _ ⟨g, rfl, upd_same⟩ ⟨sx, sy, lx, ly, k1, k2.pos, k3.pos, k4.pos, k5, k6.pos⟩ (b03.trans ((But.new nt).trans ((But.new nt2).trans (But.new ng)))) (((R3.new nt).new nt2).new ng)

/-! ### lists of rows -/
structure RowsAt (H : Hp) (l : Addr) (rows : List Rw) : Prop where
  ex : ∃ us, H l = some (.lst us) ∧ Paired (RwAt H) us rows
  lev : Lev (rows.map Prod.fst)
  ok : ∀ x ∈ rows, NdOk x.2
def RowsSt (r D : Addr) (L : List Int) (H0 : Hp) (j : Nat) (H' : Hp) : Prop := But r H0 H' ∧ ReelAt H' r ∧ ∃ us rows, H' D = some (.lst us) ∧ Paired (RwAt H') us rows ∧ rows.map Prod.fst = L.take j ∧ ∀ x ∈ rows, NdOk x.2
theorem RowsSt.start {r D : Addr} {L : List Int} {H0 : Hp} (nD : H0 D = none) (R : ReelAt H0 r) : RowsSt r D L H0 0 (upd H0 D (.lst [])) :=
  ⟨But.new nD, R.new nD, [], [], upd_same, .nil, rfl, fun x hx => absurd hx List.not_mem_nil⟩
theorem RowsSt.step {r D : Addr} {L : List Int} {H0 H3 H5 : Hp} {j : Nat} {v : V} {lv : Int} {d : Nd} (S : RowsSt r D L H0 j H3) (hL : L[j]? = some lv) (hl : L.length ≤ 5000) (hv : RwAt H5 v (lv, d)) (hd : NdOk d) (b : But r H3 H5) (R : ReelAt H5 r) (nD : H0 D = none) (hDr : D ≠ r) :
    ∃ acc, H5 D = some (.lst acc) ∧ acc.length < sizeLine ∧ RowsSt r D L H0 (j + 1) (upd H5 D (.lst (acc ++ [v]))) := by
  obtain ⟨b0, R0, us, rows, hD, hp, hf, ho⟩ := S
  have hD5 := b _ _ hDr hD
  have lu := paired_len hp
  have lr : rows.length ≤ L.length := by
    have e := congrArg List.length hf
    rw [List.length_map, List.length_take] at e
    omega
  have t5 : Tups H3 (upd H5 D (.lst (us ++ [v]))) := (b.tups R0).trans (Tups.mut hD5)
  refine ⟨us, hD5, sz2 (by omega), (b0.trans b).updN nD, R.updN hDr, us ++ [v], rows ++ [(lv, d)], upd_same, ?_, ?_, ?_⟩
  · exact paired_app (Paired.mapP hp fun _ _ h => h.tups t5) (.cons (hv.tups (Tups.mut hD5)) .nil)
  · rw [List.map_append, hf, takeN hL]
    rfl
  · intro x hx
    rcases List.mem_append.mp hx with h | h
    · exact ho x h
    · rw [List.mem_singleton.mp h]
      exact hd
theorem RowsSt.done {r D : Addr} {L : List Int} {H0 H3 : Hp} (S : RowsSt r D L H0 L.length H3) (hL : Lev L) : ∃ rows, RowsAt H3 D rows ∧ rows.map Prod.fst = L := by
  obtain ⟨b0, R0, us, rows, hD, hp, hf, ho⟩ := S
  rw [List.take_length] at hf
  exact ⟨rows, ⟨⟨us, hD, hp⟩, by rw [hf]; exact hL, ho⟩, hf⟩
def spRowsL : Sp := fun vs H Q _ => ∃ r : Addr, vs = [.ref r] ∧ ReelAt H r ∧ ∀ l rows H', RowsAt H' l rows → rows.length ≤ 2200 → But r H H' → ReelAt H' r → l ≠ r → Q (.ref l) H'
theorem lev_ones (n : Nat) : Lev (0 :: List.replicate n 1) := by
  refine ⟨_, rfl, fun x hx => by rw [List.eq_of_mem_replicate hx]; decide, ?_⟩
  have key : ∀ m, Lad (List.replicate m (1 : Int)) := fun m => by
    induction m with
    | zero => exact True.intro
    | succ m ih =>
      cases m with
      | zero => exact True.intro
      | succ m => exact ⟨by decide, ih⟩
  cases n with
  | zero => exact True.intro
  | succ n => exact ⟨by decide, key (n + 1)⟩
theorem ok_tree (T : Txt K mg) : FnOk P w K mg base CX0 7 T.a_law_tree T.fd_law_tree ["reel"] spRowsL := by
  have G_law_draw : FnOk P w K mg base CX0 1 T.a_law_draw T.fd_law_draw ["reel", "size"] spDraw := ok_draw T
  have G_law_pick : FnOk P w K mg base CX0 2 T.a_law_pick T.fd_law_pick ["reel", "row"] (spPick K) := ok_pick T
  have G_law_comb : FnOk P w K mg base CX0 2 T.a_law_comb T.fd_law_comb ["reel", "deep"] spComb := ok_comb T
  have G_law_levels : FnOk P w K mg base CX0 3 T.a_law_levels T.fd_law_levels ["reel"] (spLevs 50) := ok_levels T
  have G_law_row : FnOk P w K mg base CX0 6 T.a_law_row T.fd_law_row ["reel", "level"] spRow := ok_row T
  have G_law_small_row : FnOk P w K mg base CX0 3 T.a_law_small_row T.fd_law_small_row ["reel", "level"] spRow := ok_small_row T
  refine T.F_law_tree.ok sc_law_tree (fun vs H Q E h => ?_) (fun cdv A outer s H vs Q E hr h => ?_)
  · obtain ⟨r, rfl, _⟩ := h
    rfl
  · have hr_law_draw : Room 1 _ := hr.mono (by decide)
    have hr_law_pick : Room 2 _ := hr.mono (by decide)
    have hr_law_comb : Room 2 _ := hr.mono (by decide)
    have hr_law_levels : Room 3 _ := hr.mono (by decide)
    have hr_law_row : Room 6 _ := hr
    have hr_law_small_row : Room 3 _ := hr.mono (by decide)
    obtain ⟨r, rfl, hR, q⟩ := h
    refine ⟨_, (pss_cons (ps_set (i := 1) sc_law_tree.nd rfl (.inl rfl) (pe_call G_law_draw hr_law_draw (by rfl) T.g_law_draw T.F_law_draw.kp T.b_law_draw .nil pass0 (pa_cons (pv 0) (pa_cons pe_int pa_nil))))
      (pss_cons (ps_if (pt_cmpR op_eq (pv 1) pe_int (nomark _)) (pss_cons (ps_set (i := 2) sc_law_tree.nd rfl (.inl rfl) (pe_call G_law_comb hr_law_comb (by rfl) T.g_law_comb T.F_law_comb.kp T.b_law_comb .nil pass0 (pa_cons (pv 0) (pa_cons (pe_op op_add pe_int (pe_call G_law_draw hr_law_draw (by rfl) T.g_law_draw T.F_law_draw.kp T.b_law_draw .nil pass0 (pa_cons (pv 0) (pa_cons pe_int pa_nil)))) pa_nil))))
      (pss_one (ps_ret (pe_lc (own := [("level", 3)]) (g := gName 3) (by rfl) sc_law_tree.nd (pi_list (pv 2)) (blkOk_by (own := [("level", 3)]) (N := ["reel", "form", "levels", "level"]) (sc := defScope s_law_tree) (by decide +kernel)) (fun _ _ _ _ _ => pg_name (i := 3) sc_law_tree.nd rfl (Or.inl rfl)) (fun _ _ _ _ _ => pts_nil) (fun _ _ _ _ _ => (pe_call G_law_small_row hr_law_small_row (by rfl) T.g_law_small_row T.F_law_small_row.kp T.b_law_small_row .nil pass0 (pa_cons (pv 0) (pa_cons (pv 3) pa_nil)))))))) pss_nil)
      (pss_cons (ps_set (i := 2) sc_law_tree.nd rfl (.inl rfl) (pe_call G_law_levels hr_law_levels (by rfl) T.g_law_levels T.F_law_levels.kp T.b_law_levels .nil pass0 (pa_cons (pv 0) pa_nil)))
      (C8.pss_cut (ps_if (pt_cmpR op_eq (pv 1) pe_int (nomark _)) (pss_one (ps_set (i := 2) sc_law_tree.nd rfl (.inl rfl) (pe_call G_law_comb hr_law_comb (by rfl) T.g_law_comb T.F_law_comb.kp T.b_law_comb .nil pass0 (pa_cons (pv 0) (pa_cons (pe_op op_add pe_int (pe_call G_law_draw hr_law_draw (by rfl) T.g_law_draw T.F_law_draw.kp T.b_law_draw .nil pass0 (pa_cons (pv 0) (pa_cons pe_int pa_nil)))) pa_nil))))) pss_nil)
      (C8.pss_cut (ps_if (PW.pt (pw_or (pt_cmpR op_eq (pv 1) pe_int (nomark _)) (pw_or1 (pt_cmpR op_eq (pv 1) pe_int (nomark _))))) (pss_one (ps_set (i := 2) sc_law_tree.nd rfl (.inl rfl) (pe_op op_cat (pe_lst (pa_cons pe_int pa_nil)) (pe_op op_rep (pe_lst (pa_cons pe_int pa_nil)) (pe_call G_law_pick hr_law_pick (by rfl) T.g_law_pick T.F_law_pick.kp T.b_law_pick .nil pass0 (pa_cons (pv 0) (pa_cons (pe_lst (pa_cons pe_int (pa_cons pe_int (pa_cons pe_int (pa_cons pe_int (pa_cons pe_int (pa_cons pe_int (pa_cons pe_int (pa_cons pe_int pa_nil))))))))) pa_nil))))))) pss_nil)
      (pss_one (ps_ret (pe_lc (own := [("level", 3)]) (g := gName 3) (by rfl) sc_law_tree.nd (pi_list (pv 2)) (blkOk_by (own := [("level", 3)]) (N := ["reel", "form", "levels", "level"]) (sc := defScope s_law_tree) (by decide +kernel)) (fun _ _ _ _ _ => pg_name (i := 3) sc_law_tree.nd rfl (Or.inl rfl)) (fun _ _ _ _ _ => pts_nil) (fun _ _ _ _ _ => (pe_call G_law_row hr_law_row (by rfl) T.g_law_row T.F_law_row.kp T.b_law_row .nil pass0 (pa_cons (pv 0) (pa_cons (pv 3) pa_nil)))))))))))), ?_⟩
    refine ⟨_, rfl, r, 16, rfl, hR, by decide, fun f H1 f0 f1 b1 R1 => ?_⟩
    refine ⟨_, rfl, rfl, _, rfl, ite2 (fun _ => ?_) (fun _ => ?_)⟩
    · refine ⟨_, rfl, _, rfl, r, 40, rfl, R1, by decide, fun v H2 v0 v1 b2 R2 => ?_⟩
      obtain ⟨k, rfl⟩ : ∃ k : Nat, v = (k : Int) := ⟨v.toNat, by omega⟩
      refine ⟨_, _, rfl, rfl, r, 1010 + k, by show [V.ref r, V.int (1010 + (k : Int))] = _; rw [show (1010 : Int) + (k : Int) = ((1010 + k : Nat) : Int) by omega], R2, by omega, fun l L H3 hl hL ll nl b3 R3 => ?_⟩
      have hlr : l ≠ r := (R2.ne nl).symm
      refine ⟨_, rfl, l, rfl, ⟨_, SqL.of hl⟩, fun D nD => ?_⟩
      have hDr : D ≠ r := (R3.ne nD).symm
      refine lc_it (walk_list (K := K) (a := l) (xs := L.map V.int)) (fun j H' => RowsSt r D L H3 j H') (RowsSt.start nD R3) (fun j H' _ S => SqL.of (S.1 _ _ hlr hl)) ?_ ?_
      · rintro j v H4 H5 hj S ⟨rfl, hv⟩
        rw [List.length_map] at hj
        have e1 : L[j]? = some L[j] := List.getElem?_eq_getElem hj
        have hv : (L.map V.int)[j]? = some v := hv
        rw [List.getElem?_map, e1] at hv
        obtain rfl : V.int L[j] = v := Option.some.inj hv
        exact ⟨rfl, _, rfl, _, rfl, r, _, rfl, S.2.1, fun v d H6 hv hd b6 R6 => S.step e1 (by omega) hv hd b6 R6 nD hDr⟩
      · rintro H4 S
        rw [List.length_map] at S
        obtain ⟨rows, hr1, hr2⟩ := S.done hL
        have len : rows.length = L.length := by rw [← hr2, List.length_map]
        exact q D rows H4 hr1 (by omega) (((b1.trans b2).trans b3).trans S.1) S.2.1 hDr
    · refine ⟨_, rfl, r, rfl, R1, fun l0 L0 H2 hl0 hL0 ll0 nl0 b2 R2 => ?_⟩
      refine ⟨fun σ H' => But r H H' ∧ ReelAt H' r ∧ ∃ (l : Addr) (L : List Int), σ = [some (.ref r), some (.int f), some (.ref l), none] ∧ LevsAt H' l L ∧ Lev L ∧ L.length ≤ 400 ∧ l ≠ r, ?_, ?_⟩
      · refine ⟨_, rfl, rfl, _, rfl, ite2 (fun _ => ?_) (fun _ => ?_)⟩
        · refine ⟨_, rfl, _, rfl, r, 150, rfl, R2, by decide, fun v H3 v0 v1 b3 R3 => ?_⟩
          obtain ⟨k, rfl⟩ : ∃ k : Nat, v = (k : Int) := ⟨v.toNat, by omega⟩
          refine ⟨_, _, rfl, rfl, r, 1 + k, by show [V.ref r, V.int (1 + (k : Int))] = _; rw [show (1 : Int) + (k : Int) = ((1 + k : Nat) : Int) by omega], R3, by omega, fun l L H4 hl hL ll nl b4 R4 => ?_⟩
          exact ⟨((b1.trans b2).trans b3).trans b4, R4, l, L, rfl, hl, hL, by omega, (R3.ne nl).symm⟩
        · exact ⟨b1.trans b2, R2, l0, L0, rfl, hl0, hL0, by omega, (R1.ne nl0).symm⟩
      · rintro σ H3 ⟨b3, R3, l1, L1, rfl, hl1, hL1, ll1, n1⟩
        refine ⟨fun σ H' => But r H H' ∧ ReelAt H' r ∧ ∃ (l : Addr) (L : List Int), σ = [some (.ref r), some (.int f), some (.ref l), none] ∧ LevsAt H' l L ∧ Lev L ∧ L.length ≤ 400 ∧ l ≠ r, ?_, ?_⟩
        · refine if_2 (fun H2 => H2 = H3) (f = 2 ∨ f = 3) (fun Qb qb => ?_) (fun c H2 e2 => ?_) (fun c H2 e2 => ?_)
          · refine ⟨_, rfl, rfl, _, rfl, ite2 (fun c => ?_) (fun c => ?_)⟩
            · refine qb _ _ rfl ⟨fun _ => .inl ?_, fun _ => rfl⟩
              have := of_decide_eq_true c
              injection this
            · refine ⟨_, rfl, rfl, _, rfl, qb _ _ rfl ?_⟩
              have n2 : ¬ f = 2 := fun e => c (decide_eq_true (by rw [e]))
              rw [decide_eq_true_eq]
              exact ⟨fun e => .inr (by injection e), fun e => by rw [e.resolve_left n2]⟩
          · cases e2
            refine ⟨by show 1 ≤ sizeLine; decide, fun p1 np1 => ⟨by show 1 ≤ sizeLine; decide, fun p2 np2 => ?_⟩⟩
            have R3a : ReelAt (upd (upd H3 p1 (.lst [.int 0])) p2 (.lst [.int 1])) r := (R3.new np1).new np2
            have k1 : (upd H3 p1 (.lst [.int 0])) p1 = some (.lst [.int 0]) := upd_same
            have k2 := (same_upd (o := .lst [.int 1]) np2) _ _ k1
            refine ⟨_, rfl, by show 8 ≤ sizeLine; decide, fun p3 np3 => ?_⟩
            have k1c := (same_upd (o := .lst [.int 1, .int 5, .int 30, .int 61, .int 63, .int 64, .int 65, .int 70]) np3) _ _ k2
            refine ⟨r, _, rfl, R3a.new np3, .inr ⟨p3, _, rfl, (R3a.ne np3).symm, SqL.of upd_same, by show 0 < 8; decide, fun v H4 hv b4 R4 => ?_⟩⟩
            obtain ⟨n, rfl, n0, n1⟩ := intsIn_mem (lo := 1) (hi := 70) (by decide +kernel) v hv
            have hp1 : H4 p1 = some (.lst [.int 0]) := b4 _ _ (R3.ne np1).symm k1c
            have hp2 : H4 p2 = some (.lst [.int 1]) := b4 _ _ ((R3.new np1).ne np2).symm ((same_upd np3) _ _ upd_same)
            refine ⟨p2, n, _, rfl, rfl, hp2, by omega, by omega, ?_⟩
            refine ⟨?_, fun p4 np4 => ?_⟩
            · show 1 * n.toNat ≤ sizeLine
              exact Nat.le_trans (show 1 * n.toNat ≤ 100 by omega) (by decide)
            · have er : (List.replicate n.toNat [V.int 1]).flatten = (List.replicate n.toNat (1 : Int)).map V.int := by
                rw [List.map_replicate]
                induction n.toNat with
                | zero => rfl
                | succ m ih =>
                  rw [List.replicate_succ, List.replicate_succ, List.flatten_cons, ih]
                  rfl
              rw [er]
              have hp1' := (same_upd (o := .lst ((List.replicate n.toNat (1 : Int)).map V.int)) np4) _ _ hp1
              refine ⟨p1, p4, _, _, rfl, rfl, hp1', upd_same, szM (by rw [List.length_map, List.length_replicate]; show 1 + _ ≤ _; omega), fun p5 np5 => ?_⟩
              have bb : But r H H4 := b3.trans (((But.new np1).trans (But.new np2)).trans ((But.new np3).trans b4))
              refine ⟨(bb.trans (But.new np4)).trans (But.new np5), (R4.new np4).new np5, p5, 0 :: List.replicate n.toNat 1, rfl, upd_same, lev_ones _, ?_, ((R4.new np4).ne np5).symm⟩
              rw [List.length_cons, List.length_replicate]
              omega
          · cases e2
            exact ⟨b3, R3, l1, L1, rfl, hl1, hL1, ll1, n1⟩
        · rintro σ H3 ⟨b3, R3, l, L, rfl, hl, hL, ll, n2⟩
          have hlr : l ≠ r := n2
          refine ⟨_, rfl, l, rfl, ⟨_, SqL.of hl⟩, fun D nD => ?_⟩
          have hDr : D ≠ r := (R3.ne nD).symm
          refine lc_it (walk_list (K := K) (a := l) (xs := L.map V.int)) (fun j H' => RowsSt r D L H3 j H') (RowsSt.start nD R3) (fun j H' _ S => SqL.of (S.1 _ _ hlr hl)) ?_ ?_
          · rintro j v H4 H5 hj S ⟨rfl, hv⟩
            rw [List.length_map] at hj
            have e1 : L[j]? = some L[j] := List.getElem?_eq_getElem hj
            have hv : (L.map V.int)[j]? = some v := hv
            rw [List.getElem?_map, e1] at hv
            obtain rfl : V.int L[j] = v := Option.some.inj hv
            exact ⟨rfl, _, rfl, _, rfl, r, _, rfl, S.2.1, fun v d H6 hv hd b6 R6 => S.step e1 (by omega) hv hd b6 R6 nD hDr⟩
          · rintro H4 S
            rw [List.length_map] at S
            obtain ⟨rows, hr1, hr2⟩ := S.done hL
            have len : rows.length = L.length := by rw [← hr2, List.length_map]
            exact q D rows H4 hr1 (by omega) (b3.trans S.1) S.2.1 hDr

/-! ### the tree of rows -/
theorem while_nat {c : L2.TT} {tb : L2.TS} {D : L2.Ends} {σ : L2.St} {H : Hp} (Pv : Nat → L2.St → Hp → Prop) (Ex : L2.St → Hp → Prop) {m0 : Nat} (h0 : Pv m0 σ H)
    (hs : ∀ m σ H, Pv m σ H → ∃ b : Bool, (∀ Q : Bool → Hp → Prop, Q b H → c σ H Q) ∧ (b = true → tb { D with nx := fun σ' H' => ∃ m', m' < m ∧ Pv m' σ' H', ct := fun σ' H' => ∃ m', m' < m ∧ Pv m' σ' H', bk := D.nx } σ H) ∧ (b = false → Ex σ H)) (hd : ∀ σ H, Ex σ H → D.nx σ H) : tWhile c tb D σ H := by
  refine ⟨fun m σ H => Pv m σ H, ⟨_, h0⟩, ?_⟩
  rintro m σ H p
  obtain ⟨b, h1, h2, h3⟩ := hs m σ H p
  refine h1 _ ?_
  cases b with
  | true => exact ⟨_, fun σ' H' h => h, h2 rfl⟩
  | false => exact hd _ _ (h3 rfl)
theorem d_if {v : V} {σ : L2.St} {H : Hp} {tt : L2.TT} {a b : L2.TS} {D : L2.Ends} {r : VK} {k c : L2.St → Hp → Prop} (h : tIfS tt a b D σ H) : (fun (_ : V) H1 => Ends.nx ⟨tIfS tt a b D, r, k, c⟩ σ H1) v H := h
theorem Keeps.lst {K : PySem.W.Frag} {C : Addr} {H : Hp} {p : Addr} {xs : List V} {o : HO} (h : H p = some (.lst xs)) : Keeps K C H (upd H p o) :=
  ⟨fun q dx d tp e => by rw [upd_ne (fun z => by rw [z, h] at e; cases e)]; exact e, fun tp us e => by
    rcases e with (e | ⟨x, e⟩) | e
    · exact .inl (.inl (by rw [upd_ne (fun z => by rw [z, h] at e; cases e)]; exact e))
    · exact .inl (.inr ⟨x, by rw [upd_ne (fun z => by rw [z, h] at e; cases e)]; exact e⟩)
    · exact .inr e⟩
theorem take_while_is {α : Type} {f : α → Bool} : ∀ {a b : List α}, (∀ x ∈ a, f x = true) → (∀ x, b.head? = some x → f x = false) → (a ++ b).takeWhile f = a ∧ (a ++ b).dropWhile f = b
  | [], [], _, _ => ⟨rfl, rfl⟩
  | [], y :: b, _, h => by
    have hy := h y rfl
    exact ⟨by rw [List.nil_append, List.takeWhile_cons, hy]; rfl, by rw [List.nil_append, List.dropWhile_cons, hy]; rfl⟩
  | x :: a, b, h1, h2 => by
    have ih := take_while_is (a := a) (b := b) (fun y hy => h1 y (List.mem_cons_of_mem _ hy)) h2
    have hx := h1 x List.mem_cons_self
    exact ⟨by rw [List.cons_append, List.takeWhile_cons, hx, if_pos rfl, ih.1], by rw [List.cons_append, List.dropWhile_cons, hx, if_pos rfl, ih.2]⟩
theorem drop_at {α : Type} {x : α} : ∀ {xs : List α} {k : Nat}, xs[k]? = some x → xs.drop k = x :: xs.drop (k + 1)
  | y :: xs, 0, h => by
    obtain rfl : y = x := by simpa using h
    rfl
  | y :: xs, k + 1, h => drop_at (xs := xs) (k := k) (by simpa using h)
theorem set_rep {α : Type} {a x : α} : ∀ (k : Nat) (xs ys : List α), (List.replicate (k + 1) a ++ xs).set k x = List.replicate k a ++ x :: xs
  | 0, _, _ => rfl
  | k + 1, xs, ys => by
    have ih := set_rep (a := a) (x := x) k xs ys
    show a :: (List.replicate (k + 1) a ++ xs).set k x = a :: (List.replicate k a ++ x :: xs)
    rw [ih]
def rasOf (rows : List Rw) (as : List Addr) : List Ra := (rows.zip as).map fun x => (x.1.1, x.1.2, x.2)
theorem rg_down {n : Nat} (h : n ≤ 4000000) : RgC ((n : Int) - 1) (-1) (-1) n := by
  have e := RgC.neg (i := (n : Int) - 1) (j := -1) (by omega) (by omega) (by omega) (by omega)
  rwa [show ((n : Int) - 1 - -1).toNat = n by omega] at e
/-- the state of the loop that makes the nodes -/
structure MadeSt (K : PySem.W.Frag) (C : Addr) (rows : List Rw) (H0 : Hp) (m w : Addr) (i : Nat) (as : List Addr) (js : List Nat) (H' : Hp) : Prop where
  same : Same H0 H'
  len : as.length = i
  hm : H' m = some (.lst (List.replicate (rows.length - i) V.non ++ as.map V.ref))
  hw : H' w = some (.lst (js.reverse.map fun (j : Nat) => V.int j))
  pr : Paired (fun (j : Nat) (p : Lt) => (∃ d, rows[j]? = some (p.1, d)) ∧ (List.replicate (rows.length - i) V.non ++ as.map V.ref)[j]? = some (.ref p.2.at)) js (grow (rasOf (rows.drop (rows.length - i)) as))
  nd : ∀ p ∈ grow (rasOf (rows.drop (rows.length - i)) as), NodeAt K C H' p.2
theorem grow_len : ∀ rs : List Ra, (grow rs).length ≤ rs.length
  | [] => Nat.le_refl _
  | r :: rs => by
    have ih := grow_len rs
    have e : ((grow rs).dropWhile fun p => p.1 == r.1 + 1).length ≤ (grow rs).length := (List.dropWhile_sublist _).length_le
    show ((grow rs).dropWhile fun p => p.1 == r.1 + 1).length + 1 ≤ rs.length + 1
    omega
def spMade (K : PySem.W.Frag) (C : Addr) : Sp := fun vs H Q _ => ∃ (l : Addr) (rows : List Rw), vs = [.ref l] ∧ RowsAt H l rows ∧ rows.length ≤ 5000 ∧
  ∀ m as t H', Same H H' → H m = none → H' m = some (.lst (as.map V.ref)) → as.length = rows.length → t.ras 0 = rasOf rows as → NodeAt K C H' t → Q (.ref m) H'
theorem ok_made (T : Txt K mg) : FnOk P w K mg base CX0 3 T.a_law_made T.fd_law_made ["rows"] (spMade K T.C_Node) := by
  have G_Node_init : FnOk P w K mg base CX0 1 T.a_Node_init T.fd_Node_init psN (spNInit K T.C_Node) := ok_Node_init T
  refine T.F_law_made.ok sc_law_made (fun vs H Q E h => ?_) (fun cdv A outer s H vs Q E hr h => ?_)
  · obtain ⟨l, rows, rfl, _⟩ := h
    rfl
  · obtain ⟨l, rows, rfl, ⟨⟨us, hl, hu⟩, lev, ok⟩, ln, q⟩ := h
    have hr_Node_init : Room 2 _ := hr
    refine ⟨_, (pss_cons (ps_set (i := 1) sc_law_made.nd rfl (.inl rfl) (pe_op op_rep (pe_lst (pa_cons pe_non pa_nil)) (pe_callB call_len_seq (by rfl) T.m_len PySem.boot_len (pa_cons (pv 0) pa_nil))))
      (pss_cons (ps_set (i := 2) sc_law_made.nd rfl (.inl rfl) (pe_lst pa_nil))
      (pss_cons (ps_for PassesOwn.never rfl (pi_range3 (by rfl) T.m_range (pa_cons (pe_op op_sub (pe_callB call_len_seq (by rfl) T.m_len PySem.boot_len (pa_cons (pv 0) pa_nil)) pe_int) (pa_cons (pe_un un_neg pe_int) (pa_cons (pe_un un_neg pe_int) pa_nil)))) (pg_name (i := 3) sc_law_made.nd rfl (.inl rfl)) (pss_cons (ps_set (i := 4) sc_law_made.nd rfl (.inl rfl) (pe_ix ix_list (pv 0) (pv 3) (fun _ _ => rfl)))
      (pss_cons (ps_set (i := 5) sc_law_made.nd rfl (.inl rfl) (pe_lst pa_nil))
      (pss_cons (ps_while PassesOwn.never (PW.pt (pw_and (pt_truth (pv 2) (by intro _; rfl)) (pw_and1 (pt_cmpR op_eq (pe_ix ix_tup (pe_ix ix_list (pv 0) (pe_ix ix_list (pv 2) (pe_op op_sub (pe_callB call_len_seq (by rfl) T.m_len PySem.boot_len (pa_cons (pv 2) pa_nil)) pe_int) (fun _ _ => rfl)) (fun _ _ => rfl)) pe_int (fun _ _ => rfl)) (pe_op op_add (pe_ix ix_tup (pv 4) pe_int (fun _ _ => rfl)) pe_int) (nomark _))))) (pss_one (ps_expr (pe_bm PySem.F.plainAttrs_list PySem.F.slot_list_append PySem.F.type_list_append mt_append (pv 5) (pa_cons (pe_ix ix_list (pv 1) (pe_bm0 PySem.F.plainAttrs_list PySem.F.slot_list_pop PySem.F.type_list_pop mt_pop (pv 2)) (fun _ _ => rfl)) pa_nil)))))
      (pss_cons (ps_expr (pe_bm PySem.F.plainAttrs_list PySem.F.slot_list_append PySem.F.type_list_append mt_append (pv 2) (pa_cons (pv 3) pa_nil)))
      (pss_one (ps_if (PW.pt (pw_and (pt_cmpR op_eq (pe_op op_mod (pv 3) pe_int) pe_int (nomark _)) (pw_and (pt_cmpR op_eq (pe_ix ix_tup (pv 4) pe_int (fun _ _ => rfl)) (pe_un un_neg pe_int) (nomark _)) (pw_and (pt_cmpR op_eq (pe_ix ix_tup (pv 4) pe_int (fun _ _ => rfl)) pe_int (nomark _)) (pw_and1 (pt_not (pt_truth (pv 5) (by intro _; rfl)))))))) (pss_one (ps_asg (pe_makeK (n := 2) T.MK_Node G_Node_init hr_Node_init (by rfl) T.G_Node (kb_Node4 T).choose_spec pass0 (pa_cons (pe_ix ix_tup (pv 4) pe_int (fun _ _ => rfl)) (pa_cons (pe_ix ix_tup (pv 4) pe_int (fun _ _ => rfl)) pa_nil)) (pk_cons (pe_ix ix_tup (pv 4) pe_int (fun _ _ => rfl)) (pk_cons (pe_ix ix_tup (pv 4) pe_int (fun _ _ => rfl)) (pk_cons (pe_ix ix_tup (pv 4) pe_int (fun _ _ => rfl)) (pk_cons (pe_ix ix_tup (pv 4) pe_int (fun _ _ => rfl)) pk_nil))))) (pg_sub (pv 1) (pv 3) set_list))) (pss_cons (ps_set (i := 5) sc_law_made.nd rfl (.inl rfl) (pe_callTy call_tuple_of (by rfl) T.m_tuple (by decide +kernel) (pa_cons (pv 5) pa_nil)))
      (pss_one (ps_asg (pe_makeK (n := 2) T.MK_Node G_Node_init hr_Node_init (by rfl) T.G_Node (kb_Node7 T).choose_spec pass0 (pa_cons (pe_ix ix_tup (pv 4) pe_int (fun _ _ => rfl)) (pa_cons (pe_ix ix_tup (pv 4) pe_int (fun _ _ => rfl)) pa_nil)) (pk_cons (pe_ix ix_tup (pv 4) pe_int (fun _ _ => rfl)) (pk_cons (pe_ix ix_tup (pv 4) pe_int (fun _ _ => rfl)) (pk_cons (pe_ix ix_tup (pv 4) pe_int (fun _ _ => rfl)) (pk_cons (pe_ix ix_tup (pv 4) pe_int (fun _ _ => rfl)) (pk_cons (pe_ix ix_tup (pv 4) pe_int (fun _ _ => rfl)) (pk_cons (pv 5) (pk_cons (pe_ix ix_tup (pv 4) pe_int (fun _ _ => rfl)) pk_nil)))))))) (pg_sub (pv 1) (pv 3) set_list)))))))))))
      (pss_one (ps_ret (pv 1)))))), ?_⟩
    have lus := paired_len hu
    refine ⟨by show 1 ≤ sizeLine; decide, fun p np => ?_⟩
    refine ⟨_, rfl, l, us, rfl, .inl (SqL.of ((same_upd np) _ _ hl)), ?_⟩
    rw [lus]
    have en : (List.replicate ((rows.length : Nat) : Int).toNat [V.non]).flatten = List.replicate rows.length V.non := by
      rw [show ((rows.length : Nat) : Int).toNat = rows.length by omega]
      induction rows.length with
      | zero => rfl
      | succ m ih => rw [List.replicate_succ, List.replicate_succ, List.flatten_cons, ih]; rfl
    refine ⟨p, _, _, rfl, rfl, upd_same, by omega, by omega, by show 1 * _ ≤ _; exact Nat.le_trans (show 1 * ((rows.length : Nat) : Int).toNat ≤ 5000 by omega) (by decide), fun m nm => ?_⟩
    rw [en]
    refine ⟨by show 0 ≤ sizeLine; decide, fun w nw => ?_⟩
    have s1 := same_upd (o := .lst [V.non]) np
    have s2 := same_upd (o := .lst (List.replicate rows.length V.non)) nm
    have nm0 : H m = none := s1.free nm
    have nw0 : H w = none := (s1.trans s2).free nw
    have hm0 : (upd (upd H p (.lst [V.non])) m (.lst (List.replicate rows.length V.non))) m = some (.lst (List.replicate rows.length V.non)) := upd_same
    have hmw : m ≠ w := ne_of_none hm0 nw
    have s3 := same_upd (o := .lst []) nw
    have s03 := (s1.trans s2).trans s3
    refine ⟨_, rfl, l, us, rfl, .inl (SqL.of (s03 _ _ hl)), ?_⟩
    rw [lus]
    refine ⟨_, _, rfl, rfl, 1, rfl, 1, rfl, _, _, _, rows.length, rfl, rg_down (by omega), ?_⟩
    refine for_it (walk_rangeC (lo := ((rows.length : Nat) : Int) - 1) (c := -1) (n := rows.length)) (fun i σ H' => i ≤ rows.length ∧ ∃ (as : List Addr) (js : List Nat) (y3 y4 y5 : Option V), σ = [some (.ref l), some (.ref m), some (.ref w), y3, y4, y5] ∧ MadeSt K T.C_Node rows H m w i as js H')
      ⟨Nat.zero_le _, [], [], none, none, none, rfl, s03, rfl, by rw [Nat.sub_zero, List.map_nil, List.append_nil]; exact s3 _ _ hm0, upd_same, ?_, ?_⟩ (fun _ _ _ _ _ => True.intro) ?_ ?_
    · have e : rasOf (rows.drop (rows.length - 0)) [] = [] := by
        unfold rasOf
        rw [List.zip_nil_right]
        rfl
      rw [e]
      exact .nil
    · have e : rasOf (rows.drop (rows.length - 0)) [] = [] := by
        unfold rasOf
        rw [List.zip_nil_right]
        rfl
      rw [e]
      exact fun p hp => absurd hp List.not_mem_nil
    · rintro i x σ H1 H2 hi ⟨_, as, js, y3, y4, y5, rfl, S⟩ ⟨rfl, hxe⟩
      obtain ⟨k, hk⟩ : ∃ k, k = rows.length - 1 - i := ⟨_, rfl⟩
      have ek : ((rows.length : Nat) : Int) - 1 + ((i : Nat) : Int) * -1 = (k : Int) := by omega
      have kn : k < rows.length := by omega
      obtain ⟨rk, hrk⟩ : ∃ r, rows[k]? = some r := ⟨_, List.getElem?_eq_getElem kn⟩
      obtain ⟨x', hx', g, rfl, hg0⟩ := paired_get hu hrk
      have hl2 := S.same _ _ hl
      obtain rfl : x = V.int (k : Int) := hxe.trans (congrArg V.int ek)
      refine ⟨_, rfl, _, rfl, l, us, _, _, rfl, rfl, SqL.of hl2, atI_nat hx', ?_⟩
      refine ⟨by show 0 ≤ sizeLine; decide, fun b nb => ?_⟩
      obtain ⟨G, hG⟩ : ∃ G, G = grow (rasOf (rows.drop (rows.length - i)) as) := ⟨_, rfl⟩
      obtain ⟨M, hM⟩ : ∃ M, M = List.replicate (rows.length - i) V.non ++ as.map V.ref := ⟨_, rfl⟩
      have pr0 := S.pr
      have nd0 := S.nd
      have hm2 := S.hm
      rw [← hG, ← hM] at pr0
      rw [← hG] at nd0
      rw [← hM] at hm2
      have ljs : js.length ≤ 5000 := by
        rw [paired_len pr0, hG]
        have e := grow_len (rasOf (rows.drop (rows.length - i)) as)
        have e2 : (rasOf (rows.drop (rows.length - i)) as).length ≤ rows.length := by
          unfold rasOf
          rw [List.length_map, List.length_zip, List.length_drop]
          omega
        omega
      have sb : Same H2 (upd H2 b (.lst [])) := same_upd nb
      have nb0 : H b = none := S.same.free nb
      have hmb : m ≠ b := ne_of_none hm2 nb
      have hwb : w ≠ b := ne_of_none S.hw nb
      refine while_nat (m0 := G.length) (fun mm σ H' => ∃ (bt rest : List Lt) (js2 : List Nat), σ = [some (.ref l), some (.ref m), some (.ref w), some (.int (k : Int)), some (.ref g), some (.ref b)] ∧ mm = rest.length ∧ G = bt ++ rest ∧ (∀ p ∈ bt, p.1 = rk.1 + 1) ∧
          Same H H' ∧ Keeps K T.C_Node H2 H' ∧ H' m = some (.lst M) ∧ H' w = some (.lst (js2.reverse.map fun (j : Nat) => V.int j)) ∧ H' b = some (.lst (bt.map fun p => V.ref p.2.at)) ∧
          Paired (fun (j : Nat) (p : Lt) => (∃ d, rows[j]? = some (p.1, d)) ∧ M[j]? = some (.ref p.2.at)) js2 rest)
        (fun σ H' => ∃ (bt rest : List Lt) (js2 : List Nat), σ = [some (.ref l), some (.ref m), some (.ref w), some (.int (k : Int)), some (.ref g), some (.ref b)] ∧ G = bt ++ rest ∧ (∀ p ∈ bt, p.1 = rk.1 + 1) ∧ (∀ x, rest.head? = some x → ¬ x.1 = rk.1 + 1) ∧
          Same H H' ∧ Keeps K T.C_Node H2 H' ∧ H' m = some (.lst M) ∧ H' w = some (.lst (js2.reverse.map fun (j : Nat) => V.int j)) ∧ H' b = some (.lst (bt.map fun p => V.ref p.2.at)) ∧
          Paired (fun (j : Nat) (p : Lt) => (∃ d, rows[j]? = some (p.1, d)) ∧ M[j]? = some (.ref p.2.at)) js2 rest)
        ⟨[], G, js, rfl, rfl, rfl, fun p hp => absurd hp List.not_mem_nil, S.same.trans sb, Keeps.of sb, sb _ _ hm2, sb _ _ S.hw, upd_same, pr0⟩ ?_ ?_
      · rintro mm σ H3 ⟨bt, rest, js2, rfl, rfl, eG, hbt, sm3, kp3, hm3, hw3, hb3, pr3⟩
        have hl3 := sm3 _ _ hl
        have hg3 := sm3 _ _ hg0
        have lpr := paired_len pr3
        have lj2 : js2.length ≤ js.length := by
          have e1 := paired_len pr0
          rw [eG, List.length_append] at e1
          omega
        have hk0 : atI (rwV rk) 0 = some (.int rk.1) := rfl
        cases rest with
        | nil =>
          obtain rfl : js2 = [] := List.eq_nil_of_length_eq_zero (by rw [lpr]; rfl)
          refine ⟨false, fun Q hQ => ?_, fun z => (by cases z), fun _ => ?_⟩
          · exact ⟨_, rfl, false, .inl ⟨_, SqL.of hw3, rfl⟩, iteF hQ⟩
          · exact ⟨bt, [], [], rfl, eG, hbt, fun x hx => (by cases hx), sm3, kp3, hm3, hw3, hb3, .nil⟩
        | cons pt rest =>
          obtain ⟨j, js2, rfl⟩ : ∃ j js', js2 = j :: js' := by
            cases js2 with
            | nil => cases lpr
            | cons j js' => exact ⟨j, js', rfl⟩
          obtain ⟨⟨d, hrj⟩, hMj⟩ : (∃ d, rows[j]? = some (pt.1, d)) ∧ M[j]? = some (.ref pt.2.at) := by
            cases pr3 with
            | cons h t => exact h
          obtain ⟨xj, hxj, gj, rfl, hgj0⟩ := paired_get hu hrj
          have hgj := sm3 _ _ hgj0
          have wl : ((j :: js2).reverse.map fun (j : Nat) => V.int j).length = js2.length + 1 := by
            rw [List.length_map, List.length_reverse, List.length_cons]
          have wlast : atI ((j :: js2).reverse.map fun (j : Nat) => V.int j) ((js2.length + 1 : Nat) - 1 : Int) = some (.int (j : Int)) := by
            rw [show ((js2.length + 1 : Nat) : Int) - 1 = (js2.length : Int) by omega]
            refine atI_nat ?_
            rw [List.getElem?_map, List.reverse_cons, List.getElem?_append_right (by rw [List.length_reverse]; exact Nat.le_refl _), List.length_reverse, Nat.sub_self]
            rfl
          refine ⟨decide (pt.1 = rk.1 + 1), fun Q hQ => ?_, fun c => ?_, fun c => ?_⟩
          · refine ⟨_, rfl, true, .inl ⟨_, SqL.of hw3, ?_⟩, iteT ?_⟩
            · rw [List.reverse_cons, List.map_append]
              simp
            refine ⟨_, rfl, _, rfl, _, rfl, w, _, rfl, .inl (SqL.of hw3), ?_⟩
            rw [wl]
            refine ⟨_, _, rfl, rfl, w, _, _, _, rfl, rfl, SqL.of hw3, wlast, l, us, _, _, rfl, rfl, SqL.of hl3, atI_nat hxj, gj, _, 0, .int pt.1, rfl, rfl, SqT.of hgj, rfl, ?_⟩
            refine ⟨_, rfl, g, _, 0, .int rk.1, rfl, rfl, SqT.of hg3, rfl, _, _, rfl, rfl, rfl, ?_⟩
            have e : decide (V.int pt.1 = (fun i j : Int => V.int (i + j)) rk.1 1) = decide (pt.1 = rk.1 + 1) := decide_eq_decide.mpr ⟨fun h => by injection h, fun h => by rw [h]⟩
            refine ⟨_, rfl, ?_⟩
            rw [e]
            exact hQ
          · have c := of_decide_eq_true c
            have bl : bt.length + (pt :: rest).length = G.length := by rw [eG, List.length_append]
            have lG := paired_len pr0
            have b1 : (bt.map fun p => V.ref p.2.at).length ≤ 5000 := by
              rw [List.length_map]
              omega
            have wrev : ((j :: js2).reverse.map fun (j : Nat) => V.int j) = (js2.reverse.map fun (j : Nat) => V.int j) ++ [V.int j] := by
              rw [List.reverse_cons, List.map_append]
              rfl
            have hb3' := hb3
            rw [wrev] at hw3
            have gl : ((js2.reverse.map fun (j : Nat) => V.int j) ++ [V.int (j : Int)])[((js2.reverse.map fun (j : Nat) => V.int j) ++ [V.int (j : Int)]).length - 1]? = some (V.int (j : Int)) := by
              rw [List.length_append, List.length_singleton, Nat.add_sub_cancel, List.getElem?_append_right (Nat.le_refl _), Nat.sub_self]
              rfl
            refine ⟨_, rfl, .inl ⟨rfl, _, SqL.of hb3⟩, _, rfl, _, rfl, .inl ⟨rfl, _, SqL.of hw3⟩, w, _, .int (j : Int), rfl, rfl, hw3, gl, ?_⟩
            rw [List.dropLast_concat]
            have hm4 : (upd H3 w (.lst (js2.reverse.map fun (j : Nat) => V.int j))) m = some (.lst M) := by rw [upd_ne hmw]; exact hm3
            have hb4 : (upd H3 w (.lst (js2.reverse.map fun (j : Nat) => V.int j))) b = some (.lst (bt.map fun p => V.ref p.2.at)) := by rw [upd_ne hwb.symm]; exact hb3
            refine ⟨m, M, _, _, rfl, rfl, SqL.of hm4, atI_nat hMj, b, _, _, rfl, rfl, hb4, sz2 (by omega), ?_⟩
            refine ⟨rest.length, Nat.lt_succ_self _, bt ++ [pt], rest, js2, rfl, rfl, by rw [eG, List.append_assoc]; rfl, fun p hp => ?_, same_mut (same_mut sm3 nw0) nb0, kp3.trans ((Keeps.lst hw3).trans (Keeps.lst hb4)), ?_, ?_, ?_, ?_⟩
            · rcases List.mem_append.mp hp with h | h
              · exact hbt p h
              · rw [List.mem_singleton.mp h]
                exact c
            · rw [upd_ne hmb]
              exact hm4
            · rw [upd_ne hwb]
              exact upd_same
            · rw [upd_same, List.map_append]
              rfl
            · cases pr3 with
              | cons h t => exact t
          · exact ⟨bt, pt :: rest, j :: js2, rfl, eG, hbt, fun x hx => by obtain rfl : pt = x := Option.some.inj hx; exact of_decide_eq_false c, sm3, kp3, hm3, hw3, hb3, pr3⟩
      · rintro σ H3 ⟨bt, rest, js2, rfl, eG, hbt, hrest, sm3, kp3, hm3, hw3, hb3, pr3⟩
        have lpr := paired_len pr3
        have l2 : js2.length ≤ 5000 := by
          have e1 := paired_len pr0
          rw [eG, List.length_append] at e1
          omega
        obtain ⟨lk, d⟩ := rk
        refine ⟨_, rfl, .inl ⟨rfl, _, SqL.of hw3⟩, _, rfl, w, _, _, rfl, rfl, hw3, sz2 (by rw [List.length_map, List.length_reverse]; omega), ?_⟩
        have wk : ((js2.reverse.map fun (j : Nat) => V.int j) ++ [V.int (k : Int)]) = ((k :: js2).reverse.map fun (j : Nat) => V.int j) := by
          rw [List.reverse_cons, List.map_append]
          rfl
        rw [wk]
        obtain ⟨H4, hH4⟩ : ∃ H4, H4 = upd H3 w (.lst ((k :: js2).reverse.map fun (j : Nat) => V.int j)) := ⟨_, rfl⟩
        rw [← hH4]
        have hm4 : H4 m = some (.lst M) := by rw [hH4, upd_ne hmw]; exact hm3
        have hw4 : H4 w = some (.lst ((k :: js2).reverse.map fun (j : Nat) => V.int j)) := by rw [hH4]; exact upd_same
        have hb4 : H4 b = some (.lst (bt.map fun p => V.ref p.2.at)) := by rw [hH4, upd_ne hwb.symm]; exact hb3
        have sm4 : Same H H4 := by rw [hH4]; exact same_mut sm3 nw0
        have kp4 : Keeps K T.C_Node H2 H4 := by rw [hH4]; exact kp3.trans (Keeps.lst hw3)
        have hg4 := sm4 _ _ hg0
        have at_ : ∀ (n : Nat) (v : V), (rwV (lk, d))[n]? = some v → atI (rwV (lk, d)) (n : Int) = some v := fun n v h => atI_nat h
        have tail : ∀ (x : Addr) (H5 : Hp), Same H4 H5 → NodeAt K T.C_Node H5 (.mk x d (bt.map Prod.snd)) → MadeSt K T.C_Node rows H m w (i + 1) (x :: as) (k :: js2) (upd H5 m (.lst (M.set k (.ref x)))) := fun x H5 s5 nx => by
          have hm5 := s5 _ _ hm4
          have kp5 : Keeps K T.C_Node H2 (upd H5 m (.lst (M.set k (.ref x)))) := kp4.trans ((Keeps.of s5).trans (Keeps.lst hm5))
          have edrop : rows.drop (rows.length - (i + 1)) = (lk, d) :: rows.drop (rows.length - i) := by
            rw [show rows.length - (i + 1) = k by omega, show rows.length - i = k + 1 by omega]
            exact drop_at hrk
          have eras : rasOf (rows.drop (rows.length - (i + 1))) (x :: as) = (lk, d, x) :: rasOf (rows.drop (rows.length - i)) as := by
            rw [edrop]
            rfl
          have tw := take_while_is (f := fun p : Lt => p.1 == lk + 1) (a := bt) (b := rest) (fun p hp => by simpa using hbt p hp) (fun p hp => by simpa using hrest p hp)
          have eg : grow (rasOf (rows.drop (rows.length - (i + 1))) (x :: as)) = (lk, .mk x d (bt.map Prod.snd)) :: rest := by
            rw [eras]
            show (lk, Tr.mk x d (((grow (rasOf (rows.drop (rows.length - i)) as)).takeWhile fun p => p.1 == lk + 1).map Prod.snd)) :: ((grow (rasOf (rows.drop (rows.length - i)) as)).dropWhile fun p => p.1 == lk + 1) = _
            rw [← hG, eG, tw.1, tw.2]
          have eM : M.set k (.ref x) = List.replicate (rows.length - (i + 1)) V.non ++ (x :: as).map V.ref := by
            rw [hM, show rows.length - i = k + 1 by omega, show rows.length - (i + 1) = k by omega]
            exact set_rep k _ []
          have Mk : M[k]? = some V.non := by
            rw [hM, show rows.length - i = k + 1 by omega, List.getElem?_append_left (by rw [List.length_replicate]; omega), List.getElem?_replicate, if_pos (Nat.lt_succ_self _)]
          have lM : k < M.length := by
            rw [List.getElem?_eq_some_iff] at Mk
            exact Mk.1
          refine ⟨same_mut (sm4.trans s5) nm0, by rw [List.length_cons, S.len], by rw [upd_same, eM], by rw [upd_ne hmw.symm]; exact s5 _ _ hw4, ?_, ?_⟩
          · rw [eg, ← eM]
            refine .cons ⟨⟨d, hrk⟩, ?_⟩ (Paired.mapP pr3 fun j p h => ⟨h.1, ?_⟩)
            · rw [List.getElem?_set_self lM]
              rfl
            · rw [List.getElem?_set_ne]
              · exact h.2
              · rintro rfl
                have := h.2
                rw [Mk] at this
                cases this
          · rw [eg]
            intro p hp
            rcases List.mem_cons.mp hp with rfl | hp
            · exact nx.keep (Keeps.lst hm5)
            · exact (nd0 p (by rw [eG]; exact List.mem_append_right _ hp)).keep kp5
        have ixM : ixN M.length (k : Int) = some k := by
          have lM : M.length = rows.length := by
            rw [hM, List.length_append, List.length_replicate, List.length_map, S.len]
            omega
          unfold ixN
          rw [if_pos (by omega), if_pos (by omega)]
          rfl
        refine d_if (v := .non) ?_
        refine if_2 (fun H' => H' = H4) (d.alt = -1 ∧ d.pop = 0 ∧ bt = [] ∧ k % 2 = 0) (fun Qb qb => ?_) (fun c H' e => ?_) (fun c H' e => ?_)
        · have ff : ∀ {A : Prop}, ¬ A → ((false = true) ↔ A) := fun n => ⟨fun z => (by cases z), fun a => absurd a n⟩
          refine ⟨_, rfl, _, _, rfl, rfl, by show (0 : Int) < 2; decide, rfl, _, rfl, ite2 (fun c1 => ?_) (fun c1 => qb false _ rfl (ff fun h => c1 (decide_eq_true (congrArg V.int (show (k : Int) % 2 = 0 by omega)))))⟩
          have c1' : V.int ((k : Int) % 2) = V.int 0 := of_decide_eq_true c1
          injection c1' with c1'
          refine ⟨_, rfl, g, _, 7, _, rfl, rfl, SqT.of hg4, at_ 7 _ rfl, 1, rfl, rfl, _, rfl, ite2 (fun c2 => ?_) (fun c2 => qb false _ rfl (ff fun h => c2 (decide_eq_true (congrArg V.int h.1))))⟩
          have c2' : V.int d.alt = V.int (-1) := of_decide_eq_true c2
          injection c2' with c2'
          refine ⟨_, rfl, g, _, 8, _, rfl, rfl, SqT.of hg4, at_ 8 _ rfl, rfl, _, rfl, ite2 (fun c3 => ?_) (fun c3 => qb false _ rfl (ff fun h => c3 (decide_eq_true (congrArg V.int h.2.1))))⟩
          have c3' : V.int d.pop = V.int 0 := of_decide_eq_true c3
          injection c3' with c3'
          refine ⟨_, rfl, _, .inl ⟨_, SqL.of hb4, rfl⟩, qb _ _ rfl ?_⟩
          cases bt with
          | nil => exact ⟨fun _ => ⟨c2', c3', rfl, by omega⟩, fun _ => rfl⟩
          | cons x bt => exact ⟨fun z => (by cases z), fun h => absurd h.2.2.1 (by simp)⟩
        · cases e
          obtain ⟨ca, cp, rfl, _⟩ := c
          refine ⟨_, rfl, g, _, 1, _, rfl, rfl, SqT.of hg4, at_ 1 _ rfl, _, rfl, g, _, 2, _, rfl, rfl, SqT.of hg4, at_ 2 _ rfl, _, rfl, g, _, 3, _, rfl, rfl, SqT.of hg4, at_ 3 _ rfl, _, rfl, g, _, 4, _, rfl, rfl, SqT.of hg4, at_ 4 _ rfl, _, rfl, g, _, 5, _, rfl, rfl, SqT.of hg4, at_ 5 _ rfl, _, rfl, g, _, 6, _, rfl, rfl, SqT.of hg4, at_ 6 _ rfl, rfl, rfl, fun x dx nx ndx hne => ?_⟩
          obtain ⟨oc, n0, sl, ht0⟩ := T.t0_Node
          have sq : ∀ H', SqT K H' T.T0_Node [] := fun H' => .inr ⟨_, #[], n0, ht0, rfl, rfl, Nat.zero_le _, .nil⟩
          refine ⟨x, dx, T.T0_Node, d, [], upd_same, by rw [ca, cp]; rfl, .inl ⟨sq _, rfl, ?_⟩⟩
          have s5 : Same H4 (upd (upd H4 dx (.own x)) x (.ins T.C_Node dx (nfl d T.T0_Node))) := (same_upd ndx).trans (same_upd (by rw [upd_ne hne.symm]; exact nx))
          have hm5 := s5 _ _ hm4
          rw [upd_upd]
          refine ⟨_, rfl, _, rfl, m, M, _, k, rfl, rfl, hm5, ixM, ?_⟩
          exact ⟨by omega, _, _, _, _, _, rfl, tail x _ s5 ⟨⟨dx, T.T0_Node, upd_same, sq _⟩, True.intro⟩⟩
        · cases e
          refine ⟨_, rfl, b, _, rfl, .inl ⟨SqL.of hb4, fun tp ntp => ?_⟩⟩
          have st := same_upd (o := .tup (bt.map fun p => V.ref p.2.at)) ntp
          have hg5 := st _ _ hg4
          refine ⟨_, rfl, g, _, 1, _, rfl, rfl, SqT.of hg5, at_ 1 _ rfl, _, rfl, g, _, 2, _, rfl, rfl, SqT.of hg5, at_ 2 _ rfl, _, rfl, g, _, 3, _, rfl, rfl, SqT.of hg5, at_ 3 _ rfl, _, rfl, g, _, 4, _, rfl, rfl, SqT.of hg5, at_ 4 _ rfl, _, rfl, g, _, 5, _, rfl, rfl, SqT.of hg5, at_ 5 _ rfl, _, rfl, g, _, 6, _, rfl, rfl, SqT.of hg5, at_ 6 _ rfl, _, rfl, g, _, 7, _, rfl, rfl, SqT.of hg5, at_ 7 _ rfl, _, rfl, _, rfl, g, _, 8, _, rfl, rfl, SqT.of hg5, at_ 8 _ rfl, rfl, rfl, fun x dx nx ndx hne => ?_⟩
          have s4 : Same (upd H4 tp (.tup (bt.map fun p => V.ref p.2.at))) (upd (upd (upd H4 tp (.tup (bt.map fun p => V.ref p.2.at))) dx (.own x)) x (.ins T.C_Node dx [])) := (same_upd ndx).trans (same_upd (by rw [upd_ne hne.symm]; exact nx))
          have s5 : Same H4 (upd (upd (upd H4 tp (.tup (bt.map fun p => V.ref p.2.at))) dx (.own x)) x (.ins T.C_Node dx (nfl d tp))) := st.trans ((same_upd (o := .own x) ndx).trans (same_upd (by rw [upd_ne hne.symm]; exact nx)))
          have htp : (upd H4 tp (.tup (bt.map fun p => V.ref p.2.at))) tp = some (.tup (bt.map fun p => V.ref p.2.at)) := upd_same
          refine ⟨x, dx, tp, d, _, upd_same, rfl, .inl ⟨SqT.of (s4 _ _ htp), rfl, ?_⟩⟩
          have hm5 := s5 _ _ hm4
          rw [upd_upd]
          refine ⟨_, rfl, _, rfl, m, M, _, k, rfl, rfl, hm5, ixM, ?_⟩
          refine ⟨by omega, _, _, _, _, _, rfl, tail x _ s5 ⟨⟨dx, tp, upd_same, ?_⟩, ?_⟩⟩
          · rw [List.map_map]
            refine SqT.of ?_
            have e1 := ((same_upd (o := .own x) ndx).trans (same_upd (o := .ins T.C_Node dx (nfl d tp)) (by rw [upd_ne hne.symm]; exact nx))) _ _ htp
            exact e1
          · refine NodesAt.of fun t ht => ?_
            obtain ⟨p, hp, rfl⟩ := List.mem_map.mp ht
            exact (nd0 p (by rw [eG]; exact List.mem_append_left _ hp)).keep (kp4.trans (Keeps.of s5))
    · rintro σ H1 ⟨_, as, js, y3, y4, y5, rfl, S⟩
      have hm9 := S.hm
      have nd9 := S.nd
      rw [Nat.sub_self, List.replicate_zero, List.nil_append] at hm9
      rw [Nat.sub_self, List.drop_zero] at nd9
      have lras : (rasOf rows as).map Prod.fst = rows.map Prod.fst := by
        unfold rasOf
        rw [List.map_map]
        have key : ∀ (rs : List Rw) (bs : List Addr), rs.length ≤ bs.length → (rs.zip bs).map (Prod.fst ∘ fun x : Rw × Addr => ((x.1.1, x.1.2, x.2) : Ra)) = rs.map Prod.fst := fun rs => by
          induction rs with
          | nil => exact fun _ _ => rfl
          | cons r rs ih =>
            intro bs hb
            cases bs with
            | nil => exact absurd hb (by simp)
            | cons b bs =>
              exact congrArg (r.1 :: ·) (ih bs (by simpa using hb))
        exact key rows as (by rw [S.len]; exact Nat.le_refl _)
      obtain ⟨ls, e0, h1, h2⟩ := lev
      obtain ⟨r0, rs0, er⟩ : ∃ r rs, rasOf rows as = r :: rs := by
        cases h : rasOf rows as with
        | nil =>
          rw [h, e0] at lras
          cases lras
        | cons r rs => exact ⟨r, rs, rfl⟩
      have lras2 := lras
      rw [er, e0] at lras2
      have lras2 : r0.1 :: rs0.map Prod.fst = 0 :: ls := lras2
      injection lras2 with k1 k2
      obtain ⟨t, ht⟩ := grow_one (r := r0) (rs := rs0) (by show Lad (r0.1 :: rs0.map Prod.fst); rw [k1, k2, ← e0]; exact h2) k1 (fun x hx => h1 _ (by rw [← k2]; exact List.mem_map_of_mem hx))
      rw [← er] at ht
      have fl := grow_flat (rasOf rows as)
      rw [ht] at fl nd9
      have ft : t.ras 0 = rasOf rows as := by
        rw [← fl]
        show _ = t.ras 0 ++ []
        rw [List.append_nil]
      exact ⟨_, rfl, q m as t H1 S.same nm0 hm9 S.len ft (nd9 _ List.mem_cons_self)⟩

/-! ### a tree told as rows -/
theorem sqT_ty {K : PySem.W.Frag} {H : Hp} {a : Addr} {xs : List V} (h : SqT K H a xs) : TyX K H (.ref a) (.type "tuple") := by
  rcases h with (h | ⟨o, h⟩) | ⟨o, its, n, h1, h2, _⟩
  · exact .base (.tup h)
  · exact .fTuple h
  · exact .kTuple h1 h2
mutual
theorem rows_len (l : Int) : ∀ t : Tr, (t.ras l).length = (t.rows l).length
  | .mk p d ks => congrArg (· + 1) (rowsL_len (l + 1) ks)
theorem rowsL_len (l : Int) : ∀ ts : List Tr, (rasL l ts).length = (rowsL l ts).length
  | [] => rfl
  | t :: ts => by
    show (t.ras l ++ rasL l ts).length = (t.rows l ++ rowsL l ts).length
    rw [List.length_append, List.length_append, rows_len l t, rowsL_len l ts]
end
mutual
theorem rows_ras (l : Int) : ∀ t : Tr, t.rows l = (t.ras l).map fun x => (x.1, x.2.1)
  | .mk p d ks => congrArg ((l, d) :: ·) (rowsL_ras (l + 1) ks)
theorem rowsL_ras (l : Int) : ∀ ts : List Tr, rowsL l ts = (rasL l ts).map fun x => (x.1, x.2.1)
  | [] => rfl
  | t :: ts => by
    show t.rows l ++ rowsL l ts = (t.ras l ++ rasL l ts).map _
    rw [List.map_append, rows_ras l t, rowsL_ras l ts]
end
/-- rows that are still to come -/
def flatR (ps : List Lt) : List Rw := (ps.map fun p => p.2.rows p.1).flatten
theorem flatR_kids (l : Int) : ∀ ks : List Tr, flatR (ks.map fun t => (l, t)) = rowsL l ks
  | [] => rfl
  | t :: ks => by
    show t.rows l ++ flatR (ks.map fun t => (l, t)) = t.rows l ++ rowsL l ks
    rw [flatR_kids l ks]
theorem flatR_app (ps qs : List Lt) : flatR (ps ++ qs) = flatR ps ++ flatR qs := by
  unfold flatR
  rw [List.map_append, List.flatten_append]
theorem rowsL_ge (l : Int) : ∀ ts : List Tr, ts.length ≤ (rowsL l ts).length
  | [] => Nat.le_refl _
  | .mk p d ks :: ts => by
    have ih := rowsL_ge l ts
    show ts.length + 1 ≤ (((l, d) :: rowsL (l + 1) ks) ++ rowsL l ts).length
    rw [List.length_append, List.length_cons]
    omega
theorem kids_le (l : Int) : ∀ t : Tr, t.ks.length ≤ (t.rows l).length
  | .mk p d ks => Nat.le_succ_of_le (rowsL_ge (l + 1) ks)
theorem Tups.of {H H' : Hp} (s : Same H H') : Tups H H' := fun b xs h => s b _ h
theorem Tups.but {H H' : Hp} {b : Addr} {xs : List V} (h : H b = some (.lst xs)) (k : But b H H') : Tups H H' := fun c ys e => k c _ (fun z => by rw [z, h] at e; cases e) e
theorem Keeps.but {K : PySem.W.Frag} {C : Addr} {H H' : Hp} {b : Addr} {xs : List V} (h : H b = some (.lst xs)) (k : But b H H') : Keeps K C H H' :=
  ⟨fun q dx d tp e => k q _ (fun z => by rw [z, h] at e; cases e) e, fun tp us e => by
    rcases e with (e | ⟨x, e⟩) | e
    · exact .inl (.inl (k _ _ (fun z => by rw [z, h] at e; cases e) e))
    · exact .inl (.inr ⟨x, k _ _ (fun z => by rw [z, h] at e; cases e) e⟩)
    · exact .inr e⟩
theorem upd_id {H : Hp} {p : Addr} {o : HO} (h : H p = some o) : upd H p o = H := by
  funext c
  unfold upd
  split
  · rename_i e
    rw [e, h]
  · rfl
theorem flatR_ge : ∀ ps : List Lt, ps.length ≤ (flatR ps).length
  | [] => Nat.le_refl _
  | (l, .mk p d ks) :: ps => by
    have ih := flatR_ge ps
    show ps.length + 1 ≤ (((l, d) :: rowsL (l + 1) ks) ++ flatR ps).length
    rw [List.length_append, List.length_cons]
    omega
def LtAt (H : Hp) (v : V) (p : Lt) : Prop := ∃ g, v = .ref g ∧ H g = some (.tup [.int p.1, .ref p.2.at])
theorem LtAt.tups {H H' : Hp} (t : Tups H H') {v : V} {p : Lt} (h : LtAt H v p) : LtAt H' v p := by
  obtain ⟨g, e, k⟩ := h
  exact ⟨g, e, t _ _ k⟩
def spTold (K : PySem.W.Frag) (C : Addr) : Sp := fun vs H Q _ => ∃ (t : Tr), vs = [.ref t.at, .int ((((t.rows 0).length + 1 : Nat)) : Int)] ∧ NodeAt K C H t ∧ (t.rows 0).length ≤ 5000 ∧
  ∀ l us H', Same H H' → H' l = some (.lst us) → Paired (RwAt H') us (t.rows 0) → Q (.ref l) H'
theorem ok_told (T : Txt K mg) : FnOk P w K mg base CX0 1 T.a_law_told T.fd_law_told ["root", "most"] (spTold K T.C_Node) := by
  refine T.F_law_told.ok sc_law_told (fun vs H Q E h => ?_) (fun cdv A outer s H vs Q E hr h => ?_)
  · obtain ⟨t, rfl, _⟩ := h
    rfl
  · obtain ⟨t, rfl, ht, ln, q⟩ := h
    refine ⟨_, (pss_cons (ps_set (i := 2) sc_law_told.nd rfl (.inl rfl) (pe_lst pa_nil))
      (pss_cons (ps_set (i := 3) sc_law_told.nd rfl (.inl rfl) (pe_lst (pa_cons (pe_tup (pa_cons pe_int (pa_cons (pv 0) pa_nil))) pa_nil)))
      (pss_cons (ps_for PassesOwn.never rfl (pi_range1 (by rfl) T.m_range (pa_cons (pv 1) pa_nil)) (pg_name (i := 4) sc_law_told.nd rfl (.inl rfl)) (pss_cons (ps_if (pt_not (pt_truth (pv 3) (by intro _; rfl))) (pss_one (ps_ret (pv 2))) pss_nil)
      (pss_cons (ps_asg (pe_bm0 PySem.F.plainAttrs_list PySem.F.slot_list_pop PySem.F.type_list_pop mt_pop (pv 3)) (pg_tup (by rfl) (pgs_cons (pg_name (i := 5) sc_law_told.nd rfl (.inl rfl)) (pgs_cons (pg_name (i := 6) sc_law_told.nd rfl (.inl rfl)) pgs_nil))))
      (pss_cons (ps_if (PW.pt (pw_or (pt_not (pt_val (pe_callB (C8.call_isC T.IC_Node) (by rfl) T.m_isinstance (by decide +kernel) (pa_cons (pv 6) (pa_cons (pe_glob (v := .ref T.C_Node) (by rfl) T.G_Node rfl) pa_nil))))) (pw_or1 (pt_not (pt_val (pe_callB call_isi (by rfl) T.m_isinstance (by decide +kernel) (pa_cons (pe_fld (pv 6) rfl) (pa_cons (pe_bltn (v := .ty "tuple") (by rfl) T.m_tuple (by decide +kernel) rfl) pa_nil)))))))) (pss_one (ps_ret (pe_lst pa_nil))) pss_nil)
      (pss_cons (ps_set (i := 7) sc_law_told.nd rfl (.inl rfl) (pe_tup (pa_cons (pe_fld (pv 6) rfl) (pa_cons (pe_fld (pv 6) rfl) (pa_cons (pe_fld (pv 6) rfl) (pa_cons (pe_fld (pv 6) rfl) (pa_cons (pe_fld (pv 6) rfl) (pa_cons (pe_fld (pv 6) rfl) pa_nil))))))))
      (pss_cons (ps_for PassesOwn.never rfl (pi_tup (pv 7)) (pg_name (i := 8) sc_law_told.nd rfl (.inl rfl)) (pss_one (ps_if (PW.pt (pw_or (pt_not (pt_val (pe_callB call_isi (by rfl) T.m_isinstance (by decide +kernel) (pa_cons (pv 8) (pa_cons (pe_bltn (v := .ty "int") (by rfl) T.m_int (by decide +kernel) rfl) pa_nil))))) (pw_or1 (pt_val (pe_callB call_isi (by rfl) T.m_isinstance (by decide +kernel) (pa_cons (pv 8) (pa_cons (pe_bltn (v := .ty "bool") (by rfl) T.m_bool (by decide +kernel) rfl) pa_nil))))))) (pss_one (ps_ret (pe_lst pa_nil))) pss_nil)))
      (pss_cons (ps_if (PW.pt (pw_or (pt_not (pt_val (pe_callB call_isi (by rfl) T.m_isinstance (by decide +kernel) (pa_cons (pe_fld (pv 6) rfl) (pa_cons (pe_bltn (v := .ty "str") (by rfl) T.m_str (by decide +kernel) rfl) pa_nil))))) (pw_or1 (pt_not (pt_val (pe_callB call_isi (by rfl) T.m_isinstance (by decide +kernel) (pa_cons (pe_fld (pv 6) rfl) (pa_cons (pe_bltn (v := .ty "str") (by rfl) T.m_str (by decide +kernel) rfl) pa_nil)))))))) (pss_one (ps_ret (pe_lst pa_nil))) pss_nil)
      (pss_cons (ps_expr (pe_bm PySem.F.plainAttrs_list PySem.F.slot_list_append PySem.F.type_list_append mt_append (pv 2) (pa_cons (pe_op op_catT (pe_tup (pa_cons (pv 5) (pa_cons (pe_fld (pv 6) rfl) (pa_cons (pe_fld (pv 6) rfl) pa_nil)))) (pv 7)) pa_nil)))
      (pss_one (ps_for PassesOwn.never rfl (pi_range3 (by rfl) T.m_range (pa_cons (pe_op op_sub (pe_callB call_len_seq (by rfl) T.m_len PySem.boot_len (pa_cons (pe_fld (pv 6) rfl) pa_nil)) pe_int) (pa_cons (pe_un un_neg pe_int) (pa_cons (pe_un un_neg pe_int) pa_nil)))) (pg_name (i := 9) sc_law_told.nd rfl (.inl rfl)) (pss_one (ps_expr (pe_bm PySem.F.plainAttrs_list PySem.F.slot_list_append PySem.F.type_list_append mt_append (pv 3) (pa_cons (pe_tup (pa_cons (pe_op op_add (pv 5) pe_int) (pa_cons (pe_ix ix_tup (pe_fld (pv 6) rfl) (pv 9) (fun _ _ => rfl)) pa_nil))) pa_nil))))))))))))))
      (pss_one (ps_ret (pe_lst pa_nil)))))), ?_⟩
    refine ⟨by show 0 ≤ sizeLine; decide, fun a na => ?_⟩
    refine ⟨_, rfl, by show 2 ≤ sizeLine; decide, fun g ng => ⟨by show 1 ≤ sizeLine; decide, fun b nb => ?_⟩⟩
    have s1 := same_upd (o := .lst []) na
    have s2 := same_upd (o := .tup [.int 0, .ref t.at]) ng
    have s3 := same_upd (o := .lst [.ref g]) nb
    have s03 := (s1.trans s2).trans s3
    have ng0 : H g = none := s1.free ng
    have nb0 : H b = none := (s1.trans s2).free nb
    have ha0 : (upd (upd H a (.lst [])) g (.tup [.int 0, .ref t.at])) a = some (.lst []) := s2 _ _ upd_same
    have hab : a ≠ b := ne_of_none ha0 nb
    refine ⟨_, rfl, _, rfl, by omega, by omega, ?_⟩
    refine for_range (lo := 0) (n := ((((t.rows 0).length + 1 : Nat)) : Int).toNat) (fun i σ H' => ∃ (R : List Rw) (us ws : List V) (st : List Lt) (y4 y5 y6 y7 y8 y9 : Option V), σ = [some (.ref t.at), some (.int ((((t.rows 0).length + 1 : Nat)) : Int)), some (.ref a), some (.ref b), y4, y5, y6, y7, y8, y9] ∧
        Same H H' ∧ H' a = some (.lst us) ∧ Paired (RwAt H') us R ∧ R.length = i ∧ H' b = some (.lst ws) ∧ Paired (LtAt H') ws st.reverse ∧ R ++ flatR st = t.rows 0 ∧ ∀ p ∈ st, NodeAt K T.C_Node H' p.2)
      ⟨[], [], [.ref g], [(0, t)], none, none, none, none, none, none, rfl, s03, s3 _ _ ha0, .nil, rfl, upd_same, .cons ⟨g, rfl, s3 _ _ upd_same⟩ .nil, by show [] ++ (t.rows 0 ++ []) = _; rw [List.append_nil]; rfl, fun p hp => by rw [List.mem_singleton.mp hp]; exact ht.keep (Keeps.of s03)⟩ ?_ ?_
    · rintro i σ H1 hi ⟨R, us, ws, st, y4, y5, y6, y7, y8, y9, rfl, sm, ha, hu, lR, hb, hw, eR, nd⟩
      have lw := paired_len hw
      have lu := paired_len hu
      have lRn : R.length ≤ 5000 := by
        have e := congrArg List.length eR
        rw [List.length_append] at e
        omega
      cases st with
      | nil =>
        obtain rfl : ws = [] := List.eq_nil_of_length_eq_zero (by rw [lw]; rfl)
        have eR : R ++ [] = t.rows 0 := eR
        rw [List.append_nil] at eR
        refine ⟨_, rfl, false, .inl ⟨_, SqL.of hb, rfl⟩, iteT ?_⟩
        exact ⟨_, rfl, q a us H1 sm ha (by rw [← eR]; exact hu)⟩
      | cons p st =>
        rw [List.reverse_cons] at hw
        obtain ⟨ws', x, rfl, hw', hx⟩ : ∃ ws' x, ws = ws' ++ [x] ∧ Paired (LtAt H1) ws' st.reverse ∧ LtAt H1 x p := by
          have key : ∀ (qs : List Lt) (vs : List V), Paired (LtAt H1) vs (qs ++ [p]) → ∃ ws' x, vs = ws' ++ [x] ∧ Paired (LtAt H1) ws' qs ∧ LtAt H1 x p := fun qs => by
            induction qs with
            | nil =>
              intro vs h
              cases h with
              | cons r t =>
                cases t
                exact ⟨[], _, rfl, .nil, r⟩
            | cons q0 qs ih =>
              intro vs h
              cases h with
              | cons r t =>
                obtain ⟨ws', x, rfl, h1, h2⟩ := ih _ t
                exact ⟨_ :: ws', x, rfl, .cons r h1, h2⟩
          exact key _ _ hw
        obtain ⟨gp, rfl, hgp⟩ := hx
        refine ⟨_, rfl, true, .inl ⟨_, SqL.of hb, by simp⟩, iteF ?_⟩
        refine ⟨_, rfl, .inl ⟨rfl, _, SqL.of hb⟩, b, _, .ref gp, rfl, rfl, hb, by rw [List.length_append, List.length_singleton, Nat.add_sub_cancel, List.getElem?_append_right (Nat.le_refl _), Nat.sub_self]; rfl, ?_⟩
        rw [List.dropLast_concat]
        have hgp2 : (upd H1 b (.lst ws')) gp = some (.tup [.int p.1, .ref p.2.at]) := (Tups.mut hb) _ _ hgp
        obtain ⟨lp, tp⟩ := p
        obtain ⟨H2, hH2⟩ : ∃ H2, H2 = upd H1 b (.lst ws') := ⟨_, rfl⟩
        rw [← hH2] at hgp2 ⊢
        have sm2 : Same H H2 := by rw [hH2]; exact same_mut sm nb0
        have kp2 : Keeps K T.C_Node H1 H2 := by rw [hH2]; exact Keeps.lst hb
        have hb2 : H2 b = some (.lst ws') := by rw [hH2]; exact upd_same
        have ha2 : H2 a = some (.lst us) := by rw [hH2, upd_ne hab]; exact ha
        have tu2 : Tups H1 H2 := by rw [hH2]; exact Tups.mut hb
        have nt2 := (nd (lp, tp) List.mem_cons_self).keep kp2
        obtain ⟨dx, tn, kn, kt⟩ := nt2.it
        have lk : tp.ks.length ≤ 5000 := by
          have e := congrArg List.length eR
          rw [List.length_append] at e
          have e2 : (flatR ((lp, tp) :: st)).length = (tp.rows lp).length + (flatR st).length := by
            show (tp.rows lp ++ flatR st).length = _
            rw [List.length_append]
          have e3 := kids_le lp tp
          omega
        refine ⟨gp, _, rfl, SqT.of hgp2, rfl, _, _, rfl, _, _, rfl, rfl, ?_⟩
        refine ⟨_, rfl, _, _, _, rfl, kn, true, rfl, iteF ?_⟩
        refine ⟨_, rfl, _, _, _, _, _, rfl, kn, T.CL_Node, T.NA_Node_nodes, nf_nodes _ _, _, _, _, _, true, rfl, .ty _, sqT_ty kt, kit_ty (by decide +kernel), true, rfl, iteF ?_⟩
        refine ⟨_, rfl, _, _, _, _, _, rfl, kn, T.CL_Node, T.NA_Node_state, nf_state _ _, _, rfl, _, _, _, _, _, rfl, kn, T.CL_Node, T.NA_Node_lead, nf_lead _ _, _, rfl, _, _, _, _, _, rfl, kn, T.CL_Node, T.NA_Node_width, nf_width _ _, _, rfl, _, _, _, _, _, rfl, kn, T.CL_Node, T.NA_Node_look, nf_look _ _, _, rfl, _, _, _, _, _, rfl, kn, T.CL_Node, T.NA_Node_alternative, nf_alternative _ _, _, rfl, _, _, _, _, _, rfl, kn, T.CL_Node, T.NA_Node_popped, nf_popped _ _, by show 6 ≤ sizeLine; decide, fun n6 nn6 => ?_⟩
        have s6 := same_upd (o := .tup (numsV tp.d)) nn6
        have h6 : (upd H2 n6 (.tup (numsV tp.d))) n6 = some (.tup (numsV tp.d)) := upd_same
        obtain ⟨H3, hH3⟩ : ∃ H3, H3 = upd H2 n6 (.tup (numsV tp.d)) := ⟨_, rfl⟩
        rw [← hH3] at s6 h6
        have e3 : upd H2 n6 (.tup [.int tp.d.st, .int tp.d.lead, .int tp.d.wid, .int tp.d.look, .int tp.d.alt, .int tp.d.pop]) = H3 := hH3.symm
        rw [e3]
        refine ⟨_, rfl, n6, rfl, ⟨_, SqT.of h6⟩, ?_⟩
        refine for_tup (K := K) (a := n6) (xs := numsV tp.d) (fun _ σ H' => H' = H3 ∧ ∃ y8 : Option V, σ = [some (.ref t.at), some (.int ((((t.rows 0).length + 1 : Nat)) : Int)), some (.ref a), some (.ref b), some (.int (0 + (i : Int))), some (.int lp), some (.ref tp.at), some (.ref n6), y8, y9])
          ⟨rfl, y8, rfl⟩ (fun _ σ H' _ ⟨e, _⟩ => by rw [e]; exact SqT.of h6) ?_ ?_
        · rintro j x σ H' hx ⟨rfl, y8, rfl⟩
          have hm : ∀ v ∈ numsV tp.d, ∃ z : Int, v = .int z := by
            intro v hv
            unfold numsV at hv
            simp only [List.mem_cons, List.not_mem_nil, or_false] at hv
            rcases hv with h | h | h | h | h | h <;> exact ⟨_, h⟩
          obtain ⟨z, rfl⟩ := hm _ (List.mem_of_getElem? hx)
          refine ⟨_, rfl, _, _, _, _, true, rfl, .ty _, .base (.int _), kit_ty (by decide +kernel), true, rfl, iteF ?_⟩
          exact ⟨_, rfl, _, _, _, _, false, rfl, .ty _, .base (.int _), kit_ty (by decide +kernel), false, rfl, iteF ⟨rfl, _, rfl⟩⟩
        · rintro σ H' ⟨rfl, y8, rfl⟩
          have sm3 : Same H H' := sm2.trans s6
          have kn3 := s6 _ _ kn
          have kt3 := (Keeps.of (K := K) (C := T.C_Node) s6).tup _ _ kt
          refine ⟨_, rfl, _, _, _, _, _, rfl, kn3, T.CL_Node, T.NA_Node_kind, nf_kind _ _, _, _, _, _, true, rfl, .ty _, .base (.str _), kit_ty (by decide +kernel), true, rfl, iteF ?_⟩
          refine ⟨_, rfl, _, _, _, _, _, rfl, kn3, T.CL_Node, T.NA_Node_symbol, nf_symbol _ _, _, _, _, _, true, rfl, .ty _, .base (.str _), kit_ty (by decide +kernel), true, rfl, iteF ?_⟩
          have ha3 := s6 _ _ ha2
          have hb3 := s6 _ _ hb2
          refine ⟨_, rfl, .inl ⟨rfl, _, SqL.of ha3⟩, ?_⟩
          refine ⟨_, rfl, _, rfl, _, _, _, _, _, rfl, kn3, T.CL_Node, T.NA_Node_kind, nf_kind _ _, _, rfl, _, _, _, _, _, rfl, kn3, T.CL_Node, T.NA_Node_symbol, nf_symbol _ _, by show 3 ≤ sizeLine; decide, fun g1 ng1 => ?_⟩
          have t1 := same_upd (o := .tup [.int lp, .str tp.d.kind, .str tp.d.sym]) ng1
          refine ⟨_, rfl, g1, n6, _, _, rfl, rfl, SqT.of upd_same, SqT.of (t1 _ _ h6), List.cons_ne_nil _ _, by show 3 + 6 ≤ sizeLine; decide, fun e => (by cases e), fun _ g2 ng2 => ?_⟩
          have t2 := same_upd (o := .tup (rwV (lp, tp.d))) ng2
          have e9 : [V.int lp, V.str tp.d.kind, V.str tp.d.sym] ++ numsV tp.d = rwV (lp, tp.d) := rfl
          rw [e9]
          have t12 := t1.trans t2
          refine ⟨a, _, _, rfl, rfl, t12 _ _ ha3, sz2 (by omega), ?_⟩
          obtain ⟨H4, hH4⟩ : ∃ H4, H4 = upd (upd (upd H' g1 (.tup [.int lp, .str tp.d.kind, .str tp.d.sym])) g2 (.tup (rwV (lp, tp.d)))) a (.lst (us ++ [.ref g2])) := ⟨_, rfl⟩
          rw [← hH4]
          have ha12 := t12 _ _ ha3
          have sm4 : Same H H4 := by rw [hH4]; exact same_mut (sm3.trans t12) na
          have kp4 : Keeps K T.C_Node H1 H4 := by rw [hH4]; exact ((kp2.trans (Keeps.of s6)).trans (Keeps.of t12)).trans (Keeps.lst ha12)
          have tu4 : Tups H1 H4 := by rw [hH4]; exact ((tu2.trans (Tups.of s6)).trans (Tups.of t12)).trans (Tups.mut ha12)
          have ha4 : H4 a = some (.lst (us ++ [.ref g2])) := by rw [hH4]; exact upd_same
          have hb4 : H4 b = some (.lst ws') := by rw [hH4, upd_ne hab.symm]; exact t12 _ _ hb3
          have hg4 : H4 g2 = some (.tup (rwV (lp, tp.d))) := by rw [hH4]; exact (Tups.mut ha12) _ _ upd_same
          have kn4 : H4 tp.at = some (.ins T.C_Node dx (nfl tp.d tn)) := by rw [hH4]; exact (Keeps.lst (K := K) (C := T.C_Node) ha12).ins _ _ _ _ (t12 _ _ kn3)
          have kt4 : SqT K H4 tn (tp.ks.map fun t => V.ref t.at) := by rw [hH4]; exact (Keeps.lst (K := K) (C := T.C_Node) ha12).tup _ _ ((Keeps.of (K := K) (C := T.C_Node) t12).tup _ _ kt3)
          have hu4 : Paired (RwAt H4) (us ++ [.ref g2]) (R ++ [(lp, tp.d)]) := paired_app (Paired.mapP hu fun _ _ h => h.tups tu4) (.cons ⟨g2, rfl, hg4⟩ .nil)
          have hw4 : Paired (LtAt H4) ws' st.reverse := Paired.mapP hw' fun _ _ h => h.tups tu4
          have lw4 := paired_len hw4
          rw [List.length_reverse] at lw4
          refine ⟨_, rfl, _, _, _, _, _, rfl, kn4, T.CL_Node, T.NA_Node_nodes, nf_nodes _ _, tn, _, rfl, .inr kt4, ?_⟩
          rw [List.length_map]
          refine ⟨_, _, rfl, rfl, 1, rfl, 1, rfl, _, _, _, tp.ks.length, rfl, rg_down (by omega), ?_⟩
          refine for_it (walk_rangeC (lo := ((tp.ks.length : Nat) : Int) - 1) (c := -1) (n := tp.ks.length)) (fun j σ H' => But b H4 H' ∧ ∃ (ws2 : List V) (y9 : Option V), σ = [some (.ref t.at), some (.int ((((t.rows 0).length + 1 : Nat)) : Int)), some (.ref a), some (.ref b), some (.int (0 + (i : Int))), some (.int lp), some (.ref tp.at), some (.ref n6), y8, y9] ∧
              H' b = some (.lst ws2) ∧ Paired (LtAt H') ws2 (st.reverse ++ ((tp.ks.drop (tp.ks.length - j)).map fun t => (lp + 1, t)).reverse) ∧ ws2.length = ws'.length + j)
            ⟨But.refl _ _, ws', y9, rfl, hb4, ?_, rfl⟩ (fun _ _ _ _ _ => True.intro) ?_ ?_
          · rw [Nat.sub_zero, List.drop_length, List.map_nil, List.reverse_nil, List.append_nil]
            exact hw4
          · rintro j x σ H5 H6 hj ⟨b5, ws2, y9, rfl, hb5, hw5, l5⟩ ⟨rfl, hxe⟩
            obtain ⟨k, hk⟩ : ∃ k, k = tp.ks.length - 1 - j := ⟨_, rfl⟩
            have ek : ((tp.ks.length : Nat) : Int) - 1 + ((j : Nat) : Int) * -1 = (k : Int) := by omega
            obtain rfl : x = V.int (k : Int) := hxe.trans (congrArg V.int ek)
            obtain ⟨c, hc⟩ : ∃ c, tp.ks[k]? = some c := ⟨_, List.getElem?_eq_getElem (by omega)⟩
            have kp5 := Keeps.but (K := K) (C := T.C_Node) hb4 b5
            have kn5 := kp5.ins _ _ _ _ kn4
            have kt5 := kp5.tup _ _ kt4
            have hc2 : (tp.ks.map fun t => V.ref t.at)[k]? = some (V.ref c.at) := by rw [List.getElem?_map, hc]; rfl
            refine ⟨_, rfl, .inl ⟨rfl, _, SqL.of hb5⟩, _, rfl, _, _, rfl, rfl, _, rfl, _, _, _, _, _, rfl, kn5, T.CL_Node, T.NA_Node_nodes, nf_nodes _ _, _, rfl, tn, _, _, _, rfl, rfl, kt5, atI_nat hc2, by show 2 ≤ sizeLine; decide, fun q nq => ?_⟩
            have e1 : (fun i j : Int => V.int (i + j)) lp 1 = V.int (lp + 1) := rfl
            rw [e1]
            have hb6 := (same_upd (o := .tup [.int (lp + 1), .ref c.at]) nq) _ _ hb5
            have lws : ws'.length ≤ 5000 := by
              rw [lw4]
              have e := congrArg List.length eR
              rw [List.length_append] at e
              have e2 : st.length + 1 ≤ (flatR ((lp, tp) :: st)).length := flatR_ge ((lp, tp) :: st)
              omega
            refine ⟨b, _, _, rfl, rfl, hb6, sz2 (by omega), ?_⟩
            have t6 : Tups H6 (upd (upd H6 q (.tup [.int (lp + 1), .ref c.at])) b (.lst (ws2 ++ [.ref q]))) := (Tups.of (same_upd nq)).trans (Tups.mut hb6)
            refine ⟨fun e o ne he => ?_, ws2 ++ [.ref q], _, rfl, upd_same, ?_, by rw [List.length_append, l5]; rfl⟩
            · rw [upd_ne ne]
              exact (same_upd nq) _ _ (b5 e o ne he)
            · have ed : tp.ks.drop (tp.ks.length - (j + 1)) = c :: tp.ks.drop (tp.ks.length - j) := by
                rw [show tp.ks.length - (j + 1) = k by omega, show tp.ks.length - j = k + 1 by omega]
                exact drop_at hc
              rw [ed, List.map_cons, List.reverse_cons, ← List.append_assoc]
              exact paired_app (Paired.mapP hw5 fun _ _ h => h.tups t6) (.cons ⟨q, rfl, (Tups.mut hb6) _ _ upd_same⟩ .nil)
          · rintro σ H5 ⟨b5, ws2, y9, rfl, hb5, hw5, l5⟩
            have kp5 := Keeps.but (K := K) (C := T.C_Node) hb4 b5
            have tu5 := Tups.but hb4 b5
            rw [Nat.sub_self, List.drop_zero] at hw5
            refine ⟨R ++ [(lp, tp.d)], us ++ [.ref g2], ws2, (tp.ks.map fun t => (lp + 1, t)) ++ st, _, _, _, _, _, _, rfl, ?_, b5 _ _ hab ha4, Paired.mapP hu4 fun _ _ h => h.tups tu5, by rw [List.length_append, lR]; rfl, hb5, by rw [List.reverse_append]; exact hw5, ?_, ?_⟩
            · exact fun e o he => b5 e o (ne_of_none he nb0) (sm4 e o he)
            · rw [flatR_app, flatR_kids, List.append_assoc, ← List.append_assoc [(lp, tp.d)]]
              have e2 : [(lp, tp.d)] ++ rowsL (lp + 1) tp.ks = tp.rows lp := by
                cases tp
                rfl
              rw [e2]
              exact eR
            · intro p hp
              rcases List.mem_append.mp hp with h | h
              · obtain ⟨c, hc, rfl⟩ := List.mem_map.mp h
                exact (NodesAt.mem (nd (lp, tp) List.mem_cons_self).kids hc).keep (kp4.trans kp5)
              · exact (nd p (List.mem_cons_of_mem _ h)).keep (kp4.trans kp5)
    · rintro σ H1 ⟨R, us, ws, st, y4, y5, y6, y7, y8, y9, rfl, sm, ha, hu, lR, hb, hw, eR, nd⟩
      exfalso
      have e := congrArg List.length eR
      rw [List.length_append] at e
      omega

/-! ### the written form -/
def numT (i : Int) : List Nat := cs (Str.ofString (toString i))
def wordsD (d : Nd) : List Str := [d.kind, d.sym, Str.ofString (toString d.st), Str.ofString (toString d.lead), Str.ofString (toString d.wid), Str.ofString (toString d.look), Str.ofString (toString d.alt), Str.ofString (toString d.pop)]
def wd (d : Nd) : List Nat := cs (Txt.join " " (wordsD d))
def parens (n : Int) : List Nat := List.replicate n.toNat 41
mutual
def Tr.wr : Tr → List Nat
  | .mk _ d ks => 40 :: (wd d ++ (wrL ks ++ [41]))
def wrL : List Tr → List Nat
  | [] => []
  | t :: ts => 32 :: (t.wr ++ wrL ts)
end
/-- the same without its end -/
def Tr.wo : Tr → List Nat
  | .mk _ d ks => 40 :: (wd d ++ wrL ks)
theorem Tr.wr_wo : ∀ t : Tr, t.wr = t.wo ++ [41]
  | .mk _ d ks => by
    show 40 :: (wd d ++ (wrL ks ++ [41])) = (40 :: (wd d ++ wrL ks)) ++ [41]
    rw [List.cons_append, List.append_assoc]
def emit : Int → List Rw → List Nat
  | last, [] => parens (last + 1)
  | last, r :: rs => parens (last + 1 - r.1) ++ (32 :: 40 :: (wd r.2 ++ emit r.1 rs))
def Below (l : Int) (rs : List Rw) : Prop := ∀ r, rs.head? = some r → r.1 ≤ l
theorem parens_one {n : Int} (h : 0 ≤ n) : parens (n + 1) = 41 :: parens n := by
  unfold parens
  rw [show (n + 1).toNat = n.toNat + 1 by omega]
  rfl
theorem emit_down {l : Int} (hl : 0 ≤ l) : ∀ {rs : List Rw}, Below (l + 1) rs → emit (l + 1) rs = 41 :: emit l rs
  | [], _ => parens_one (by omega)
  | r :: rs, h => by
    have hr := h r rfl
    show parens (l + 1 + 1 - r.1) ++ _ = 41 :: (parens (l + 1 - r.1) ++ _)
    rw [show l + 1 + 1 - r.1 = l + 1 - r.1 + 1 by omega, parens_one (by omega)]
    rfl
theorem rows_head (l : Int) : ∀ t : Tr, (t.rows l).head? = some (l, t.d)
  | .mk _ _ _ => rfl
theorem below_L (l : Int) : ∀ (ts : List Tr) {rest : List Rw}, Below l rest → Below l (rowsL l ts ++ rest)
  | [], _, h => h
  | .mk p d ks :: ts, _, _ => fun r hr => by
    have hr : some (l, d) = some r := hr
    cases hr
    exact Int.le_refl _
theorem Below.up {l : Int} {rs : List Rw} (h : Below l rs) : Below (l + 1) rs := fun r hr => by
  have := h r hr
  omega
mutual
theorem emit_T : ∀ (t : Tr) (l last : Int) (rest : List Rw), 0 ≤ l → Below l rest → emit last (t.rows l ++ rest) = parens (last + 1 - l) ++ (32 :: (t.wo ++ emit l rest))
  | .mk p d ks, l, last, rest, h0, h => by
    have h2 := emit_L ks l rest h0 h
    show parens (last + 1 - l) ++ (32 :: 40 :: (wd d ++ emit l (rowsL (l + 1) ks ++ rest))) = parens (last + 1 - l) ++ (32 :: ((40 :: (wd d ++ wrL ks)) ++ emit l rest))
    rw [h2, List.cons_append, List.append_assoc]
theorem emit_L : ∀ (ts : List Tr) (l : Int) (rest : List Rw), 0 ≤ l → Below l rest → emit l (rowsL (l + 1) ts ++ rest) = wrL ts ++ emit l rest
  | [], _, _, _, _ => rfl
  | t :: ts, l, rest, h0, h => by
    have hb : Below (l + 1) (rowsL (l + 1) ts ++ rest) := below_L (l + 1) ts h.up
    have h1 := emit_T t (l + 1) l (rowsL (l + 1) ts ++ rest) (by omega) hb
    have h2 := emit_L ts l rest h0 h
    have h3 := emit_down h0 hb
    show emit l ((t.rows (l + 1) ++ rowsL (l + 1) ts) ++ rest) = (32 :: (t.wr ++ wrL ts)) ++ emit l rest
    rw [List.append_assoc, h1, h3, h2, show l + 1 - (l + 1) = 0 by omega, Tr.wr_wo]
    show 32 :: (t.wo ++ 41 :: (wrL ts ++ emit l rest)) = 32 :: ((t.wo ++ [41] ++ wrL ts) ++ emit l rest)
    rw [List.append_assoc, List.append_assoc]
    rfl
end
theorem emit_all (t : Tr) : emit (-1) (t.rows 0) = 32 :: t.wr := by
  have h := emit_T t 0 (-1) [] (Int.le_refl _) (fun r hr => by cases hr)
  rw [List.append_nil] at h
  rw [h, Tr.wr_wo]
  rfl

/-! ### numbers and words -/
theorem num_nat (n : Nat) : numT (n : Int) = TL.numL n := TL.tl_num n
theorem num_neg : numT (-1) = [45, 49] := by decide +kernel
theorem numL_first : ∀ n : Nat, 1 ≤ n → ∃ c r, TL.numL n = c :: r ∧ 49 ≤ c := by
  intro n
  induction n using Nat.strongRecOn with
  | _ n ih =>
    intro h1
    by_cases h : n < 10
    · exact ⟨48 + n, [], TL.numL_lt h, by omega⟩
    · obtain ⟨c, r, e, hc⟩ := ih (n / 10) (by omega) (by omega)
      exact ⟨c, r ++ [48 + n % 10], by rw [TL.numL_step (by omega), e]; rfl, hc⟩
theorem num_len {i : Int} (h : NumOk i) : (numT i).length ≤ 9 := by
  rcases h with rfl | ⟨h0, h1⟩
  · rw [num_neg]
    decide
  · obtain ⟨n, rfl⟩ := Int.eq_ofNat_of_zero_le h0
    rw [num_nat]
    exact TL.numL_len (k := 9) (by decide) (by omega)
theorem pos_num {i : Int} (h : 0 ≤ i ∧ i < 1000000000) : NumOk i := .inr h
theorem wd_eq (d : Nd) : wd d = cs d.kind ++ (32 :: (cs d.sym ++ (32 :: (numT d.st ++ (32 :: (numT d.lead ++ (32 :: (numT d.wid ++ (32 :: (numT d.look ++ (32 :: (numT d.alt ++ (32 :: numT d.pop))))))))))))) := by
  have e : cs (" " : Str) = [32] := by decide +kernel
  have key : ∀ (x y : Str) (r : List Str), cs (Str.join " " (x :: y :: r)) = cs x ++ (32 :: cs (Str.join " " (y :: r))) := fun x y r => by
    show cs (x ++ " " ++ Str.join " " (y :: r)) = _
    rw [cs_app, cs_app, e, List.append_assoc]
    rfl
  have one : ∀ x : Str, cs (Str.join " " [x]) = cs x := fun _ => rfl
  unfold wd wordsD
  rw [TL.join_eq, key, key, key, key, key, key, key, one]
  rfl
theorem wd_len {d : Nd} (h : NdOk d) : (wd d).length ≤ 101 := by
  rw [wd_eq]
  have h1 := num_len h.st
  have h2 := num_len (pos_num h.lead)
  have h3 := num_len (pos_num h.wid)
  have h4 := num_len (pos_num h.look)
  have h5 := num_len h.alt
  have h6 := num_len (pos_num h.pop)
  have h7 := h.lk
  have h8 := h.ls
  simp only [List.length_append, List.length_cons]
  omega
theorem lad_le : ∀ {L : List Int} {a : Int} {i : Nat} {x : Int}, Lad (a :: L) → (a :: L)[i]? = some x → x ≤ a + (i : Int)
  | _, a, 0, x, _, h => by
    obtain rfl : a = x := by simpa using h
    omega
  | [], _, i + 1, _, _, h => by simp at h
  | b :: L, a, i + 1, x, hl, h => by
    have ih := lad_le (L := L) (a := b) (i := i) (x := x) hl.2 (by simpa using h)
    have := hl.1
    omega
theorem lev_le {L : List Int} (h : Lev L) {i : Nat} {x : Int} (hx : L[i]? = some x) : 0 ≤ x ∧ x ≤ (i : Int) := by
  obtain ⟨ls, rfl, h1, h2⟩ := h
  have h3 := lad_le h2 hx
  refine ⟨?_, by omega⟩
  rcases List.mem_cons.mp (List.mem_of_getElem? hx) with rfl | hm
  · exact Int.le_refl _
  · have := h1 _ hm
    omega
/-! ### the text of rows -/
def pieceOf (last : Int) (r : Rw) : List Nat := parens (last + 1 - r.1) ++ (32 :: 40 :: wd r.2)
def emitP : Int → List Rw → List (List Nat)
  | _, [] => []
  | last, r :: rs => pieceOf last r :: emitP r.1 rs
def lastOf : Int → List Rw → Int
  | last, [] => last
  | _, r :: rs => lastOf r.1 rs
theorem emit_P : ∀ (rs : List Rw) (last : Int), emit last rs = (emitP last rs).flatten ++ parens (lastOf last rs + 1)
  | [], _ => rfl
  | r :: rs, last => by
    have ih := emit_P rs r.1
    show parens (last + 1 - r.1) ++ (32 :: 40 :: (wd r.2 ++ emit r.1 rs)) = ((parens (last + 1 - r.1) ++ (32 :: 40 :: wd r.2)) ++ (emitP r.1 rs).flatten) ++ parens (lastOf r.1 rs + 1)
    rw [ih, List.append_assoc, List.append_assoc]
    simp only [List.cons_append, List.append_assoc]
theorem emitP_snoc : ∀ (rs : List Rw) (last : Int) (r : Rw), emitP last (rs ++ [r]) = emitP last rs ++ [pieceOf (lastOf last rs) r] ∧ lastOf last (rs ++ [r]) = r.1
  | [], _, _ => ⟨rfl, rfl⟩
  | x :: rs, _, r => by
    have ih := emitP_snoc rs x.1 r
    exact ⟨congrArg (_ :: ·) ih.1, ih.2⟩
def strsD (d : Nd) : List Str := [Str.ofString (toString d.st), Str.ofString (toString d.lead), Str.ofString (toString d.wid), Str.ofString (toString d.look), Str.ofString (toString d.alt), Str.ofString (toString d.pop)]
def spTextR : Sp := fun vs H Q _ => ∃ (l : Addr) (rows : List Rw) (t : Tr), vs = [.ref l] ∧ RowsAt H l rows ∧ rows.length ≤ 2200 ∧ t.rows 0 = rows ∧ ∀ (x : Str) H', Same H H' → cs x = t.wr → Q (.str x) H'
theorem ok_textR (T : Txt K mg) : FnOk P w K mg base CX0 1 T.a_law_text T.fd_law_text ["rows"] spTextR := by
  refine T.F_law_text.ok sc_law_text (fun vs H Q E h => ?_) (fun cdv A outer s H vs Q E hr h => ?_)
  · obtain ⟨l, rows, t, rfl, _⟩ := h
    rfl
  · obtain ⟨l, rows, t, rfl, ⟨⟨us, hl, hu⟩, lev, ok⟩, ln, et, q⟩ := h
    refine ⟨_, (pss_cons (ps_set (i := 1) sc_law_text.nd rfl (.inl rfl) (pe_lst pa_nil))
      (pss_cons (ps_set (i := 2) sc_law_text.nd rfl (.inl rfl) (pe_un un_neg pe_int))
      (pss_cons (ps_for PassesOwn.never rfl (pi_list (pv 0)) (pg_name (i := 3) sc_law_text.nd rfl (.inr rfl)) (pss_cons (ps_set (i := 4) sc_law_text.nd rfl (.inl rfl) (pe_op op_cat (pe_lst (pa_cons (pe_ix ix_tup (pv 3) pe_int (fun _ _ => rfl)) (pa_cons (pe_ix ix_tup (pv 3) pe_int (fun _ _ => rfl)) pa_nil))) (pe_lc (own := [("k", 5)]) (g := gName 5) (by rfl) sc_law_text.nd (pi_range2 (by rfl) T.m_range (pa_cons pe_int (pa_cons pe_int pa_nil))) (blkOk_by (own := [("k", 5)]) (N := ["rows", "pieces", "last", "row", "words", "k"]) (sc := defScope s_law_text) (by decide +kernel)) (fun _ _ _ _ _ => pg_name (i := 5) sc_law_text.nd rfl (Or.inl rfl)) (fun _ _ _ _ _ => pts_nil) (fun _ _ _ _ _ => (pe_callTy call_str_int (by rfl) T.m_str (by decide +kernel) (pa_cons (pe_ix (ix_tupK (K := K) rfl) (pv 3) (pv 5) (fun _ _ => rfl)) pa_nil))))))
      (pss_cons (ps_expr (pe_bm PySem.F.plainAttrs_list PySem.F.slot_list_append PySem.F.type_list_append mt_append (pv 1) (pa_cons (pe_op op_add_str (pe_op op_add_str (pe_op OwnOp.op_mulS pe_str (pe_op op_sub (pe_op op_add (pv 2) pe_int) (pe_ix ix_tup (pv 3) pe_int (fun _ _ => rfl)))) pe_str) (pe_join pe_str (pv 4))) pa_nil)))
      (pss_one (ps_set (i := 2) sc_law_text.nd rfl (.inl rfl) (pe_ix ix_tup (pv 3) pe_int (fun _ _ => rfl)))))))
      (pss_one (ps_ret (pe_op op_add_str (pe_slice sl_str (pe_join pe_str (pv 1)) (po_some pe_int) po_none) (pe_op OwnOp.op_mulS pe_str (pe_op op_add (pv 2) pe_int)))))))), ?_⟩
    have lus := paired_len hu
    refine ⟨by show 0 ≤ sizeLine; decide, fun p np => ?_⟩
    refine ⟨1, rfl, ?_⟩
    have hlp : Same H (upd H p (.lst [])) := same_upd np
    refine ⟨_, rfl, l, rfl, ⟨_, SqL.of (hlp _ _ hl)⟩, ?_⟩
    refine for_list (K := K) (a := l) (xs := us) (fun j σ H' => Same H H' ∧ j ≤ rows.length ∧ ∃ (ps : List Str) (last : Int) (y3 y4 y5 : Option V), σ = [some (.ref l), some (.ref p), some (.int last), y3, y4, y5] ∧ H' p = some (.lst (ps.map V.str)) ∧ ps.map cs = emitP (-1) (rows.take j) ∧ last = lastOf (-1) (rows.take j) ∧ -1 ≤ last ∧ last < (j : Int) ∧ ∀ x ∈ ps, x.length ≤ 2400)
      ⟨hlp, Nat.zero_le _, [], -1, none, none, none, rfl, upd_same, rfl, rfl, by decide, by decide, fun x hx => absurd hx List.not_mem_nil⟩ (fun i σ H' _ ⟨s, _⟩ => SqL.of (s _ _ hl)) ?_ ?_
    · rintro j x σ H1 hx ⟨sm, hj0, ps, last, y3, y4, y5, rfl, hp, ep, el, l0, l1, lp⟩
      have hj : j < rows.length := by
        rw [← lus]
        exact (List.getElem?_eq_some_iff.mp hx).1
      obtain ⟨r, hr0⟩ : ∃ r, rows[j]? = some r := ⟨_, List.getElem?_eq_getElem hj⟩
      obtain ⟨x', hx', g, rfl, hg0⟩ := paired_get hu hr0
      rw [hx] at hx'
      obtain rfl := Option.some.inj hx'
      have hg := sm _ _ hg0
      have od := ok r (List.mem_of_getElem? hr0)
      have lr := lev_le lev (i := j) (x := r.1) (by rw [List.getElem?_map, hr0]; rfl)
      have at_ : ∀ (n : Nat) (v : V), (rwV r)[n]? = some v → atI (rwV r) (n : Int) = some v := fun n v h => atI_nat h
      have lps : ps.length = j := by
        have e := congrArg List.length ep
        have key : ∀ (rs : List Rw) (a : Int), (emitP a rs).length = rs.length := fun rs => by
          induction rs with
          | nil => exact fun _ => rfl
          | cons r rs ih => exact fun _ => congrArg (· + 1) (ih r.1)
        rw [List.length_map, key, List.length_take] at e
        omega
      refine ⟨_, rfl, g, _, 1, _, rfl, rfl, SqT.of hg, at_ 1 _ rfl, _, rfl, g, _, 2, _, rfl, rfl, SqT.of hg, at_ 2 _ rfl, by show 2 ≤ sizeLine; decide, fun q1 nq1 => ?_⟩
      have s1 := same_upd (o := .lst [.str r.2.kind, .str r.2.sym]) nq1
      have hg1 := s1 _ _ hg
      have hp1 := s1 _ _ hp
      obtain ⟨H2, hH2⟩ : ∃ H2, H2 = upd H1 q1 (.lst [.str r.2.kind, .str r.2.sym]) := ⟨_, rfl⟩
      have hq2 : H2 q1 = some (.lst ([r.2.kind, r.2.sym].map V.str)) := by rw [hH2]; exact upd_same
      rw [← hH2] at s1 hg1 hp1 ⊢
      refine ⟨3, 9, rfl, by decide, fun D nD => ?_⟩
      refine lc_range (lo := 3) (n := ((9 : Int) - 3).toNat) (fun i H' => But D H2 H' ∧ H' D = some (.lst (((strsD r.2).take i).map V.str))) ⟨(But.new nD), upd_same⟩ ?_ ?_
      · rintro i H3 hi ⟨b3, hD⟩
        have hi6 : i < 6 := hi
        have hDg : g ≠ D := ne_of_none hg1 nD
        obtain ⟨z, hz, hs, oz⟩ : ∃ z : Int, (rwV r)[3 + i]? = some (.int z) ∧ (strsD r.2)[i]? = some (Str.ofString (toString z)) ∧ NumOk z := by
          match i, hi6 with
          | 0, _ => exact ⟨r.2.st, rfl, rfl, od.st⟩
          | 1, _ => exact ⟨r.2.lead, rfl, rfl, pos_num od.lead⟩
          | 2, _ => exact ⟨r.2.wid, rfl, rfl, pos_num od.wid⟩
          | 3, _ => exact ⟨r.2.look, rfl, rfl, pos_num od.look⟩
          | 4, _ => exact ⟨r.2.alt, rfl, rfl, od.alt⟩
          | 5, _ => exact ⟨r.2.pop, rfl, rfl, pos_num od.pop⟩
        have hlog : z.natAbs.log2 < 1920 := by
          have h9 : z.natAbs < 1000000000 := by
            rcases oz with rfl | h
            · decide
            · omega
          by_cases h0 : z.natAbs = 0
          · rw [h0]
            decide
          · exact Nat.lt_trans ((Nat.log2_lt h0).mpr (show z.natAbs < 2 ^ 30 by omega)) (by decide)
        have ez : (3 : Int) + (i : Int) = ((3 + i : Nat) : Int) := by omega
        refine ⟨rfl, _, rfl, _, rfl, g, _, _, _, rfl, rfl, SqT.of (b3 _ _ hDg hg1), by rw [ez]; exact atI_nat hz, _, rfl, hlog, _, hD, sz2 (by rw [List.length_map, List.length_take]; omega), ?_, ?_⟩
        · exact fun c o ne e => by rw [upd_ne ne]; exact b3 c o ne e
        · rw [upd_same, takeN hs, List.map_append]
          rfl
      · rintro H3 ⟨b3, hD⟩
        have hD : H3 D = some (.lst ((strsD r.2).map V.str)) := hD
        have nD0 : H D = none := (sm.trans s1).free nD
        have sm3 : Same H H3 := fun c o e => b3 c o (ne_of_none e nD0) ((sm.trans s1) _ _ e)
        have hq3 := b3 _ _ (ne_of_none hq2 nD) hq2
        have hp3 := b3 _ _ (ne_of_none hp1 nD) hp1
        have hg3 := b3 _ _ (ne_of_none hg1 nD) hg1
        refine ⟨q1, D, _, _, rfl, rfl, hq3, hD, by show 2 + 6 ≤ sizeLine; decide, fun wl nwl => ?_⟩
        have s4 := same_upd (o := .lst (([r.2.kind, r.2.sym].map V.str) ++ (strsD r.2).map V.str)) nwl
        have hw4 : (upd H3 wl (.lst (([r.2.kind, r.2.sym].map V.str) ++ (strsD r.2).map V.str))) wl = some (.lst ((wordsD r.2).map V.str)) := by
          rw [upd_same]
          rfl
        have hp4 := s4 _ _ hp3
        have hg4 := s4 _ _ hg3
        have lw := wd_len od
        have n1 := num_len od.st
        have n2 := num_len (pos_num od.lead)
        have n3 := num_len (pos_num od.wid)
        have n4 := num_len (pos_num od.look)
        have n5 := num_len od.alt
        have n6 := num_len (pos_num od.pop)
        have n7 := od.lk
        have n8 := od.ls
        have sm4 : ((wordsD r.2).map fun x : Str => x.length).sum ≤ 94 := by
          show (r.2.kind.length + (r.2.sym.length + ((Str.ofString (toString r.2.st)).length + ((Str.ofString (toString r.2.lead)).length + ((Str.ofString (toString r.2.wid)).length + ((Str.ofString (toString r.2.look)).length + ((Str.ofString (toString r.2.alt)).length + ((Str.ofString (toString r.2.pop)).length + 0)))))))) ≤ 94
          unfold numT at n1 n2 n3 n4 n5 n6
          rw [← len_cs] at n1 n2 n3 n4 n5 n6 n7 n8
          omega
        have lm : (Txt.mul ")" (last + 1 - r.1)).length ≤ 2200 := by
          rw [len_cs]
          show (Txt.mul ")" (last + 1 - r.1)).cps.toList.length ≤ 2200
          rw [OwnOp.mul_cs, show (Str.ofString ")").cps.toList = [41] by decide +kernel, List.length_flatten, List.map_replicate, List.sum_replicate_nat]
          show (last + 1 - r.1).toNat * 1 ≤ 2200
          omega
        have em : cs (Txt.mul ")" (last + 1 - r.1)) = parens (last + 1 - r.1) := by
          show (Txt.mul ")" (last + 1 - r.1)).cps.toList = _
          rw [OwnOp.mul_cs, show (Str.ofString ")").cps.toList = [41] by decide +kernel]
          unfold parens
          induction (last + 1 - r.1).toNat with
          | zero => rfl
          | succ m ih => rw [List.replicate_succ, List.flatten_cons, ih]; rfl
        have l2 : (" (" : Str).length = 2 := by decide +kernel
        have lj : (Txt.join " " (wordsD r.2)).length ≤ 101 := by
          rw [len_cs]
          exact lw
        refine ⟨_, rfl, .inl ⟨rfl, _, SqL.of hp4⟩, _, rfl, _, _, rfl, rfl, _, rfl, g, _, 0, .int r.1, rfl, rfl, SqT.of hg4, at_ 0 _ rfl, _, _, rfl, rfl, _, _, rfl, rfl, by decide +kernel, by omega, by omega, _, _, rfl, rfl, szM (by rw [l2]; exact Nat.le_trans (Nat.add_le_add_right lm 2) (by decide)), ⟨_, rfl⟩, _, rfl, _, _, wordsD r.2, rfl, rfl, .inl (SqL.of hw4), Nat.le_trans (Nat.add_le_add sm4 (show 8 * (" " : Str).length ≤ 8 by decide +kernel)) (by decide), ?_⟩
        have lq : (Txt.mul ")" (last + 1 - r.1) ++ " (").length ≤ 2202 := by
          rw [len_cs, cs_app, List.length_append, ← len_cs, ← len_cs, l2]
          omega
        refine ⟨_, _, rfl, rfl, szM (Nat.le_trans (Nat.add_le_add lq lj) (by decide)), p, _, _, rfl, rfl, hp4, sz2 (by rw [List.length_map, lps]; omega), ?_⟩
        have hg5 : (upd (upd H3 wl (.lst (([r.2.kind, r.2.sym].map V.str) ++ (strsD r.2).map V.str))) p (.lst (ps.map V.str ++ [.str (Txt.mul ")" (last + 1 - r.1) ++ " (" ++ Txt.join " " (wordsD r.2))]))) g = some (.tup (rwV r)) := (Tups.mut hp4) _ _ hg4
        refine ⟨_, rfl, g, _, 0, .int r.1, rfl, rfl, SqT.of hg5, at_ 0 _ rfl, ?_⟩
        have ec : cs (Txt.mul ")" (last + 1 - r.1) ++ " (" ++ Txt.join " " (wordsD r.2)) = pieceOf last r := by
          rw [cs_app, cs_app, em, show cs (" (" : Str) = [32, 40] by decide +kernel, List.append_assoc]
          rfl
        have sn := emitP_snoc (rows.take j) (-1) r
        rw [← takeN hr0, ← el] at sn
        refine ⟨same_mut (sm3.trans s4) np, by omega, ps ++ [_], r.1, _, _, _, rfl, by rw [upd_same, List.map_append]; rfl, ?_, sn.2.symm, by omega, by omega, fun x hx => ?_⟩
        · rw [List.map_append, ep, sn.1]
          show _ ++ [cs _] = _
          rw [ec]
        · rcases List.mem_append.mp hx with h | h
          · exact lp x h
          · rw [List.mem_singleton.mp h, len_cs, cs_app, List.length_append, ← len_cs, ← len_cs]
            omega
    · rintro σ H1 ⟨sm, _, ps, last, y3, y4, y5, rfl, hp, ep, el, l0, l1, lp⟩
      rw [lus, List.take_length] at ep el
      have lps : ps.length = rows.length := by
        have e := congrArg List.length ep
        have key : ∀ (rs : List Rw) (a : Int), (emitP a rs).length = rs.length := fun rs => by
          induction rs with
          | nil => exact fun _ => rfl
          | cons r rs ih => exact fun _ => congrArg (· + 1) (ih r.1)
        rw [List.length_map, key] at e
        exact e
      have sum_le : ∀ qs : List Str, (∀ x ∈ qs, x.length ≤ 2400) → (qs.map fun x : Str => x.length).sum ≤ 2400 * qs.length := fun qs => by
        induction qs with
        | nil => exact fun _ => Nat.le_refl _
        | cons q qs ih =>
          intro h
          have h1 := h q List.mem_cons_self
          have h2 := ih fun x hx => h x (List.mem_cons_of_mem _ hx)
          show q.length + (qs.map fun x : Str => x.length).sum ≤ 2400 * (qs.length + 1)
          omega
      have h1 := sum_le ps lp
      refine ⟨⟨_, rfl⟩, _, rfl, _, _, ps, rfl, rfl, .inl (SqL.of hp), ?_, ?_⟩
      · show _ + ps.length * 0 ≤ _
        omega
      have lt : (Txt.join "" ps).length ≤ 2400 * ps.length := by
        rw [len_cs, cs_joinT (show cs ("" : Str) = [] by decide +kernel), List.length_flatten, List.map_map]
        refine Nat.le_trans (Nat.le_of_eq ?_) h1
        congr 1
      refine ⟨1, rfl, _, rfl, by rw [sizeLine_eq]; omega, ?_⟩
      have lm : (Txt.mul ")" (last + 1)).length ≤ 2300 := by
        rw [len_cs]
        show (Txt.mul ")" (last + 1)).cps.toList.length ≤ 2300
        rw [OwnOp.mul_cs, show (Str.ofString ")").cps.toList = [41] by decide +kernel, List.length_flatten, List.map_replicate, List.sum_replicate_nat]
        show (last + 1).toNat * 1 ≤ 2300
        omega
      have em : cs (Txt.mul ")" (last + 1)) = parens (last + 1) := by
        show (Txt.mul ")" (last + 1)).cps.toList = _
        rw [OwnOp.mul_cs, show (Str.ofString ")").cps.toList = [41] by decide +kernel]
        unfold parens
        induction (last + 1).toNat with
        | zero => rfl
        | succ m ih => rw [List.replicate_succ, List.flatten_cons, ih]; rfl
      have ecut : cs (cutS (Txt.join "" ps) (some 1) none) = (emitP (-1) rows).flatten.drop 1 := by
        rw [show (some (1 : Int)) = some ((1 : Nat) : Int) from rfl, cut_suf (Txt.join "" ps) 1, cs_joinT (show cs ("" : Str) = [] by decide +kernel), ep]
      have lcut : (cutS (Txt.join "" ps) (some 1) none).length ≤ 2400 * ps.length := by
        rw [len_cs, ecut, List.length_drop, ← ep, ← cs_joinT (show cs ("" : Str) = [] by decide +kernel), ← len_cs]
        omega
      refine ⟨_, rfl, _, _, rfl, rfl, _, _, rfl, rfl, by decide +kernel, by omega, by omega, _, _, rfl, rfl, by rw [sizeLine_eq]; omega, q _ H1 sm ?_⟩
      rw [cs_app, ecut, em, el]
      have ea := emit_all t
      rw [et, emit_P] at ea
      obtain ⟨d0, rs0, er⟩ : ∃ d rs, rows = (0, d) :: rs := by
        cases t with
        | mk p d ks => exact ⟨d, rowsL 1 ks, et.symm⟩
      have ef : (emitP (-1) rows).flatten = 32 :: (40 :: wd d0 ++ (emitP 0 rs0).flatten) := by
        rw [er]
        rfl
      rw [ef] at ea ⊢
      have ea : 32 :: ((40 :: wd d0 ++ (emitP 0 rs0).flatten) ++ parens (lastOf (-1) rows + 1)) = 32 :: t.wr := ea
      exact (List.cons.inj ea).2

/-! ### write_tree -/
mutual
def TrOk : Tr → Prop
  | .mk _ d ks => NdOk d ∧ TrsOk ks
def TrsOk : List Tr → Prop
  | [] => True
  | t :: ts => TrOk t ∧ TrsOk ts
end
mutual
theorem tr_ok (l : Int) : ∀ t : Tr, (∀ x ∈ t.rows l, NdOk x.2) → TrOk t
  | .mk p d ks, h => ⟨h (l, d) List.mem_cons_self, trs_ok (l + 1) ks fun x hx => h x (List.mem_cons_of_mem _ hx)⟩
theorem trs_ok (l : Int) : ∀ ts : List Tr, (∀ x ∈ rowsL l ts, NdOk x.2) → TrsOk ts
  | [], _ => True.intro
  | t :: ts, h => ⟨tr_ok l t fun x hx => h x (List.mem_append_left _ hx), trs_ok l ts fun x hx => h x (List.mem_append_right _ hx)⟩
end
theorem TrsOk.mem : ∀ {ts : List Tr} {t : Tr}, TrsOk ts → t ∈ ts → TrOk t
  | _ :: _, _, ⟨h1, h2⟩, hm => by
    rcases List.mem_cons.mp hm with rfl | hm
    · exact h1
    · exact TrsOk.mem h2 hm
theorem TrOk.d : ∀ {t : Tr}, TrOk t → NdOk t.d
  | .mk _ _ _, h => h.1
theorem TrOk.ks : ∀ {t : Tr}, TrOk t → TrsOk t.ks
  | .mk _ _ _, h => h.2
mutual
def Tr.size : Tr → Nat
  | .mk _ _ ks => 1 + sizesL ks
def sizesL : List Tr → Nat
  | [] => 0
  | t :: ts => t.size + sizesL ts
end
mutual
theorem size_rows (l : Int) : ∀ t : Tr, (t.rows l).length = t.size
  | .mk p d ks => by
    show (rowsL (l + 1) ks).length + 1 = 1 + sizesL ks
    rw [sizes_rows (l + 1) ks, Nat.add_comm]
theorem sizes_rows (l : Int) : ∀ ts : List Tr, (rowsL l ts).length = sizesL ts
  | [] => rfl
  | t :: ts => by
    show (t.rows l ++ rowsL l ts).length = t.size + sizesL ts
    rw [List.length_append, size_rows l t, sizes_rows l ts]
end
mutual
theorem wr_len : ∀ t : Tr, TrOk t → t.wr.length + 1 ≤ 104 * t.size
  | .mk p d ks, h => by
    have h1 := wd_len h.1
    have h2 := wrL_len ks h.2
    show (40 :: (wd d ++ (wrL ks ++ [41]))).length + 1 ≤ 104 * (1 + sizesL ks)
    simp only [List.length_cons, List.length_append, List.length_nil]
    omega
theorem wrL_len : ∀ ts : List Tr, TrsOk ts → (wrL ts).length ≤ 104 * sizesL ts
  | [], _ => Nat.le_refl _
  | t :: ts, h => by
    have h1 := wr_len t h.1
    have h2 := wrL_len ts h.2
    show (32 :: (t.wr ++ wrL ts)).length ≤ 104 * (t.size + sizesL ts)
    rw [List.length_cons, List.length_append]
    omega
end
theorem num_log {z : Int} (oz : NumOk z) : z.natAbs.log2 < 1920 := by
  have h9 : z.natAbs < 1000000000 := by
    rcases oz with rfl | h
    · decide
    · omega
  by_cases h0 : z.natAbs = 0
  · rw [h0]
    decide
  · exact Nat.lt_trans ((Nat.log2_lt h0).mpr (show z.natAbs < 2 ^ 30 by omega)) (by decide)
theorem words_sum {d : Nd} (od : NdOk d) : ((wordsD d).map fun x : Str => x.length).sum ≤ 94 := by
  have n1 := num_len od.st
  have n2 := num_len (pos_num od.lead)
  have n3 := num_len (pos_num od.wid)
  have n4 := num_len (pos_num od.look)
  have n5 := num_len od.alt
  have n6 := num_len (pos_num od.pop)
  have n7 := od.lk
  have n8 := od.ls
  show (d.kind.length + (d.sym.length + ((Str.ofString (toString d.st)).length + ((Str.ofString (toString d.lead)).length + ((Str.ofString (toString d.wid)).length + ((Str.ofString (toString d.look)).length + ((Str.ofString (toString d.alt)).length + ((Str.ofString (toString d.pop)).length + 0)))))))) ≤ 94
  unfold numT at n1 n2 n3 n4 n5 n6
  rw [← len_cs] at n1 n2 n3 n4 n5 n6 n7 n8
  omega
def spWrittenN (K : PySem.W.Frag) (C : Addr) : Sp := fun vs H Q _ => ∃ t : Tr, vs = [.ref t.at] ∧ NodeAt K C H t ∧ NdOk t.d ∧ ∀ (x : Str) H', Same H H' → cs x = 40 :: wd t.d → Q (.str x) H'
theorem ok_writtenN (T : Txt K mg) : FnOk P w K mg base CX0 1 T.a_written T.fd_written ["node"] (spWrittenN K T.C_Node) := by
  refine T.F_written.ok sc_written (fun vs H Q E h => ?_) (fun cdv A outer s H vs Q E hr h => ?_)
  · obtain ⟨t, rfl, _⟩ := h
    rfl
  · obtain ⟨t, rfl, ht, od, q⟩ := h
    refine ⟨_, (pss_cons (ps_set (i := 1) sc_written.nd rfl (.inl rfl) (pe_lst (pa_cons (pe_fld (pv 0) rfl) (pa_cons (pe_fld (pv 0) rfl) (pa_cons (pe_fld (pv 0) rfl) (pa_cons (pe_fld (pv 0) rfl) (pa_cons (pe_fld (pv 0) rfl) (pa_cons (pe_fld (pv 0) rfl) pa_nil))))))))
      (pss_one (ps_ret (pe_op op_add_str pe_str (pe_join pe_str (pe_lst (pa_cons (pe_fld (pv 0) rfl) (pa_cons (pe_fld (pv 0) rfl) (StX.pa_star (pe_lc (own := [("number", 2)]) (g := gName 2) (by rfl) sc_written.nd (pi_list (pv 1)) (blkOk_by (own := [("number", 2)]) (N := ["node", "numbers", "number"]) (sc := defScope s_written) (by decide +kernel)) (fun _ _ _ _ _ => pg_name (i := 2) sc_written.nd rfl (Or.inl rfl)) (fun _ _ _ _ _ => pts_nil) (fun _ _ _ _ _ => (pe_callTy call_str_int (by rfl) T.m_str (by decide +kernel) (pa_cons (pv 2) pa_nil)))) pa_nil))))))))), ?_⟩
    obtain ⟨dx, tn, kn, kt⟩ := ht.it
    refine ⟨_, rfl, _, _, _, _, _, rfl, kn, T.CL_Node, T.NA_Node_state, nf_state _ _, _, rfl, _, _, _, _, _, rfl, kn, T.CL_Node, T.NA_Node_lead, nf_lead _ _, _, rfl, _, _, _, _, _, rfl, kn, T.CL_Node, T.NA_Node_width, nf_width _ _, _, rfl, _, _, _, _, _, rfl, kn, T.CL_Node, T.NA_Node_look, nf_look _ _, _, rfl, _, _, _, _, _, rfl, kn, T.CL_Node, T.NA_Node_alternative, nf_alternative _ _, _, rfl, _, _, _, _, _, rfl, kn, T.CL_Node, T.NA_Node_popped, nf_popped _ _, by show 6 ≤ sizeLine; decide, fun p np => ?_⟩
    have s1 := same_upd (o := .lst (numsV t.d)) np
    have hp : (upd H p (.lst (numsV t.d))) p = some (.lst (numsV t.d)) := upd_same
    have kn1 := s1 _ _ kn
    refine ⟨⟨_, rfl⟩, _, rfl, _, _, _, _, _, rfl, kn1, T.CL_Node, T.NA_Node_kind, nf_kind _ _, _, rfl, _, _, _, _, _, rfl, kn1, T.CL_Node, T.NA_Node_symbol, nf_symbol _ _, _, rfl, p, rfl, ⟨_, SqL.of hp⟩, fun D nD => ?_⟩
    obtain ⟨H1, hH1⟩ : ∃ H1, H1 = upd H p (.lst (numsV t.d)) := ⟨_, rfl⟩
    have eH : upd H p (.lst [.int t.d.st, .int t.d.lead, .int t.d.wid, .int t.d.look, .int t.d.alt, .int t.d.pop]) = H1 := hH1.symm
    rw [eH] at nD ⊢
    rw [← hH1] at s1 hp kn1
    refine lc_it (walk_list (K := K) (a := p) (xs := numsV t.d)) (fun i H' => But D H1 H' ∧ H' D = some (.lst (((strsD t.d).take i).map V.str))) ⟨But.new nD, upd_same⟩ (fun i H' _ ⟨b, _⟩ => SqL.of (b _ _ (ne_of_none hp nD) hp)) ?_ ?_
    · rintro i x H2 H3 hi ⟨b2, hD⟩ ⟨rfl, hx⟩
      have hi6 : i < 6 := hi
      obtain ⟨z, hz, hs, oz⟩ : ∃ z : Int, (numsV t.d)[i]? = some (.int z) ∧ (strsD t.d)[i]? = some (Str.ofString (toString z)) ∧ NumOk z := by
        match i, hi6 with
        | 0, _ => exact ⟨t.d.st, rfl, rfl, od.st⟩
        | 1, _ => exact ⟨t.d.lead, rfl, rfl, pos_num od.lead⟩
        | 2, _ => exact ⟨t.d.wid, rfl, rfl, pos_num od.wid⟩
        | 3, _ => exact ⟨t.d.look, rfl, rfl, pos_num od.look⟩
        | 4, _ => exact ⟨t.d.alt, rfl, rfl, od.alt⟩
        | 5, _ => exact ⟨t.d.pop, rfl, rfl, pos_num od.pop⟩
      have hx : (numsV t.d)[i]? = some x := hx
      rw [hz] at hx
      obtain rfl : V.int z = x := Option.some.inj hx
      have hlog := num_log oz
      refine ⟨rfl, _, rfl, _, rfl, hlog, _, hD, sz2 (by rw [List.length_map, List.length_take]; omega), ?_, ?_⟩
      · exact fun c o ne e => by rw [upd_ne ne]; exact b2 c o ne e
      · rw [upd_same, takeN hs, List.map_append]
        rfl
    · rintro H2 ⟨b2, hD⟩
      have hD : H2 D = some (.lst ((strsD t.d).map V.str)) := hD
      have nD0 : H D = none := s1.free nD
      have sm2 : Same H H2 := fun c o e => b2 c o (ne_of_none e nD0) (s1 _ _ e)
      refine ⟨D, _, rfl, .inr (SqL.of hD), by show 2 + 6 ≤ sizeLine; decide, fun wl nwl => ?_⟩
      have s4 := same_upd (o := .lst ([V.str t.d.kind, V.str t.d.sym] ++ ((strsD t.d).map V.str ++ []))) nwl
      have hw : (upd H2 wl (.lst ([V.str t.d.kind, V.str t.d.sym] ++ ((strsD t.d).map V.str ++ [])))) wl = some (.lst ((wordsD t.d).map V.str)) := by
        rw [upd_same, List.append_nil]
        rfl
      have sm4 := words_sum od
      have lj : (Txt.join " " (wordsD t.d)).length ≤ 101 := by
        rw [len_cs]
        exact wd_len od
      refine ⟨_, wl, wordsD t.d, rfl, rfl, .inl (SqL.of hw), Nat.le_trans (Nat.add_le_add sm4 (show 8 * (" " : Str).length ≤ 8 by decide +kernel)) (by decide), _, _, rfl, rfl, Nat.le_trans (Nat.add_le_add (show _ ≤ 1 by decide +kernel) lj) (by decide), q _ _ (sm2.trans s4) ?_⟩
      rw [cs_app, show cs ("(" : Str) = [40] by decide +kernel]
      rfl

/-! ### write_tree: the stack -/
def itV : Option Tr → V
  | none => .non
  | some t => .ref t.at
def restOf : List (Option Tr) → List Nat
  | [] => []
  | none :: S => 41 :: restOf S
  | some t :: S => 32 :: (t.wr ++ restOf S)
def muOf : List (Option Tr) → Nat
  | [] => 0
  | none :: S => 1 + muOf S
  | some t :: S => 2 * t.size + muOf S
theorem rest_kids : ∀ (ks : List Tr) (S : List (Option Tr)), restOf (ks.map some ++ S) = wrL ks ++ restOf S
  | [], _ => rfl
  | t :: ks, S => by
    show 32 :: (t.wr ++ restOf (ks.map some ++ S)) = (32 :: (t.wr ++ wrL ks)) ++ restOf S
    rw [rest_kids ks S, List.cons_append, List.append_assoc]
theorem mu_kids : ∀ (ks : List Tr) (S : List (Option Tr)), muOf (ks.map some ++ S) = 2 * sizesL ks + muOf S
  | [], _ => by show muOf _ = 2 * 0 + _; rw [Nat.mul_zero, Nat.zero_add]; rfl
  | t :: ks, S => by
    show 2 * t.size + muOf (ks.map some ++ S) = 2 * (t.size + sizesL ks) + muOf S
    rw [mu_kids ks S]
    omega
theorem size_pos : ∀ t : Tr, 1 ≤ t.size
  | .mk _ _ ks => by
    show 1 ≤ 1 + sizesL ks
    omega
theorem mu_len : ∀ S : List (Option Tr), S.length ≤ muOf S
  | [] => Nat.le_refl _
  | none :: S => by
    have ih := mu_len S
    show S.length + 1 ≤ 1 + muOf S
    omega
  | some t :: S => by
    have ih := mu_len S
    have := size_pos t
    show S.length + 1 ≤ 2 * t.size + muOf S
    omega
def spWriteT (K : PySem.W.Frag) (C : Addr) : Sp := fun vs H Q _ => ∃ t : Tr, vs = [.ref t.at] ∧ NodeAt K C H t ∧ TrOk t ∧ t.size ≤ 5000 ∧ ∀ (x : Str) H', Same H H' → cs x = t.wr → Q (.str x) H'
theorem ok_write_tree (T : Txt K mg) : FnOk P w K mg base CX0 2 T.a_write_tree T.fd_write_tree ["node"] (spWriteT K T.C_Node) := by
  have G_written : FnOk P w K mg base CX0 1 T.a_written T.fd_written ["node"] (spWrittenN K T.C_Node) := ok_writtenN T
  refine T.F_write_tree.ok sc_write_tree (fun vs H Q E h => ?_) (fun cdv A outer s H vs Q E hr h => ?_)
  · obtain ⟨t, rfl, _⟩ := h
    rfl
  · obtain ⟨t, rfl, ht, tok, ln, q⟩ := h
    have hr_written : Room 1 _ := hr
    refine ⟨_, (pss_cons (ps_set (i := 1) sc_write_tree.nd rfl (.inl rfl) (pe_lst pa_nil))
      (pss_cons (ps_set (i := 2) sc_write_tree.nd rfl (.inl rfl) (pe_lst (pa_cons (pv 0) pa_nil)))
      (pss_cons (ps_while PassesOwn.never (pt_truth (pv 2) (by intro _; rfl)) (pss_cons (ps_set (i := 3) sc_write_tree.nd rfl (.inl rfl) (pe_bm0 PySem.F.plainAttrs_list PySem.F.slot_list_pop PySem.F.type_list_pop mt_pop (pv 2)))
      (pss_cons (ps_if (pt_cmpR op_isN (pv 3) pe_non (nomark _)) (pss_cons (ps_expr (pe_bm PySem.F.plainAttrs_list PySem.F.slot_list_append PySem.F.type_list_append mt_append (pv 1) (pa_cons pe_str pa_nil)))
      (pss_one ps_continue)) pss_nil)
      (C8.pss_cut (ps_if (pt_truth (pv 1) (by intro _; rfl)) (pss_one (ps_expr (pe_bm PySem.F.plainAttrs_list PySem.F.slot_list_append PySem.F.type_list_append mt_append (pv 1) (pa_cons pe_str pa_nil)))) pss_nil)
      (pss_cons (ps_expr (pe_bm PySem.F.plainAttrs_list PySem.F.slot_list_append PySem.F.type_list_append mt_append (pv 1) (pa_cons (pe_call G_written hr_written (by rfl) T.g_written T.F_written.kp T.b_written .nil pass0 (pa_cons (pv 3) pa_nil)) pa_nil)))
      (pss_cons (ps_expr (pe_bm PySem.F.plainAttrs_list PySem.F.slot_list_append PySem.F.type_list_append mt_append (pv 2) (pa_cons pe_non pa_nil)))
      (pss_one (ps_expr (pe_bm PySem.F.plainAttrs_list PySem.F.slot_list_extend PySem.F.type_list_extend mt_extend (pv 2) (pa_cons (OwnOp.pe_lstRevT (by rfl) T.m_list (by rfl) T.m_reversed (pe_fld (pv 3) rfl) hr.hd) pa_nil))))))))))
      (pss_one (ps_ret (pe_join pe_str (pv 1))))))), ?_⟩
    refine ⟨by show 0 ≤ sizeLine; decide, fun a na => ?_⟩
    refine ⟨_, rfl, by show 1 ≤ sizeLine; decide, fun b nb => ?_⟩
    have s1 := same_upd (o := .lst []) na
    have ha0 : (upd H a (.lst [])) a = some (.lst []) := upd_same
    have hab : a ≠ b := ne_of_none ha0 nb
    have s2 := same_upd (o := .lst [.ref t.at]) nb
    have nb0 : H b = none := s1.free nb
    have wl := wr_len t tok
    refine g_seq ?_
    show tWhile _ _ _ _ _
    refine while_nat (m0 := 2 * t.size) (fun m σ H' => ∃ (ws : List Str) (S : List (Option Tr)) (y3 : Option V), σ = [some (.ref t.at), some (.ref a), some (.ref b), y3] ∧ m = muOf S ∧ Same H H' ∧ H' a = some (.lst (ws.map V.str)) ∧ H' b = some (.lst (S.reverse.map itV)) ∧
        ((ws = [] ∧ S = [some t]) ∨ (ws ≠ [] ∧ (ws.map cs).flatten ++ restOf S = t.wr)) ∧ (∀ u, some u ∈ S → NodeAt K T.C_Node H' u ∧ TrOk u) ∧ muOf S ≤ 2 * t.size ∧ ws.length + 3 * muOf S ≤ 6 * t.size)
      (fun σ H' => ∃ (ws : List Str) (y3 : Option V), σ = [some (.ref t.at), some (.ref a), some (.ref b), y3] ∧ Same H H' ∧ H' a = some (.lst (ws.map V.str)) ∧ (ws.map cs).flatten = t.wr ∧ ws.length ≤ 6 * t.size)
      ⟨[], [some t], none, rfl, by show _ = 2 * t.size + 0; omega, s1.trans s2, s2 _ _ ha0, upd_same, .inl ⟨rfl, rfl⟩, fun u hu => ?_, by show 2 * t.size + 0 ≤ _; omega, by show 0 + 3 * (2 * t.size + 0) ≤ _; omega⟩ ?_ ?_
    · have hu : some u ∈ [some t] := hu
      rw [Option.some.inj (List.mem_singleton.mp hu)]
      exact ⟨ht.keep (Keeps.of (s1.trans s2)), tok⟩
    · rintro m σ H1 ⟨ws, S, y3, rfl, rfl, sm, ha, hb, hS, hn, lm, lw⟩
      have lS := mu_len S
      cases S with
      | nil =>
        refine ⟨false, fun Q hQ => ⟨_, rfl, false, .inl ⟨_, SqL.of hb, rfl⟩, hQ⟩, fun z => (by cases z), fun _ => ⟨ws, y3, rfl, sm, ha, ?_, by omega⟩⟩
        rcases hS with ⟨_, h⟩ | ⟨_, h⟩
        · cases h
        · rw [← h]
          exact (List.append_nil _).symm
      | cons o S =>
        have brev : ((o :: S).reverse.map itV) = S.reverse.map itV ++ [itV o] := by
          rw [List.reverse_cons, List.map_append]
          rfl
        rw [brev] at hb
        refine ⟨true, fun Q hQ => ⟨_, rfl, true, .inl ⟨_, SqL.of hb, by simp⟩, hQ⟩, fun _ => ?_, fun z => (by cases z)⟩
        refine ⟨_, rfl, .inl ⟨rfl, _, SqL.of hb⟩, b, _, itV o, rfl, rfl, hb, by rw [List.length_append, List.length_singleton, Nat.add_sub_cancel, List.getElem?_append_right (Nat.le_refl _), Nat.sub_self]; rfl, ?_⟩
        rw [List.dropLast_concat]
        obtain ⟨H2, hH2⟩ : ∃ H2, H2 = upd H1 b (.lst (S.reverse.map itV)) := ⟨_, rfl⟩
        rw [← hH2]
        have ha2 : H2 a = some (.lst (ws.map V.str)) := by rw [hH2, upd_ne hab]; exact ha
        have hb2 : H2 b = some (.lst (S.reverse.map itV)) := by rw [hH2]; exact upd_same
        have sm2 : Same H H2 := by rw [hH2]; exact same_mut sm nb0
        have kp2 : Keeps K T.C_Node H1 H2 := by rw [hH2]; exact Keeps.lst hb
        have lws : (ws.map V.str).length ≤ 30000 := by
          rw [List.length_map]
          omega
        have lS2 : S.length + 1 ≤ muOf (o :: S) := lS
        cases o with
        | none =>
          refine ⟨_, rfl, rfl, _, rfl, iteT ?_⟩
          refine ⟨_, rfl, .inl ⟨rfl, _, SqL.of ha2⟩, a, _, _, rfl, rfl, ha2, sz2 (by omega), ?_⟩
          have mu1 : muOf (none :: S) = 1 + muOf S := rfl
          refine ⟨muOf S, by omega, ws ++ [(")" : Str)], S, _, rfl, rfl, same_mut sm2 na, by rw [upd_same, List.map_append]; rfl, by rw [upd_ne hab.symm]; exact hb2, .inr ⟨by simp, ?_⟩, fun u hu => ?_, by omega, by rw [List.length_append, List.length_singleton]; omega⟩
          · rcases hS with ⟨_, h⟩ | ⟨_, h⟩
            · cases h
            · rw [← h, List.map_append, List.flatten_append]
              show (_ ++ (cs ")" ++ [])) ++ restOf S = _ ++ 41 :: restOf S
              rw [show cs (")" : Str) = [41] by decide +kernel, List.append_nil, List.append_assoc]
              rfl
          · have h := hn u (List.mem_cons_of_mem _ hu)
            exact ⟨h.1.keep (kp2.trans (Keeps.lst ha2)), h.2⟩
        | some u =>
          refine ⟨_, rfl, rfl, _, rfl, iteF ?_⟩
          obtain ⟨nu, ou⟩ := hn u List.mem_cons_self
          have mu1 : muOf (some u :: S) = 2 * u.size + muOf S := rfl
          have su := size_pos u
          refine ⟨fun σ H' => ∃ ws2 : List Str, σ = [some (.ref t.at), some (.ref a), some (.ref b), some (.ref u.at)] ∧ Same H H' ∧ Keeps K T.C_Node H1 H' ∧ H' a = some (.lst (ws2.map V.str)) ∧ H' b = some (.lst (S.reverse.map itV)) ∧ (ws2.map cs).flatten ++ (u.wr ++ restOf S) = t.wr ∧ ws2.length ≤ ws.length + 1, ?_, ?_⟩
          · refine ⟨_, rfl, !(ws.map V.str).isEmpty, .inl ⟨_, SqL.of ha2, rfl⟩, ?_⟩
            rcases hS with ⟨rfl, h⟩ | ⟨hne, h⟩
            · refine iteF ?_
              injection h with h1 h2
              injection h1 with h1
              subst h1 h2
              exact ⟨[], rfl, sm2, kp2, ha2, hb2, by show [] ++ (u.wr ++ []) = u.wr; rw [List.append_nil]; rfl, Nat.zero_le _⟩
            · have e : (!(ws.map V.str).isEmpty) = true := by
                cases ws with
                | nil => exact absurd rfl hne
                | cons w ws => rfl
              rw [e]
              refine iteT ?_
              refine ⟨_, rfl, .inl ⟨rfl, _, SqL.of ha2⟩, a, _, _, rfl, rfl, ha2, sz2 (by omega), ?_⟩
              refine ⟨ws ++ [(" " : Str)], rfl, same_mut sm2 na, kp2.trans (Keeps.lst ha2), by rw [upd_same, List.map_append]; rfl, by rw [upd_ne hab.symm]; exact hb2, ?_, by rw [List.length_append, List.length_singleton]; exact Nat.le_refl _⟩
              rw [← h, List.map_append, List.flatten_append]
              show (_ ++ (cs " " ++ [])) ++ (u.wr ++ restOf S) = _ ++ 32 :: (u.wr ++ restOf S)
              rw [show cs (" " : Str) = [32] by decide +kernel, List.append_nil, List.append_assoc]
              rfl
          · rintro σ H3 ⟨ws2, rfl, sm3, kp3, ha3, hb3, e3, l3⟩
            refine ⟨_, rfl, .inl ⟨rfl, _, SqL.of ha3⟩, _, rfl, u, rfl, nu.keep kp3, ou.d, fun x H4 s4 ex => ?_⟩
            have ha4 := s4 _ _ ha3
            have hb4 := s4 _ _ hb3
            have sm4 := sm3.trans s4
            rw [List.length_map] at lws
            refine ⟨a, _, _, rfl, rfl, ha4, sz2 (by rw [List.length_map]; omega), ?_⟩
            obtain ⟨H5, hH5⟩ : ∃ H5, H5 = upd H4 a (.lst (ws2.map V.str ++ [.str x])) := ⟨_, rfl⟩
            rw [← hH5]
            have sm5 : Same H H5 := by rw [hH5]; exact same_mut sm4 na
            have kp5 : Keeps K T.C_Node H1 H5 := by rw [hH5]; exact (kp3.trans (Keeps.of s4)).trans (Keeps.lst ha4)
            have ha5 : H5 a = some (.lst ((ws2 ++ [x]).map V.str)) := by rw [hH5, upd_same, List.map_append]; rfl
            have hb5 : H5 b = some (.lst (S.reverse.map itV)) := by rw [hH5, upd_ne hab.symm]; exact hb4
            have lSr : (S.reverse.map itV).length = S.length := by rw [List.length_map, List.length_reverse]
            refine ⟨_, rfl, .inl ⟨rfl, _, SqL.of hb5⟩, b, _, _, rfl, rfl, hb5, sz2 (by rw [lSr]; omega), ?_⟩
            obtain ⟨H6, hH6⟩ : ∃ H6, H6 = upd H5 b (.lst (S.reverse.map itV ++ [.non])) := ⟨_, rfl⟩
            rw [← hH6]
            have sm6 : Same H H6 := by rw [hH6]; exact same_mut sm5 nb0
            have kp6 : Keeps K T.C_Node H1 H6 := by rw [hH6]; exact kp5.trans (Keeps.lst hb5)
            have ha6 : H6 a = some (.lst ((ws2 ++ [x]).map V.str)) := by rw [hH6, upd_ne hab]; exact ha5
            have hb6 : H6 b = some (.lst (S.reverse.map itV ++ [.non])) := by rw [hH6]; exact upd_same
            obtain ⟨dx, tn, kn, kt⟩ := (nu.keep kp6).it
            have lks : u.ks.length ≤ u.size := by
              rw [← size_rows 0 u]
              exact kids_le 0 u
            refine ⟨_, rfl, .inl ⟨rfl, _, SqL.of hb6⟩, _, rfl, _, _, _, _, _, rfl, kn, T.CL_Node, T.NA_Node_nodes, nf_nodes _ _, tn, _, rfl, kt, Nat.lt_of_le_of_lt (show _ ≤ 5000 by rw [List.length_map]; omega) (by decide), fun p np => ?_⟩
            have s7 := same_upd (o := .lst (u.ks.map fun t => V.ref t.at).reverse) np
            have hb7 := s7 _ _ hb6
            refine ⟨b, p, _, _, rfl, rfl, hb7, upd_same, szM (by rw [List.length_append, lSr, List.length_reverse, List.length_map, List.length_singleton]; omega), ?_⟩
            have bst : (S.reverse.map itV ++ [.non]) ++ (u.ks.map fun t => V.ref t.at).reverse = ((u.ks.map some ++ none :: S).reverse.map itV) := by
              rw [List.reverse_append, List.reverse_cons, List.map_append, List.map_append, ← List.map_reverse, ← List.map_reverse, List.map_map]
              rfl
            rw [bst]
            have eu : u.size = 1 + sizesL u.ks := by
              cases u
              rfl
            have muk : muOf (u.ks.map some ++ none :: S) = 2 * sizesL u.ks + (1 + muOf S) := mu_kids u.ks (none :: S)
            refine ⟨muOf (u.ks.map some ++ none :: S), by omega, ws2 ++ [x], u.ks.map some ++ none :: S, _, rfl, rfl, same_mut (sm6.trans s7) nb0, by rw [upd_ne hab]; exact s7 _ _ ha6, upd_same, .inr ⟨by simp, ?_⟩, fun c hc => ?_, by omega, by rw [List.length_append, List.length_singleton]; omega⟩
            · rw [rest_kids, List.map_append, List.flatten_append]
              show (_ ++ (cs x ++ [])) ++ (wrL u.ks ++ 41 :: restOf S) = t.wr
              rw [List.append_nil, ex, ← e3]
              cases u
              show (_ ++ 40 :: wd _) ++ (wrL _ ++ 41 :: restOf S) = _ ++ (40 :: (wd _ ++ (wrL _ ++ [41])) ++ restOf S)
              simp only [List.append_assoc, List.cons_append, List.nil_append, Tr.d, Tr.ks]
            · have kp7 := kp6.trans ((Keeps.of (K := K) (C := T.C_Node) s7).trans (Keeps.lst (o := .lst ((u.ks.map some ++ none :: S).reverse.map itV)) hb7))
              rcases List.mem_append.mp hc with h | h
              · obtain ⟨c', hc', e⟩ := List.mem_map.mp h
                obtain rfl : c' = c := Option.some.inj e
                exact ⟨(NodesAt.mem nu.kids hc').keep kp7, TrsOk.mem ou.ks hc'⟩
              · rcases List.mem_cons.mp h with h | h
                · cases h
                · have h := hn c (List.mem_cons_of_mem _ h)
                  exact ⟨h.1.keep kp7, h.2⟩
    · rintro σ H1 ⟨ws, y3, rfl, sm, ha, ew, lw⟩
      have sz : (ws.map fun x : Str => x.length).sum = t.wr.length := by
        rw [← ew, List.length_flatten, List.map_map]
        congr 1
      refine ⟨⟨_, rfl⟩, _, rfl, _, a, ws, rfl, rfl, .inl (SqL.of ha), ?_, q _ H1 sm ?_⟩
      · show _ + ws.length * 0 ≤ _
        omega
      · rw [cs_joinT (show cs ("" : Str) = [] by decide +kernel)]
        exact ew

/-! ### the reader -/
def rdf (z : Str) (k : Int) (pc : Str) : List (Str × V) := putF "_plain_chars" (.str pc) (putF "_place" (.int k) (putF "_notation" (.str z) []))
theorem rd_notation (z : Str) (k : Int) (pc : Str) : (rdf z k pc).lookup ("_notation" : Str) = some (.str z) := by
  unfold rdf
  rw [lookup_putF, if_neg (by decide +kernel), lookup_putF, if_neg (by decide +kernel), lookup_putF, if_pos rfl]
theorem rd_place (z : Str) (k : Int) (pc : Str) : (rdf z k pc).lookup ("_place" : Str) = some (.int k) := by
  unfold rdf
  rw [lookup_putF, if_neg (by decide +kernel), lookup_putF, if_pos rfl]
theorem rd_plain_chars (z : Str) (k : Int) (pc : Str) : (rdf z k pc).lookup ("_plain_chars" : Str) = some (.str pc) := by
  unfold rdf
  rw [lookup_putF, if_pos rfl]
theorem rd_no (z : Str) (k : Int) (pc : Str) {m : Str} (h1 : ¬ m = "_plain_chars") (h2 : ¬ m = "_place") (h3 : ¬ m = "_notation") : (rdf z k pc).lookup m = none := by
  unfold rdf
  rw [lookup_putF, if_neg h1, lookup_putF, if_neg h2, lookup_putF, if_neg h3]
  rfl
def plainL : List Nat := (cs plainS).filter fun c => decide (c ≠ 10) && decide (c ≠ 9) && decide (c ≠ 92) && decide (c ≠ 34)
/-- the reader at r: its text, its place -/
structure RdAt (C : Addr) (H : Hp) (r : Addr) (z : Str) (k : Nat) : Prop where
  ex : ∃ dx pc, H r = some (.ins C dx (rdf z (k : Int) pc)) ∧ cs pc = plainL
  le : z.length ≤ 4000000
def spReaderInit (C : Addr) : Sp := fun vs H Q _ => ∃ (p dx : Addr) (z : Str), vs = [.ref p, .str z] ∧ H p = some (.ins C dx []) ∧ ∀ pc H', Same (upd H p (.ins C dx (rdf z 0 pc))) H' → cs pc = plainL → Q .non H'
def spChar (C : Addr) : Sp := fun vs H Q _ => ∃ (r : Addr) (z : Str) (k : Nat), vs = [.ref r] ∧ RdAt C H r z k ∧ ∀ c : Str, cs c = ((cs z).drop k).take 1 → Q (.str c) H
theorem ok_char (T : Txt K mg) : FnOk P w K mg base CX0 1 T.a_Reader__char T.fd_Reader__char ["self"] (spChar T.C_Reader) := by
  refine T.F_Reader__char.ok sc_Reader__char (fun vs H Q E h => ?_) (fun cdv A outer s H vs Q E hr h => ?_)
  · obtain ⟨r, z, k, rfl, _⟩ := h
    rfl
  · obtain ⟨r, z, k, rfl, ⟨⟨dx, pc, hk, hpc⟩, lz⟩, q⟩ := h
    refine ⟨_, (pss_one (ps_ret (pe_slice sl_str (pe_fld (pv 0) rfl) (po_some (pe_fld (pv 0) rfl)) (po_some (pe_op op_add (pe_fld (pv 0) rfl) pe_int))))), ?_⟩
    refine ⟨_, rfl, _, _, _, _, _, rfl, hk, T.CL_Reader, T.NA_Reader__notation, rd_notation _ _ _, _, rfl, _, _, _, _, _, rfl, hk, T.CL_Reader, T.NA_Reader__place, rd_place _ _ _, _, rfl, _, rfl, _, _, _, _, _, rfl, hk, T.CL_Reader, T.NA_Reader__place, rd_place _ _ _, _, _, rfl, rfl, _, rfl, z, rfl, szM lz, q _ ?_⟩
    have e : (fun i j : Int => V.int (i + j)) (k : Int) 1 = V.int ((k + 1 : Nat) : Int) := congrArg V.int (by omega)
    rw [show (k : Int) + 1 = ((k + 1 : Nat) : Int) by omega, cut_mid, List.drop_take, show k + 1 - k = 1 by omega]
theorem char_some {z c : Str} {k x : Nat} {l : List Nat} (h : cs c = ((cs z).drop k).take 1) (hl : (cs z).drop k = x :: l) : c = sg x := cs_inj (by rw [h, hl]; rfl)
theorem char_none {z c : Str} {k : Nat} (h : cs c = ((cs z).drop k).take 1) (hl : (cs z).drop k = []) : c = "" := cs_inj (by rw [h, hl]; decide +kernel)
theorem rd_put (z : Str) (k k' : Int) (pc : Str) : putF "_place" (.int k') (rdf z k pc) = rdf z k' pc := rfl
theorem sg_ne (x : Nat) : ¬ V.str (sg x) = V.str (Str.ofString "") := fun e => by
  have h1 : (sg x) = Str.ofString "" := by injection e
  have h2 := congrArg (fun z : Str => (cs z).length) h1
  have h3 : (cs (Str.ofString "")).length = 0 := by decide +kernel
  have h2 : 1 = (cs (Str.ofString "")).length := h2
  rw [h3] at h2
  cases h2
theorem rdf_len (z : Str) (k : Int) (pc : Str) : (rdf z k pc).length < 1000 := by
  have h1 := putF_le "_notation" (.str z) []
  have h2 := putF_le "_place" (.int k) (putF "_notation" (.str z) [])
  have h3 := putF_le "_plain_chars" (.str pc) (putF "_place" (.int k) (putF "_notation" (.str z) []))
  have h0 : ([] : List (Str × V)).length = 0 := rfl
  unfold rdf
  omega
/-- one sign is passed -/
def spPass (C : Addr) : Sp := fun vs H Q _ => ∃ (r : Addr) (chars z : Str) (k x : Nat) (l : List Nat), vs = [.ref r, .str chars] ∧ RdAt C H r z k ∧ (cs z).drop k = x :: l ∧ x ∈ cs chars ∧ chars.length ≤ 4000000 ∧ ∀ v H', But r H H' → RdAt C H' r z (k + 1) → Q v H'
theorem ok_pass (T : Txt K mg) : FnOk P w K mg base CX0 2 T.a_Reader__pass_one_of T.fd_Reader__pass_one_of ["self", "chars"] (spPass T.C_Reader) := by
  have G_Reader__char : FnOk P w K mg base CX0 1 T.a_Reader__char T.fd_Reader__char ["self"] (spChar T.C_Reader) := ok_char T
  refine T.F_Reader__pass_one_of.ok sc_Reader__pass_one_of (fun vs H Q E h => ?_) (fun cdv A outer s H vs Q E hr h => ?_)
  · obtain ⟨r, chars, z, k, x, l, rfl, _⟩ := h
    rfl
  · have hr_Reader__char : Room 1 _ := hr
    obtain ⟨r, chars, z, k, x, l, rfl, hR, hz, hx, lc, q⟩ := h
    refine ⟨_, (pss_cons (ps_if (PW.pt (pw_or (pt_cmpR op_eq (pe_meth0 (pv 0) T.CL_Reader T.ME_Reader_char G_Reader__char hr_Reader__char T.b_Reader__char .nil pass0) pe_str (nomark _)) (pw_or1 (pt_cmpR op_notIn_sign (pe_meth0 (pv 0) T.CL_Reader T.ME_Reader_char G_Reader__char hr_Reader__char T.b_Reader__char .nil pass0) (pv 1) rfl)))) (pss_one ps_never) pss_nil)
      (pss_one (ps_fldaug (pv 0) pe_int in_add))), ?_⟩
    obtain ⟨dx, pc, hk, hpc⟩ := id hR.ex
    refine ⟨_, rfl, _, _, _, rfl, hk, rd_no _ _ _ (by decide +kernel) (by decide +kernel) (by decide +kernel), r, z, k, rfl, hR, fun c hc => ?_⟩
    have ec := char_some hc hz
    subst ec
    refine ⟨rfl, _, rfl, ite2 (fun h => absurd (of_decide_eq_true h) (sg_ne x)) (fun _ => ?_)⟩
    refine ⟨_, rfl, _, _, _, rfl, hk, rd_no _ _ _ (by decide +kernel) (by decide +kernel) (by decide +kernel), r, z, k, rfl, hR, fun c hc => ?_⟩
    have ec := char_some hc hz
    subst ec
    refine ⟨_, rfl, x, chars, rfl, rfl, _, rfl, ?_⟩
    rw [show decide (x ∈ chars.cps.toList) = true from decide_eq_true hx]
    refine iteF ?_
    refine ⟨_, rfl, r, _, dx, _, .int (k : Int), rfl, hk, T.CL_Reader, T.NA_Reader__place, rd_place _ _ _, ?_⟩
    refine ⟨_, _, rfl, rfl, dx, _, hk, rdf_len _ _ _, q _ _ But.set ⟨⟨dx, pc, ?_, hpc⟩, hR.le⟩⟩
    rw [upd_same, rd_put, show (k : Int) + 1 = ((k + 1 : Nat) : Int) by omega]
theorem ok_sign (T : Txt K mg) : FnOk P w K mg base CX0 3 T.a_Reader_sign T.fd_Reader_sign ["self", "char"] (spPass T.C_Reader) := by
  have G_Reader__pass_one_of : FnOk P w K mg base CX0 2 T.a_Reader__pass_one_of T.fd_Reader__pass_one_of ["self", "chars"] (spPass T.C_Reader) := ok_pass T
  refine T.F_Reader_sign.ok sc_Reader_sign (fun vs H Q E h => ?_) (fun cdv A outer s H vs Q E hr h => ?_)
  · obtain ⟨r, chars, z, k, x, l, rfl, _⟩ := h
    rfl
  · have hr_Reader__pass_one_of : Room 2 _ := hr
    obtain ⟨r, chars, z, k, x, l, rfl, hR, hz, hx, lc, q⟩ := h
    refine ⟨_, (pss_one (ps_expr (pe_meth (pv 0) T.CL_Reader T.ME_Reader_pass_one_of G_Reader__pass_one_of hr_Reader__pass_one_of T.b_Reader__pass_one_of .nil pass0 (pa_cons (pv 1) pa_nil)))), ?_⟩
    obtain ⟨dx, pc, hk, hpc⟩ := id hR.ex
    refine ⟨_, rfl, _, _, _, rfl, hk, rd_no _ _ _ (by decide +kernel) (by decide +kernel) (by decide +kernel), _, rfl, r, chars, z, k, x, l, rfl, hR, hz, hx, lc, fun v H' b' R' => q _ H' b' R'⟩
/-- ')' ends a node, ' (' begins the next -/
def spGoesOn (C : Addr) : Sp := fun vs H Q _ => ∃ (r : Addr) (z : Str) (k : Nat), vs = [.ref r] ∧ RdAt C H r z k ∧
  ((∃ l, (cs z).drop k = 41 :: l ∧ ∀ H', But r H H' → RdAt C H' r z (k + 1) → Q (.bl false) H') ∨ (∃ l, (cs z).drop k = 32 :: 40 :: l ∧ ∀ H', But r H H' → RdAt C H' r z (k + 2) → Q (.bl true) H'))
theorem ok_goes_on (T : Txt K mg) : FnOk P w K mg base CX0 4 T.a_Reader_goes_on T.fd_Reader_goes_on ["self"] (spGoesOn T.C_Reader) := by
  have G_Reader__char : FnOk P w K mg base CX0 1 T.a_Reader__char T.fd_Reader__char ["self"] (spChar T.C_Reader) := ok_char T
  have G_Reader_sign : FnOk P w K mg base CX0 3 T.a_Reader_sign T.fd_Reader_sign ["self", "char"] (spPass T.C_Reader) := ok_sign T
  refine T.F_Reader_goes_on.ok sc_Reader_goes_on (fun vs H Q E h => ?_) (fun cdv A outer s H vs Q E hr h => ?_)
  · obtain ⟨r, z, k, rfl, _⟩ := h
    rfl
  · have hr_Reader__char : Room 1 _ := hr.mono (by decide)
    have hr_Reader_sign : Room 3 _ := hr
    obtain ⟨r, z, k, rfl, hR, h⟩ := h
    refine ⟨_, (pss_cons (ps_if (pt_cmpR op_eq (pe_meth0 (pv 0) T.CL_Reader T.ME_Reader_char G_Reader__char hr_Reader__char T.b_Reader__char .nil pass0) pe_str (nomark _)) (pss_cons (ps_fldaug (pv 0) pe_int in_add)
      (pss_one (ps_ret pe_bl))) pss_nil)
      (pss_cons (ps_expr (pe_meth (pv 0) T.CL_Reader T.ME_Readersign G_Reader_sign hr_Reader_sign T.b_Reader_sign .nil pass0 (pa_cons pe_str pa_nil)))
      (pss_cons (ps_expr (pe_meth (pv 0) T.CL_Reader T.ME_Readersign G_Reader_sign hr_Reader_sign T.b_Reader_sign .nil pass0 (pa_cons pe_str pa_nil)))
      (pss_one (ps_ret pe_bl))))), ?_⟩
    obtain ⟨dx, pc, hk, hpc⟩ := id hR.ex
    have no : ∀ {m : Str}, ¬ m = "_plain_chars" → ¬ m = "_place" → ¬ m = "_notation" → (rdf z (k : Int) pc).lookup m = none := fun h1 h2 h3 => rd_no _ _ _ h1 h2 h3
    refine ⟨_, rfl, _, _, _, rfl, hk, no (by decide +kernel) (by decide +kernel) (by decide +kernel), r, z, k, rfl, hR, fun c hc => ?_⟩
    have e41 := fun x => sg_dec x 41 ")" (by decide +kernel)
    rcases h with ⟨l, hl, q⟩ | ⟨l, hl, q⟩
    · obtain rfl := char_some hc hl
      refine ⟨rfl, _, rfl, ite2 (fun _ => ?_) (fun h => (h (by rw [e41]; rfl)).elim)⟩
      refine ⟨_, rfl, r, _, dx, _, .int (k : Int), rfl, hk, T.CL_Reader, T.NA_Reader__place, rd_place _ _ _, _, _, rfl, rfl, dx, _, hk, rdf_len _ _ _, q _ But.set ⟨⟨dx, pc, ?_, hpc⟩, hR.le⟩⟩
      rw [upd_same, rd_put, show (k : Int) + 1 = ((k + 1 : Nat) : Int) by omega]
    · obtain rfl := char_some hc hl
      refine ⟨rfl, _, rfl, ite2 (fun h => absurd h (by rw [e41]; decide)) (fun _ => ?_)⟩
      refine ⟨_, rfl, _, _, _, rfl, hk, no (by decide +kernel) (by decide +kernel) (by decide +kernel), r, _, z, k, 32, 40 :: l, rfl, hR, hl, by decide +kernel, by decide +kernel, fun v H1 b1 R1 => ?_⟩
      obtain ⟨dx1, pc1, hk1, hpc1⟩ := id R1.ex
      have hl1 : (cs z).drop (k + 1) = 40 :: l := by
        rw [← List.drop_drop, hl]
        rfl
      refine ⟨_, rfl, _, _, _, rfl, hk1, rd_no _ _ _ (by decide +kernel) (by decide +kernel) (by decide +kernel), r, _, z, k + 1, 40, l, rfl, R1, hl1, by decide +kernel, by decide +kernel, fun v H2 b2 R2 => ?_⟩
      exact q H2 (b1.trans b2) R2
theorem ok_finish (T : Txt K mg) : FnOk P w K mg base CX0 2 T.a_Reader_finish T.fd_Reader_finish ["self"] (fun vs H Q _ => ∃ (r : Addr) (z : Str) (k : Nat), vs = [.ref r] ∧ RdAt T.C_Reader H r z k ∧ (cs z).drop k = [] ∧ ∀ v, Q v H) := by
  have G_Reader__char : FnOk P w K mg base CX0 1 T.a_Reader__char T.fd_Reader__char ["self"] (spChar T.C_Reader) := ok_char T
  refine T.F_Reader_finish.ok sc_Reader_finish (fun vs H Q E h => ?_) (fun cdv A outer s H vs Q E hr h => ?_)
  · obtain ⟨r, z, k, rfl, _⟩ := h
    rfl
  · have hr_Reader__char : Room 1 _ := hr
    obtain ⟨r, z, k, rfl, hR, hl, q⟩ := h
    refine ⟨_, (pss_one (ps_if (pt_cmpR op_ne (pe_meth0 (pv 0) T.CL_Reader T.ME_Reader_char G_Reader__char hr_Reader__char T.b_Reader__char .nil pass0) pe_str (nomark _)) (pss_one ps_never) pss_nil)), ?_⟩
    obtain ⟨dx, pc, hk, hpc⟩ := id hR.ex
    refine ⟨_, rfl, _, _, _, rfl, hk, rd_no _ _ _ (by decide +kernel) (by decide +kernel) (by decide +kernel), r, z, k, rfl, hR, fun c hc => ?_⟩
    obtain rfl := char_none hc hl
    refine ⟨rfl, _, rfl, itF (by rw [decide_eq_true rfl]; rfl) ?_⟩
    exact q _

/-! ### the reader's numbers -/
def digS : Str := "0123456789"
theorem dig_mem {c : Nat} : c ∈ cs digS ↔ 48 ≤ c ∧ c ≤ 57 := by
  rw [show cs digS = [48, 49, 50, 51, 52, 53, 54, 55, 56, 57] by decide +kernel]
  simp only [List.mem_cons, List.not_mem_nil, or_false]
  omega
theorem num_digs {i : Int} (h : 0 ≤ i) : ∀ c ∈ numT i, c ∈ cs digS := by
  obtain ⟨n, rfl⟩ := Int.eq_ofNat_of_zero_le h
  rw [num_nat]
  exact fun c hc => dig_mem.mpr (TL.numL_digits n c hc)
theorem num_zero {i : Int} (h : 0 ≤ i) (r : List Nat) (e : numT i = 48 :: r) : r = [] := by
  obtain ⟨n, rfl⟩ := Int.eq_ofNat_of_zero_le h
  rw [num_nat] at e
  by_cases h1 : 1 ≤ n
  · obtain ⟨c, l, e2, hc⟩ := numL_first n h1
    rw [e] at e2
    have := (List.cons.inj e2).1
    omega
  · obtain rfl : n = 0 := by omega
    rw [TL.numL_lt (by decide)] at e
    exact (List.cons.inj e).2.symm
theorem num_ne {i : Int} (h : 0 ≤ i) : ∃ c r, numT i = c :: r := by
  obtain ⟨n, rfl⟩ := Int.eq_ofNat_of_zero_le h
  rw [num_nat]
  cases e : TL.numL n with
  | nil => exact absurd e (TL.numL_ne n)
  | cons c r => exact ⟨c, r, rfl⟩
theorem drop_more {α : Type} {z : List α} {k : Nat} {a b : List α} (h : z.drop k = a ++ b) : z.drop (k + a.length) = b := by
  rw [← List.drop_drop, h, List.drop_left]
theorem drop_get {α : Type} {z : List α} {k j : Nat} {a b : List α} {c : α} (h : z.drop k = a ++ b) (hc : a[j]? = some c) : z.drop (k + j) = c :: (a.drop (j + 1) ++ b) := by
  have hj := (List.getElem?_eq_some_iff.mp hc).1
  rw [← List.drop_drop, h, List.drop_append_of_le_length (by omega), drop_at hc]
  rfl
def spNumber (C : Addr) : Sp := fun vs H Q _ => ∃ (r : Addr) (b : Bool) (z : Str) (k x : Nat) (i : Int) (l : List Nat), vs = [.ref r, .bl b] ∧ RdAt C H r z k ∧ NumOk i ∧ (b = false → 0 ≤ i) ∧ (cs z).drop k = numT i ++ x :: l ∧ ¬ x ∈ cs digS ∧ ∀ H', But r H H' → RdAt C H' r z (k + (numT i).length) → Q (.int i) H'
theorem ask_in {C r : Addr} {z x : Str} {k y : Nat} {t : List Nat} {σ : L2.St} {H : Hp} {Qb : Bool → Hp → Prop} (hR : RdAt C H r z k) (hy : (cs z).drop k = y :: t) (hQ : Qb (decide (y ∈ cs x)) H) :
    (tAnd (tTest (tOp rNe (tMeth C (Str.ofString "_char") (spChar C) [] E0 (tVar 0) tNil) (tC (V.str (Str.ofString ""))))) (tTest (tOp (fun x y H Q => ∃ c z, x = V.str { cps := #[c] } ∧ y = V.str z ∧ Q (V.bl (decide (c ∈ z.cps.toList))) H) (tMeth C (Str.ofString "_char") (spChar C) [] E0 (tVar 0) tNil) (tC (V.str x))))) (some (.ref r) :: σ) H Qb := by
  obtain ⟨dx, pc, hk, hpc⟩ := id hR.ex
  have no : ∀ {m : Str}, ¬ m = "_plain_chars" → ¬ m = "_place" → ¬ m = "_notation" → (rdf z (k : Int) pc).lookup m = none := fun h1 h2 h3 => rd_no _ _ _ h1 h2 h3
  refine ⟨_, rfl, _, _, _, rfl, hk, no (by decide +kernel) (by decide +kernel) (by decide +kernel), r, z, k, rfl, hR, fun c hc => ?_⟩
  obtain rfl := char_some hc hy
  refine ⟨rfl, _, rfl, ite2 (fun _ => ?_) (fun h => absurd (show (!decide (V.str (sg y) = V.str (Str.ofString ""))) = true by rw [decide_eq_false (sg_ne y)]; rfl) h)⟩
  refine ⟨_, rfl, _, _, _, rfl, hk, no (by decide +kernel) (by decide +kernel) (by decide +kernel), r, z, k, rfl, hR, fun c hc => ?_⟩
  obtain rfl := char_some hc hy
  exact ⟨_, x, rfl, rfl, _, rfl, hQ⟩
theorem ok_number (T : Txt K mg) : FnOk P w K mg base CX0 4 T.a_Reader__number T.fd_Reader__number ["self", "signed"] (spNumber T.C_Reader) := by
  have G_Reader__char : FnOk P w K mg base CX0 1 T.a_Reader__char T.fd_Reader__char ["self"] (spChar T.C_Reader) := ok_char T
  have G_Reader__pass_one_of : FnOk P w K mg base CX0 2 T.a_Reader__pass_one_of T.fd_Reader__pass_one_of ["self", "chars"] (spPass T.C_Reader) := ok_pass T
  have G_Reader_sign : FnOk P w K mg base CX0 3 T.a_Reader_sign T.fd_Reader_sign ["self", "char"] (spPass T.C_Reader) := ok_sign T
  refine T.F_Reader__number.ok sc_Reader__number (fun vs H Q E h => ?_) (fun cdv A outer s H vs Q E hr h => ?_)
  · obtain ⟨r, b, z, k, x, i, l, rfl, _⟩ := h
    rfl
  · have hr_Reader__char : Room 1 _ := hr.mono (by decide)
    have hr_Reader__pass_one_of : Room 2 _ := hr.mono (by decide)
    have hr_Reader_sign : Room 3 _ := hr
    obtain ⟨r, b, z, k, x, i, l, rfl, hR, oi, bi, hz, hx, q⟩ := h
    refine ⟨_, (pss_cons (ps_if (PW.pt (pw_and (pt_val (pv 1)) (pw_and1 (pt_cmpR op_eq (pe_meth0 (pv 0) T.CL_Reader T.ME_Reader_char G_Reader__char hr_Reader__char T.b_Reader__char .nil pass0) pe_str (nomark _))))) (pss_cons (ps_fldaug (pv 0) pe_int in_add)
      (pss_cons (ps_expr (pe_meth (pv 0) T.CL_Reader T.ME_Readersign G_Reader_sign hr_Reader_sign T.b_Reader_sign .nil pass0 (pa_cons pe_str pa_nil)))
      (pss_one (ps_ret (pe_un un_neg pe_int))))) pss_nil)
      (pss_cons (ps_set (i := 2) sc_Reader__number.nd rfl (.inl rfl) (pe_fld (pv 0) rfl))
      (pss_cons (ps_expr (pe_meth (pv 0) T.CL_Reader T.ME_Reader_pass_one_of G_Reader__pass_one_of hr_Reader__pass_one_of T.b_Reader__pass_one_of .nil pass0 (pa_cons (pe_glob (v := .str "0123456789") (by rfl) T.c_DIGITS.choose_spec ⟨_, rfl⟩) pa_nil)))
      (pss_cons (ps_while PassesOwn.never (PW.pt (pw_and (pt_cmpR op_ne (pe_meth0 (pv 0) T.CL_Reader T.ME_Reader_char G_Reader__char hr_Reader__char T.b_Reader__char .nil pass0) pe_str (nomark _)) (pw_and1 (pt_cmpR op_in_sign (pe_meth0 (pv 0) T.CL_Reader T.ME_Reader_char G_Reader__char hr_Reader__char T.b_Reader__char .nil pass0) (pe_glob (v := .str "0123456789") (by rfl) T.c_DIGITS.choose_spec ⟨_, rfl⟩) rfl)))) (pss_cons (ps_if (PW.pt (pw_or (pt_cmpR op_eq (pe_ix ix_str (pe_fld (pv 0) rfl) (pv 2) (fun _ _ => rfl)) pe_str (nomark _)) (pw_or1 (pt_cmpR op_eq (pe_op op_sub (pe_fld (pv 0) rfl) (pv 2)) (pe_glob (v := .int 9) (by rfl) T.c_MOST_DIGITS.choose_spec ⟨_, rfl⟩) (nomark _))))) (pss_one ps_never) pss_nil)
      (pss_one (ps_fldaug (pv 0) pe_int in_add))))
      (pss_one (ps_ret (pe_callTy call_int_str (by rfl) T.m_int (by decide +kernel) (pa_cons (pe_slice sl_str (pe_fld (pv 0) rfl) (po_some (pv 2)) (po_some (pe_fld (pv 0) rfl))) pa_nil)))))))), ?_⟩
    obtain ⟨dx, pc, hk, hpc⟩ := id hR.ex
    have no : ∀ {m : Str}, ¬ m = "_plain_chars" → ¬ m = "_place" → ¬ m = "_notation" → (rdf z (k : Int) pc).lookup m = none := fun h1 h2 h3 => rd_no _ _ _ h1 h2 h3
    have e45 := fun x => sg_dec x 45 "-" (by decide +kernel)
    rcases oi with rfl | ⟨i0, i9⟩
    · obtain rfl : b = true := by
        cases b with
        | false => exact absurd (bi rfl) (by decide)
        | true => rfl
      rw [num_neg] at hz q
      refine ⟨_, rfl, true, rfl, iteT ?_⟩
      refine ⟨_, rfl, _, _, _, rfl, hk, no (by decide +kernel) (by decide +kernel) (by decide +kernel), r, z, k, rfl, hR, fun c hc => ?_⟩
      obtain rfl := char_some hc hz
      refine ⟨rfl, _, rfl, ite2 (fun _ => ?_) (fun h => (h (by rw [e45]; rfl)).elim)⟩
      refine ⟨_, rfl, r, _, dx, _, .int (k : Int), rfl, hk, T.CL_Reader, T.NA_Reader__place, rd_place _ _ _, _, _, rfl, rfl, dx, _, hk, rdf_len _ _ _, ?_⟩
      have R1 : RdAt T.C_Reader (upd H r (.ins T.C_Reader dx (putF "_place" (.int ((k : Int) + 1)) (rdf z (k : Int) pc)))) r z (k + 1) := ⟨⟨dx, pc, by rw [upd_same, rd_put, show (k : Int) + 1 = ((k + 1 : Nat) : Int) by omega], hpc⟩, hR.le⟩
      obtain ⟨dx1, pc1, hk1, hpc1⟩ := id R1.ex
      have hz1 : (cs z).drop (k + 1) = 49 :: x :: l := drop_get (a := [45, 49]) (j := 1) hz rfl
      refine ⟨_, rfl, _, _, _, rfl, hk1, rd_no _ _ _ (by decide +kernel) (by decide +kernel) (by decide +kernel), r, _, z, k + 1, 49, x :: l, rfl, R1, hz1, by decide +kernel, by decide +kernel, fun v H2 b2 R2 => ?_⟩
      exact ⟨_, rfl, q H2 (But.set.trans b2) R2⟩
    · obtain ⟨c0, r0, e0⟩ := num_ne i0
      have digs := num_digs i0
      have ln := num_len (pos_num ⟨i0, i9⟩)
      have hz0 : (cs z).drop k = c0 :: (r0 ++ x :: l) := by rw [hz, e0]; rfl
      have hc0 : c0 ∈ cs digS := digs c0 (by rw [e0]; exact List.mem_cons_self)
      refine sif (fun H2 => H2 = H) False (fun Qb hQb => ?_) (fun h => h.elim) (fun _ H2 e2 => ?_)
      · refine ⟨_, rfl, b, rfl, ?_⟩
        cases b with
        | false => exact iteF (hQb _ _ rfl ⟨fun h => (by cases h), fun h => h.elim⟩)
        | true =>
          refine iteT ⟨_, rfl, _, _, _, rfl, hk, no (by decide +kernel) (by decide +kernel) (by decide +kernel), r, z, k, rfl, hR, fun c hc => ?_⟩
          obtain rfl := char_some hc hz0
          have h45 : ¬ c0 = 45 := fun e => by
            rw [e] at hc0
            exact absurd (dig_mem.mp hc0).1 (by decide)
          refine ⟨rfl, _, rfl, hQb _ _ rfl ⟨fun h => ?_, fun h => h.elim⟩⟩
          rw [e45] at h
          exact h45 (of_decide_eq_true h)
      · subst e2
        refine ⟨_, rfl, _, _, _, _, _, rfl, hk, T.CL_Reader, T.NA_Reader__place, rd_place _ _ _, ?_⟩
        refine ⟨_, rfl, _, _, _, rfl, hk, no (by decide +kernel) (by decide +kernel) (by decide +kernel), r, _, z, k, c0, r0 ++ x :: l, rfl, hR, hz0, hc0, by decide +kernel, fun v H3 b3 R3 => ?_⟩
        refine while_nat (m0 := r0.length) (fun m σ H' => ∃ j, j + m = r0.length ∧ σ = [some (.ref r), some (.bl b), some (.int (k : Int))] ∧ But r H2 H' ∧ RdAt T.C_Reader H' r z (k + 1 + j))
          (fun σ H' => σ = [some (.ref r), some (.bl b), some (.int (k : Int))] ∧ But r H2 H' ∧ RdAt T.C_Reader H' r z (k + (numT i).length)) ⟨0, by omega, rfl, b3, R3⟩ ?_ ?_
        · rintro m σ H4 ⟨j, hj, rfl, b4, R4⟩
          obtain ⟨dx4, pc4, hk4, hpc4⟩ := id R4.ex
          have no4 : ∀ {m : Str}, ¬ m = "_plain_chars" → ¬ m = "_place" → ¬ m = "_notation" → (rdf z ((k + 1 + j : Nat) : Int) pc4).lookup m = none := fun h1 h2 h3 => rd_no _ _ _ h1 h2 h3
          cases m with
          | zero =>
            have hy : (cs z).drop (k + 1 + j) = x :: l := by
              have e := drop_more hz
              rw [e0, List.length_cons] at e
              rw [show k + 1 + j = k + (r0.length + 1) by omega]
              exact e
            refine ⟨false, fun Q hQ => ask_in R4 hy ?_, fun z => (by cases z), fun _ => ⟨rfl, b4, ?_⟩⟩
            · rw [show decide (x ∈ cs (Str.ofString "0123456789")) = false from decide_eq_false hx]
              exact hQ
            · rw [e0, List.length_cons, show k + (r0.length + 1) = k + 1 + j by omega]
              exact R4
          | succ m =>
            have hj2 : j < r0.length := by omega
            obtain ⟨y, hy0⟩ : ∃ y, r0[j]? = some y := ⟨_, List.getElem?_eq_getElem hj2⟩
            have hy1 : (numT i)[j + 1]? = some y := by rw [e0]; exact hy0
            have hyd : y ∈ cs digS := digs y (List.mem_of_getElem? hy1)
            have hy : (cs z).drop (k + 1 + j) = y :: ((numT i).drop (j + 1 + 1) ++ x :: l) := by
              rw [show k + 1 + j = k + (j + 1) by omega]
              exact drop_get hz hy1
            refine ⟨true, fun Q hQ => ask_in R4 hy ?_, fun _ => ?_, fun z => (by cases z)⟩
            · rw [show decide (y ∈ cs (Str.ofString "0123456789")) = true from decide_eq_true hyd]
              exact hQ
            refine sif (fun H2 => H2 = H4) False (fun Qb hQb => ?_) (fun h => h.elim) (fun _ H5 e5 => ?_)
            · have hc : (cs z)[k]? = some c0 := by
                have e := congrArg (fun t : List Nat => t[0]?) hz0
                simpa using e
              have h48 : ¬ c0 = 48 := fun e => by
                rw [e] at e0
                have := num_zero i0 r0 e0
                rw [this] at hj2
                exact absurd hj2 (Nat.not_lt_zero _)
              refine ⟨_, rfl, _, _, _, _, _, rfl, hk4, T.CL_Reader, T.NA_Reader__notation, rd_notation _ _ _, _, rfl, _, _, c0, rfl, rfl, szM hR.le, atI_nat hc, rfl, _, rfl, ?_⟩
              rw [sg_dec c0 48 "0" (by decide +kernel), decide_eq_false h48]
              refine iteF ⟨_, rfl, _, _, _, _, _, rfl, hk4, T.CL_Reader, T.NA_Reader__place, rd_place _ _ _, _, rfl, _, _, rfl, rfl, rfl, _, rfl, hQb _ _ rfl ⟨fun h => ?_, fun h => h.elim⟩⟩
              have h := of_decide_eq_true h
              injection h with h
              rw [e0, List.length_cons] at ln
              omega
            · subst e5
              refine ⟨_, rfl, r, _, dx4, _, .int ((k + 1 + j : Nat) : Int), rfl, hk4, T.CL_Reader, T.NA_Reader__place, rd_place _ _ _, _, _, rfl, rfl, dx4, _, hk4, rdf_len _ _ _, ?_⟩
              refine ⟨m, Nat.lt_succ_self m, j + 1, by omega, rfl, b4.trans But.set, ⟨⟨dx4, pc4, ?_, hpc4⟩, hR.le⟩⟩
              rw [upd_same, rd_put, show ((k + 1 + j : Nat) : Int) + 1 = ((k + 1 + (j + 1) : Nat) : Int) by omega]
        · rintro σ H4 ⟨rfl, b4, R4⟩
          obtain ⟨dx4, pc4, hk4, hpc4⟩ := id R4.ex
          have es : cutS z (some (k : Int)) (some ((k + (numT i).length : Nat) : Int)) = Str.ofString (toString i) := cs_inj (by
            rw [cut_mid, List.drop_take, hz, show k + (numT i).length - k = (numT i).length by omega, List.take_left]
            rfl)
          refine ⟨_, rfl, _, _, _, _, _, rfl, hk4, T.CL_Reader, T.NA_Reader__notation, rd_notation _ _ _, _, rfl, _, rfl, _, rfl, _, _, _, _, _, rfl, hk4, T.CL_Reader, T.NA_Reader__place, rd_place _ _ _, _, rfl, z, rfl, szM hR.le, ?_⟩
          rw [es]
          refine ⟨_, i, rfl, PySem.W.KIN.num_reads i0 (by omega), ?_, q H4 b4 R4⟩
          rw [len_cs]
          exact Nat.le_trans ln (by decide)

/-! ### the reader's literals and names -/
theorem esc_cases (c : Nat) : (escC c = [c] ∧ ¬ c = 34 ∧ ¬ c = 92 ∧ ¬ c = 10 ∧ ¬ c = 9) ∨ ∃ d, escC c = [92, d] ∧ d ∈ cs "nt\\\"" := by
  unfold escC
  by_cases h1 : c = 10
  · exact .inr ⟨110, by rw [if_pos h1], by decide +kernel⟩
  by_cases h2 : c = 9
  · exact .inr ⟨116, by rw [if_neg h1, if_pos h2], by decide +kernel⟩
  by_cases h3 : c = 34
  · exact .inr ⟨34, by rw [if_neg h1, if_neg h2, if_pos h3], by decide +kernel⟩
  by_cases h4 : c = 92
  · exact .inr ⟨92, by rw [if_neg h1, if_neg h2, if_neg h3, if_pos h4], by decide +kernel⟩
  exact .inl ⟨by rw [if_neg h1, if_neg h2, if_neg h3, if_neg h4], h3, h4, h1, h2⟩
theorem plainL_mem {c : Nat} (h : c ∈ cs plainS) (h1 : ¬ c = 34) (h2 : ¬ c = 92) (h3 : ¬ c = 10) (h4 : ¬ c = 9) : c ∈ plainL := by
  unfold plainL
  rw [List.mem_filter]
  refine ⟨h, ?_⟩
  simp [h1, h2, h3, h4]
def escL (l : List Nat) : List Nat := (l.map escC).flatten
theorem escL_app (a b : List Nat) : escL (a ++ b) = escL a ++ escL b := by
  unfold escL
  rw [List.map_append, List.flatten_append]
theorem escL_one (c : Nat) : escL [c] = escC c := by
  unfold escL
  show escC c ++ [] = _
  rw [List.append_nil]
theorem escL_pos {l : List Nat} (h : l ≠ []) : 1 ≤ (escL l).length := by
  cases l with
  | nil => exact absurd rfl h
  | cons c r =>
    have e : escL (c :: r) = escC c ++ escL r := rfl
    rw [e, List.length_append]
    rcases esc_cases c with ⟨e, _⟩ | ⟨d, e, _⟩ <;> rw [e] <;> simp only [List.length_cons, List.length_nil] <;> omega
def spLit (C : Addr) : Sp := fun vs H Q _ => ∃ (r : Addr) (z : Str) (k : Nat) (b l : List Nat), vs = [.ref r] ∧ RdAt C H r z k ∧ b ≠ [] ∧ (∀ c ∈ b, c ∈ cs plainS) ∧ (cs z).drop k = quoteL b ++ l ∧ ∀ v H', But r H H' → RdAt C H' r z (k + (quoteL b).length) → Q v H'
theorem ok_pass_literal (T : Txt K mg) : FnOk P w K mg base CX0 4 T.a_Reader__pass_literal T.fd_Reader__pass_literal ["self"] (spLit T.C_Reader) := by
  have G_Reader__char : FnOk P w K mg base CX0 1 T.a_Reader__char T.fd_Reader__char ["self"] (spChar T.C_Reader) := ok_char T
  have G_Reader__pass_one_of : FnOk P w K mg base CX0 2 T.a_Reader__pass_one_of T.fd_Reader__pass_one_of ["self", "chars"] (spPass T.C_Reader) := ok_pass T
  have G_Reader_sign : FnOk P w K mg base CX0 3 T.a_Reader_sign T.fd_Reader_sign ["self", "char"] (spPass T.C_Reader) := ok_sign T
  refine T.F_Reader__pass_literal.ok sc_Reader__pass_literal (fun vs H Q E h => ?_) (fun cdv A outer s H vs Q E hr h => ?_)
  · obtain ⟨r, z, k, b, l, rfl, _⟩ := h
    rfl
  · have hr_Reader__char : Room 1 _ := hr.mono (by decide)
    have hr_Reader__pass_one_of : Room 2 _ := hr.mono (by decide)
    have hr_Reader_sign : Room 3 _ := hr
    obtain ⟨r, z, k, b, l, rfl, hR, bn, bp, hz, q⟩ := h
    refine ⟨_, (pss_cons (ps_expr (pe_meth (pv 0) T.CL_Reader T.ME_Readersign G_Reader_sign hr_Reader_sign T.b_Reader_sign .nil pass0 (pa_cons pe_str pa_nil)))
      (pss_cons (ps_set (i := 1) sc_Reader__pass_literal.nd rfl (.inl rfl) (pe_fld (pv 0) rfl))
      (pss_cons (ps_while PassesOwn.never (PW.pt (pw_or (pt_cmpR op_ne (pe_meth0 (pv 0) T.CL_Reader T.ME_Reader_char G_Reader__char hr_Reader__char T.b_Reader__char .nil pass0) pe_str (nomark _)) (pw_or1 (pt_cmpR op_eq (pe_fld (pv 0) rfl) (pv 1) (nomark _))))) (pss_one (ps_if (pt_cmpR op_eq (pe_meth0 (pv 0) T.CL_Reader T.ME_Reader_char G_Reader__char hr_Reader__char T.b_Reader__char .nil pass0) pe_str (nomark _)) (pss_cons (ps_fldaug (pv 0) pe_int in_add)
      (pss_one (ps_expr (pe_meth (pv 0) T.CL_Reader T.ME_Reader_pass_one_of G_Reader__pass_one_of hr_Reader__pass_one_of T.b_Reader__pass_one_of .nil pass0 (pa_cons pe_str pa_nil))))) (pss_one (ps_expr (pe_meth (pv 0) T.CL_Reader T.ME_Reader_pass_one_of G_Reader__pass_one_of hr_Reader__pass_one_of T.b_Reader__pass_one_of .nil pass0 (pa_cons (pe_fld (pv 0) rfl) pa_nil)))))))
      (pss_one (ps_expr (pe_meth (pv 0) T.CL_Reader T.ME_Readersign G_Reader_sign hr_Reader_sign T.b_Reader_sign .nil pass0 (pa_cons pe_str pa_nil))))))), ?_⟩
    obtain ⟨dx, pc, hk, hpc⟩ := id hR.ex
    have e34 := fun x => sg_dec x 34 "\"" (by decide +kernel)
    have e92 := fun x => sg_dec x 92 "\\" (by decide +kernel)
    have hz0 : (cs z).drop k = 34 :: (escL b ++ 34 :: l) := by
      rw [hz]
      unfold quoteL escL
      rw [List.cons_append, List.append_assoc]
      rfl
    have hq : (quoteL b).length = 1 + ((escL b).length + 1) := by
      unfold quoteL escL
      rw [List.length_cons, List.length_append, List.length_singleton]
      omega
    have hz1 : (cs z).drop (k + 1) = escL b ++ 34 :: l := by
      rw [← List.drop_drop, hz0]
      rfl
    refine ⟨_, rfl, _, _, _, rfl, hk, rd_no _ _ _ (by decide +kernel) (by decide +kernel) (by decide +kernel), r, _, z, k, 34, escL b ++ 34 :: l, rfl, hR, hz0, by decide +kernel, by decide +kernel, fun v H1 b1 R1 => ?_⟩
    obtain ⟨dx1, pc1, hk1, hpc1⟩ := id R1.ex
    refine ⟨_, rfl, _, _, _, _, _, rfl, hk1, T.CL_Reader, T.NA_Reader__place, rd_place _ _ _, ?_⟩
    refine while_nat (m0 := b.length) (fun m σ H' => ∃ j, j + m = b.length ∧ σ = [some (.ref r), some (.int ((k + 1 : Nat) : Int))] ∧ But r H H' ∧ RdAt T.C_Reader H' r z (k + 1 + (escL (b.take j)).length))
      (fun σ H' => σ = [some (.ref r), some (.int ((k + 1 : Nat) : Int))] ∧ But r H H' ∧ RdAt T.C_Reader H' r z (k + 1 + (escL b).length)) ⟨0, by omega, rfl, b1, R1⟩ ?_ ?_
    · rintro m σ H4 ⟨j, hj, rfl, b4, R4⟩
      obtain ⟨dx4, pc4, hk4, hpc4⟩ := id R4.ex
      have no4 : ∀ {m : Str}, ¬ m = "_plain_chars" → ¬ m = "_place" → ¬ m = "_notation" → (rdf z ((k + 1 + (escL (b.take j)).length : Nat) : Int) pc4).lookup m = none := fun h1 h2 h3 => rd_no _ _ _ h1 h2 h3
      have hd : (cs z).drop (k + 1 + (escL (b.take j)).length) = escL (b.drop j) ++ 34 :: l := by
        refine drop_more (z := cs z) (k := k + 1) (a := escL (b.take j)) ?_
        rw [hz1, ← List.append_assoc, ← escL_app, List.take_append_drop]
      cases m with
      | zero =>
        have e1 : b.take j = b := List.take_of_length_le (by omega)
        have e2 : b.drop j = [] := List.drop_eq_nil_of_le (by omega)
        rw [e2] at hd
        have hd : (cs z).drop (k + 1 + (escL (b.take j)).length) = 34 :: l := hd
        have lp := escL_pos bn
        refine ⟨false, fun Q hQ => ?_, fun z => (by cases z), fun _ => ⟨rfl, b4, by rw [e1] at R4; exact R4⟩⟩
        refine ⟨_, rfl, _, _, _, rfl, hk4, no4 (by decide +kernel) (by decide +kernel) (by decide +kernel), r, z, _, rfl, R4, fun c hc => ?_⟩
        obtain rfl := char_some hc hd
        refine ⟨rfl, _, rfl, ite2 (fun h => absurd h (by rw [e34]; decide)) (fun _ => ?_)⟩
        refine ⟨_, rfl, _, _, _, _, _, rfl, hk4, T.CL_Reader, T.NA_Reader__place, rd_place _ _ _, _, rfl, rfl, _, rfl, ?_⟩
        rw [decide_eq_false (fun e => by injection e with e; rw [e1] at e; omega)]
        exact hQ
      | succ m =>
        obtain ⟨c, hc0⟩ : ∃ c, b[j]? = some c := ⟨_, List.getElem?_eq_getElem (show j < b.length by omega)⟩
        have hcp := bp c (List.mem_of_getElem? hc0)
        rw [drop_at hc0, show escL (c :: b.drop (j + 1)) = escC c ++ escL (b.drop (j + 1)) from rfl, List.append_assoc] at hd
        have hnx : escL (b.take (j + 1)) = escL (b.take j) ++ escC c := by rw [takeN hc0, escL_app, escL_one]
        refine ⟨true, fun Q hQ => ?_, fun _ => ?_, fun z => (by cases z)⟩
        · refine ⟨_, rfl, _, _, _, rfl, hk4, no4 (by decide +kernel) (by decide +kernel) (by decide +kernel), r, z, _, rfl, R4, fun d hc => ?_⟩
          rcases esc_cases c with ⟨e, n34, n92, _⟩ | ⟨d', e, hd'⟩
          · rw [e] at hd
            obtain rfl := char_some hc hd
            refine ⟨rfl, _, rfl, ?_⟩
            rw [e34, decide_eq_false n34]
            exact iteT hQ
          · rw [e] at hd
            obtain rfl := char_some hc hd
            refine ⟨rfl, _, rfl, ?_⟩
            rw [e34]
            exact iteT hQ
        · refine ⟨_, rfl, _, _, _, rfl, hk4, no4 (by decide +kernel) (by decide +kernel) (by decide +kernel), r, z, _, rfl, R4, fun d hc => ?_⟩
          rcases esc_cases c with ⟨e, n34, n92, n10, n9⟩ | ⟨d', e, hd'⟩
          · rw [e] at hd hnx
            obtain rfl := char_some hc hd
            refine ⟨rfl, _, rfl, ite2 (fun h => absurd h (by rw [e92, decide_eq_false n92]; decide)) (fun _ => ?_)⟩
            refine ⟨_, rfl, _, _, _, rfl, hk4, no4 (by decide +kernel) (by decide +kernel) (by decide +kernel), _, rfl, _, _, _, _, _, rfl, hk4, T.CL_Reader, T.NA_Reader__plain_chars, rd_plain_chars _ _ _, r, pc4, z, _, c, _, rfl, R4, hd, ?_, ?_, fun v H5 b5 R5 => ?_⟩
            · rw [hpc4]
              exact plainL_mem hcp n34 n92 n10 n9
            · rw [len_cs, hpc4]
              exact (by decide +kernel : plainL.length ≤ 4000000)
            · refine ⟨m, Nat.lt_succ_self m, j + 1, by omega, rfl, b4.trans b5, ?_⟩
              rw [hnx, List.length_append, List.length_singleton, ← Nat.add_assoc]
              exact R5
          · rw [e] at hd hnx
            obtain rfl := char_some hc hd
            refine ⟨rfl, _, rfl, ite2 (fun _ => ?_) (fun h => absurd (by rw [e92]; rfl) h)⟩
            refine ⟨_, rfl, r, _, dx4, _, .int ((k + 1 + (escL (b.take j)).length : Nat) : Int), rfl, hk4, T.CL_Reader, T.NA_Reader__place, rd_place _ _ _, _, _, rfl, rfl, dx4, _, hk4, rdf_len _ _ _, ?_⟩
            obtain ⟨n, hn⟩ : ∃ n, n = k + 1 + (escL (b.take j)).length := ⟨_, rfl⟩
            rw [← hn] at hd hk4 R4 ⊢
            have R5 : RdAt T.C_Reader (upd H4 r (.ins T.C_Reader dx4 (putF "_place" (.int ((n : Int) + 1)) (rdf z (n : Int) pc4)))) r z (n + 1) := ⟨⟨dx4, pc4, by rw [upd_same, rd_put, show (n : Int) + 1 = ((n + 1 : Nat) : Int) by omega], hpc4⟩, hR.le⟩
            obtain ⟨dx5, pc5, hk5, hpc5⟩ := id R5.ex
            have hd5 : (cs z).drop (n + 1) = d' :: (escL (b.drop (j + 1)) ++ 34 :: l) := by
              rw [← List.drop_drop, hd]
              rfl
            refine ⟨_, rfl, _, _, _, rfl, hk5, rd_no _ _ _ (by decide +kernel) (by decide +kernel) (by decide +kernel), r, _, z, n + 1, d', _, rfl, R5, hd5, hd', by decide +kernel, fun v H6 b6 R6 => ?_⟩
            refine ⟨m, Nat.lt_succ_self m, j + 1, by omega, rfl, b4.trans (But.set.trans b6), ?_⟩
            rw [hnx, List.length_append, show [92, d'].length = 2 from rfl, show k + 1 + ((escL (b.take j)).length + 2) = n + 1 + 1 by omega]
            exact R6
    · rintro σ H4 ⟨rfl, b4, R4⟩
      obtain ⟨dx4, pc4, hk4, hpc4⟩ := id R4.ex
      have hd : (cs z).drop (k + 1 + (escL b).length) = 34 :: l := drop_more hz1
      refine ⟨_, rfl, _, _, _, rfl, hk4, rd_no _ _ _ (by decide +kernel) (by decide +kernel) (by decide +kernel), r, _, z, _, 34, l, rfl, R4, hd, by decide +kernel, by decide +kernel, fun v H5 b5 R5 => ?_⟩
      rw [show k + 1 + (escL b).length + 1 = k + (quoteL b).length by omega] at R5
      exact q _ H5 (b4.trans b5) R5

def spName (C : Addr) : Sp := fun vs H Q _ => ∃ (r : Addr) (z : Str) (k : Nat) (w l : List Nat), vs = [.ref r] ∧ RdAt C H r z k ∧ Srt w ∧ w.length ≤ 4000 ∧ (cs z).drop k = w ++ 32 :: l ∧ ∀ (x : Str) H', cs x = w → But r H H' → RdAt C H' r z (k + w.length) → Q (.str x) H'
theorem ok_rname (T : Txt K mg) : FnOk P w K mg base CX0 5 T.a_Reader__name T.fd_Reader__name ["self"] (spName T.C_Reader) := by
  have G_Reader__char : FnOk P w K mg base CX0 1 T.a_Reader__char T.fd_Reader__char ["self"] (spChar T.C_Reader) := ok_char T
  have G_Reader__pass_one_of : FnOk P w K mg base CX0 2 T.a_Reader__pass_one_of T.fd_Reader__pass_one_of ["self", "chars"] (spPass T.C_Reader) := ok_pass T
  have G_Reader__pass_literal : FnOk P w K mg base CX0 4 T.a_Reader__pass_literal T.fd_Reader__pass_literal ["self"] (spLit T.C_Reader) := ok_pass_literal T
  refine T.F_Reader__name.ok sc_Reader__name (fun vs H Q E h => ?_) (fun cdv A outer s H vs Q E hr h => ?_)
  · obtain ⟨r, z, k, w, l, rfl, _⟩ := h
    rfl
  · have hr_Reader__char : Room 1 _ := hr.mono (by decide)
    have hr_Reader__pass_one_of : Room 2 _ := hr.mono (by decide)
    have hr_Reader__pass_literal : Room 4 _ := hr
    obtain ⟨r, z, k, wd, l, rfl, hR, hS, hl, hz, q⟩ := h
    refine ⟨_, (pss_cons (ps_set (i := 1) sc_Reader__name.nd rfl (.inl rfl) (pe_fld (pv 0) rfl))
      (pss_cons (ps_if (pt_cmpR op_eq (pe_meth0 (pv 0) T.CL_Reader T.ME_Reader_char G_Reader__char hr_Reader__char T.b_Reader__char .nil pass0) pe_str (nomark _)) (pss_cons (ps_expr (pe_meth0 (pv 0) T.CL_Reader T.ME_Reader_pass_literal G_Reader__pass_literal hr_Reader__pass_literal T.b_Reader__pass_literal .nil pass0))
      (pss_one (ps_ret (pe_slice sl_str (pe_fld (pv 0) rfl) (po_some (pv 1)) (po_some (pe_fld (pv 0) rfl)))))) pss_nil)
      (pss_cons (ps_expr (pe_meth (pv 0) T.CL_Reader T.ME_Reader_pass_one_of G_Reader__pass_one_of hr_Reader__pass_one_of T.b_Reader__pass_one_of .nil pass0 (pa_cons (pe_glob (v := .str "abcdefghijklmnopqrstuvwxyz") (by rfl) T.c_LETTERS.choose_spec ⟨_, rfl⟩) pa_nil)))
      (pss_cons (ps_while PassesOwn.never (PW.pt (pw_and (pt_cmpR op_ne (pe_meth0 (pv 0) T.CL_Reader T.ME_Reader_char G_Reader__char hr_Reader__char T.b_Reader__char .nil pass0) pe_str (nomark _)) (pw_and1 (pt_cmpR op_in_sign (pe_meth0 (pv 0) T.CL_Reader T.ME_Reader_char G_Reader__char hr_Reader__char T.b_Reader__char .nil pass0) (pe_glob (v := .str "abcdefghijklmnopqrstuvwxyz0123456789_~") (by rfl) T.c_NAME_CHARS.choose_spec ⟨_, rfl⟩) rfl)))) (pss_one (ps_fldaug (pv 0) pe_int in_add)))
      (pss_one (ps_ret (pe_slice sl_str (pe_fld (pv 0) rfl) (po_some (pv 1)) (po_some (pe_fld (pv 0) rfl))))))))), ?_⟩
    obtain ⟨dx, pc, hk, hpc⟩ := id hR.ex
    have no : ∀ {m : Str}, ¬ m = "_plain_chars" → ¬ m = "_place" → ¬ m = "_notation" → (rdf z (k : Int) pc).lookup m = none := fun h1 h2 h3 => rd_no _ _ _ h1 h2 h3
    have e34 := fun x => sg_dec x 34 "\"" (by decide +kernel)
    have es : cs (cutS z (some (k : Int)) (some ((k + wd.length : Nat) : Int))) = wd := by
      rw [cut_mid, List.drop_take, hz, show k + wd.length - k = wd.length by omega, List.take_left]
    refine ⟨_, rfl, _, _, _, _, _, rfl, hk, T.CL_Reader, T.NA_Reader__place, rd_place _ _ _, ?_⟩
    refine ⟨_, rfl, _, _, _, rfl, hk, no (by decide +kernel) (by decide +kernel) (by decide +kernel), r, z, k, rfl, hR, fun c hc => ?_⟩
    rcases hS with ⟨c0, r0, rfl, hc0, hr0⟩ | ⟨b, bn, bp, rfl⟩
    · have hz0 : (cs z).drop k = c0 :: (r0 ++ 32 :: l) := hz
      obtain rfl := char_some hc hz0
      have n34 : ¬ c0 = 34 := fun e => by
        rw [e] at hc0
        exact absurd hc0 (by decide +kernel)
      refine ⟨rfl, _, rfl, ite2 (fun h => absurd h (by rw [e34, decide_eq_false n34]; decide)) (fun _ => ?_)⟩
      refine ⟨_, rfl, _, _, _, rfl, hk, no (by decide +kernel) (by decide +kernel) (by decide +kernel), r, _, z, k, c0, r0 ++ 32 :: l, rfl, hR, hz0, hc0, by decide +kernel, fun v H3 b3 R3 => ?_⟩
      refine while_nat (m0 := r0.length) (fun m σ H' => ∃ j, j + m = r0.length ∧ σ = [some (.ref r), some (.int (k : Int))] ∧ But r H H' ∧ RdAt T.C_Reader H' r z (k + 1 + j))
        (fun σ H' => σ = [some (.ref r), some (.int (k : Int))] ∧ But r H H' ∧ RdAt T.C_Reader H' r z (k + (c0 :: r0).length)) ⟨0, by omega, rfl, b3, R3⟩ ?_ ?_
      · rintro m σ H4 ⟨j, hj, rfl, b4, R4⟩
        obtain ⟨dx4, pc4, hk4, hpc4⟩ := id R4.ex
        cases m with
        | zero =>
          have hy : (cs z).drop (k + 1 + j) = 32 :: l := by
            have e := drop_more hz
            rw [List.length_cons] at e
            rw [show k + 1 + j = k + (r0.length + 1) by omega]
            exact e
          refine ⟨false, fun Q hQ => ask_in R4 hy ?_, fun z => (by cases z), fun _ => ⟨rfl, b4, ?_⟩⟩
          · rw [show decide (32 ∈ cs (Str.ofString "abcdefghijklmnopqrstuvwxyz0123456789_~")) = false by decide +kernel]
            exact hQ
          · rw [List.length_cons, show k + (r0.length + 1) = k + 1 + j by omega]
            exact R4
        | succ m =>
          obtain ⟨y, hy0⟩ : ∃ y, r0[j]? = some y := ⟨_, List.getElem?_eq_getElem (by omega)⟩
          have hyd : y ∈ cs nameS := hr0 y (List.mem_of_getElem? hy0)
          have hy : (cs z).drop (k + 1 + j) = y :: ((c0 :: r0).drop (j + 1 + 1) ++ 32 :: l) := by
            rw [show k + 1 + j = k + (j + 1) by omega]
            exact drop_get (a := c0 :: r0) hz hy0
          refine ⟨true, fun Q hQ => ask_in R4 hy ?_, fun _ => ?_, fun z => (by cases z)⟩
          · rw [show decide (y ∈ cs (Str.ofString "abcdefghijklmnopqrstuvwxyz0123456789_~")) = true from decide_eq_true hyd]
            exact hQ
          · refine ⟨_, rfl, r, _, dx4, _, .int ((k + 1 + j : Nat) : Int), rfl, hk4, T.CL_Reader, T.NA_Reader__place, rd_place _ _ _, _, _, rfl, rfl, dx4, _, hk4, rdf_len _ _ _, ?_⟩
            refine ⟨m, Nat.lt_succ_self m, j + 1, by omega, rfl, b4.trans But.set, ⟨⟨dx4, pc4, ?_, hpc4⟩, hR.le⟩⟩
            rw [upd_same, rd_put, show ((k + 1 + j : Nat) : Int) + 1 = ((k + 1 + (j + 1) : Nat) : Int) by omega]
      · rintro σ H4 ⟨rfl, b4, R4⟩
        obtain ⟨dx4, pc4, hk4, hpc4⟩ := id R4.ex
        exact ⟨_, rfl, _, _, _, _, _, rfl, hk4, T.CL_Reader, T.NA_Reader__notation, rd_notation _ _ _, _, rfl, _, rfl, _, rfl, _, _, _, _, _, rfl, hk4, T.CL_Reader, T.NA_Reader__place, rd_place _ _ _, _, rfl, z, rfl, szM hR.le, q _ H4 es b4 R4⟩
    · have hz0 : ∃ t, (cs z).drop k = 34 :: t := ⟨_, by rw [hz]; rfl⟩
      obtain ⟨t, hz0⟩ := hz0
      obtain rfl := char_some hc hz0
      refine ⟨rfl, _, rfl, ite2 (fun _ => ?_) (fun h => absurd (by rw [e34]; rfl) h)⟩
      refine ⟨_, rfl, _, _, _, rfl, hk, no (by decide +kernel) (by decide +kernel) (by decide +kernel), r, z, k, b, 32 :: l, rfl, hR, bn, bp, hz, fun v H4 b4 R4 => ?_⟩
      obtain ⟨dx4, pc4, hk4, hpc4⟩ := id R4.ex
      exact ⟨_, rfl, _, _, _, _, _, rfl, hk4, T.CL_Reader, T.NA_Reader__notation, rd_notation _ _ _, _, rfl, _, rfl, _, rfl, _, _, _, _, _, rfl, hk4, T.CL_Reader, T.NA_Reader__place, rd_place _ _ _, _, rfl, z, rfl, szM hR.le, q _ H4 es b4 R4⟩
/-- numbers behind a space each -/
def numsR : List Int → List Nat
  | [] => []
  | n :: r => 32 :: (numT n ++ numsR r)
theorem numsR_app : ∀ a b : List Int, numsR (a ++ b) = numsR a ++ numsR b
  | [], _ => rfl
  | n :: a, b => by
    show 32 :: (numT n ++ numsR (a ++ b)) = (32 :: (numT n ++ numsR a)) ++ numsR b
    rw [numsR_app a b, List.cons_append, List.append_assoc]
def sixN (d : Nd) : List Int := [d.st, d.lead, d.wid, d.look, d.alt, d.pop]
theorem wd_six (d : Nd) : wd d = cs d.kind ++ (32 :: (cs d.sym ++ numsR (sixN d))) := by
  rw [wd_eq]
  show _ = cs d.kind ++ (32 :: (cs d.sym ++ (32 :: (numT d.st ++ (32 :: (numT d.lead ++ (32 :: (numT d.wid ++ (32 :: (numT d.look ++ (32 :: (numT d.alt ++ (32 :: (numT d.pop ++ []))))))))))))))
  rw [List.append_nil]
theorem numsR_next (ns : List Int) {x : Nat} {l : List Nat} (hx : ¬ x ∈ cs digS) : ∃ y t, numsR ns ++ x :: l = y :: t ∧ ¬ y ∈ cs digS := by
  cases ns with
  | nil => exact ⟨x, l, rfl, hx⟩
  | cons n r => exact ⟨32, _, rfl, by decide +kernel⟩
def sgnV : List V := [.bl true, .bl false, .bl false, .bl false, .bl true, .bl false]
/-- a node's words, as read -/
def wordV (d : Nd) : List V := .str d.kind :: .str d.sym :: numsV d
def spWordsR (C : Addr) : Sp := fun vs H Q _ => ∃ (r : Addr) (z : Str) (k x : Nat) (d : Nd) (l : List Nat), vs = [.ref r] ∧ RdAt C H r z k ∧ NdOk d ∧ (cs z).drop k = wd d ++ x :: l ∧ ¬ x ∈ cs digS ∧
  ∀ p H', But r H H' → H p = none → H' p = some (.lst (wordV d)) → RdAt C H' r z (k + (wd d).length) → Q (.ref p) H'
theorem ok_words (T : Txt K mg) : FnOk P w K mg base CX0 6 T.a_Reader_words T.fd_Reader_words ["self"] (spWordsR T.C_Reader) := by
  have G_Reader_sign : FnOk P w K mg base CX0 3 T.a_Reader_sign T.fd_Reader_sign ["self", "char"] (spPass T.C_Reader) := ok_sign T
  have G_Reader__name : FnOk P w K mg base CX0 5 T.a_Reader__name T.fd_Reader__name ["self"] (spName T.C_Reader) := ok_rname T
  have G_Reader__number : FnOk P w K mg base CX0 4 T.a_Reader__number T.fd_Reader__number ["self", "signed"] (spNumber T.C_Reader) := ok_number T
  refine T.F_Reader_words.ok sc_Reader_words (fun vs H Q E h => ?_) (fun cdv A outer s H vs Q E hr h => ?_)
  · obtain ⟨r, z, k, x, d, l, rfl, _⟩ := h
    rfl
  · have hr_Reader_sign : Room 3 _ := hr.mono (by decide)
    have hr_Reader__name : Room 5 _ := hr
    have hr_Reader__number : Room 4 _ := hr.mono (by decide)
    obtain ⟨r, z, k, x, d, l, rfl, hR, od, hz, hx, q⟩ := h
    refine ⟨_, (pss_cons (ps_set (i := 1) sc_Reader_words.nd rfl (.inl rfl) (pe_lst (pa_cons (pe_meth0 (pv 0) T.CL_Reader T.ME_Reader_name G_Reader__name hr_Reader__name T.b_Reader__name .nil pass0) pa_nil)))
      (pss_cons (ps_expr (pe_meth (pv 0) T.CL_Reader T.ME_Readersign G_Reader_sign hr_Reader_sign T.b_Reader_sign .nil pass0 (pa_cons pe_str pa_nil)))
      (pss_cons (ps_expr (pe_bm PySem.F.plainAttrs_list PySem.F.slot_list_append PySem.F.type_list_append mt_append (pv 1) (pa_cons (pe_meth0 (pv 0) T.CL_Reader T.ME_Reader_name G_Reader__name hr_Reader__name T.b_Reader__name .nil pass0) pa_nil)))
      (pss_cons (ps_for PassesOwn.never rfl (pi_tup (pe_tup (pa_cons pe_bl (pa_cons pe_bl (pa_cons pe_bl (pa_cons pe_bl (pa_cons pe_bl (pa_cons pe_bl pa_nil)))))))) (pg_name (i := 2) sc_Reader_words.nd rfl (.inl rfl)) (pss_cons (ps_expr (pe_meth (pv 0) T.CL_Reader T.ME_Readersign G_Reader_sign hr_Reader_sign T.b_Reader_sign .nil pass0 (pa_cons pe_str pa_nil)))
      (pss_one (ps_expr (pe_bm PySem.F.plainAttrs_list PySem.F.slot_list_append PySem.F.type_list_append mt_append (pv 1) (pa_cons (pe_meth (pv 0) T.CL_Reader T.ME_Reader_number G_Reader__number hr_Reader__number T.b_Reader__number .nil pass0 (pa_cons (pv 2) pa_nil)) pa_nil))))))
      (pss_one (ps_ret (pv 1))))))), ?_⟩
    obtain ⟨dx, pc, hk, hpc⟩ := id hR.ex
    have e6 := wd_six d
    obtain ⟨L, hL⟩ : ∃ L, L = cs d.kind ++ (32 :: cs d.sym) := ⟨_, rfl⟩
    have hLl : L.length = (cs d.kind).length + ((cs d.sym).length + 1) := by rw [hL, List.length_append, List.length_cons]
    have ewd : wd d = L ++ numsR (sixN d) := by rw [e6, hL, List.append_assoc]; rfl
    have z0 : (cs z).drop k = cs d.kind ++ 32 :: (cs d.sym ++ numsR (sixN d) ++ x :: l) := by
      rw [hz, e6]
      simp only [List.append_assoc, List.cons_append]
    have z1 : (cs z).drop (k + (cs d.kind).length) = 32 :: (cs d.sym ++ numsR (sixN d) ++ x :: l) := drop_more z0
    have z2 : (cs z).drop (k + (cs d.kind).length + 1) = cs d.sym ++ 32 :: (numT d.st ++ numsR [d.lead, d.wid, d.look, d.alt, d.pop] ++ x :: l) := by
      rw [← List.drop_drop, z1]
      show cs d.sym ++ (32 :: (numT d.st ++ numsR [d.lead, d.wid, d.look, d.alt, d.pop])) ++ x :: l = _
      simp only [List.append_assoc, List.cons_append]
    have z3 : ∀ i, i ≤ 6 → (cs z).drop (k + L.length + (numsR ((sixN d).take i)).length) = numsR ((sixN d).drop i) ++ x :: l := fun i hi => by
      have e : (cs z).drop (k + (L ++ numsR ((sixN d).take i)).length) = numsR ((sixN d).drop i) ++ x :: l := drop_more (by
        rw [hz, ewd, List.append_assoc, List.append_assoc, ← List.append_assoc (numsR _), ← numsR_app, List.take_append_drop])
      rw [List.length_append, ← Nat.add_assoc] at e
      exact e
    refine ⟨_, rfl, _, _, _, rfl, hk, rd_no _ _ _ (by decide +kernel) (by decide +kernel) (by decide +kernel), r, z, k, _, _, rfl, hR, od.kind, Nat.le_trans od.lk (by decide), z0, fun a H1 ea b1 R1 => ?_⟩
    obtain rfl : a = d.kind := cs_inj ea
    refine ⟨by show 1 ≤ sizeLine; decide, fun p np => ?_⟩
    obtain ⟨dx1, pc1, hk1, hpc1⟩ := id R1.ex
    have hpr : p ≠ r := (ne_of_none hk1 np).symm
    have np0 : H p = none := b1.free hpr np
    have R1' : RdAt T.C_Reader (upd H1 p (.lst [.str d.kind])) r z (k + (cs d.kind).length) := ⟨⟨dx1, pc1, by rw [upd_ne hpr.symm]; exact hk1, hpc1⟩, hR.le⟩
    obtain ⟨H2, hH2⟩ : ∃ H2, H2 = upd H1 p (.lst [.str d.kind]) := ⟨_, rfl⟩
    rw [← hH2] at R1' ⊢
    have hp2 : H2 p = some (.lst [.str d.kind]) := by rw [hH2]; exact upd_same
    have b2 : But r H H2 := by rw [hH2]; exact b1.trans (But.new np)
    obtain ⟨dx2, pc2, hk2, hpc2⟩ := id R1'.ex
    refine ⟨_, rfl, _, _, _, rfl, hk2, rd_no _ _ _ (by decide +kernel) (by decide +kernel) (by decide +kernel), r, _, z, _, 32, _, rfl, R1', z1, by decide +kernel, by decide +kernel, fun v H3 b3 R3 => ?_⟩
    have hp3 := b3 _ _ hpr hp2
    obtain ⟨dx3, pc3, hk3, hpc3⟩ := id R3.ex
    refine ⟨_, rfl, .inl ⟨rfl, _, SqL.of hp3⟩, _, rfl, _, _, _, rfl, hk3, rd_no _ _ _ (by decide +kernel) (by decide +kernel) (by decide +kernel), r, z, _, _, _, rfl, R3, od.sym, Nat.le_trans od.ls (by decide), z2, fun a H4 ea b4 R4 => ?_⟩
    obtain rfl : a = d.sym := cs_inj ea
    have hp4 := b4 _ _ hpr hp3
    refine ⟨p, _, _, rfl, rfl, hp4, by show 1 < sizeLine; decide, ?_⟩
    rw [show k + (cs d.kind).length + 1 + (cs d.sym).length = k + L.length by omega] at R4
    obtain ⟨dx4, pc4, hk4, hpc4⟩ := id R4.ex
    have R5 : RdAt T.C_Reader (upd H4 p (.lst ([.str d.kind] ++ [.str d.sym]))) r z (k + L.length) := ⟨⟨dx4, pc4, by rw [upd_ne hpr.symm]; exact hk4, hpc4⟩, hR.le⟩
    have b5 : But r H (upd H4 p (.lst ([.str d.kind] ++ [.str d.sym]))) := ((b2.trans b3).trans b4).updN np0
    have hp5 : (upd H4 p (.lst ([.str d.kind] ++ [.str d.sym]))) p = some (.lst (.str d.kind :: .str d.sym :: [])) := upd_same
    obtain ⟨H5, hH5⟩ : ∃ H5, H5 = upd H4 p (.lst ([.str d.kind] ++ [.str d.sym])) := ⟨_, rfl⟩
    rw [← hH5] at R5 b5 hp5 ⊢
    refine ⟨by show 6 ≤ sizeLine; decide, fun t nt => ⟨_, rfl, ⟨_, SqT.of upd_same⟩, ?_⟩⟩
    have htr : t ≠ r := fun e => by
      obtain ⟨dx5, pc5, hk5, _⟩ := R5.ex
      rw [e, hk5] at nt
      cases nt
    have htp : t ≠ p := fun e => by rw [e, hp5] at nt; cases nt
    have nt0 : H t = none := b5.free htr nt
    refine for_tup (K := K) (a := t) (xs := sgnV) (fun i σ H' => ∃ y2 : Option V, σ = [some (.ref r), some (.ref p), y2] ∧ But r H H' ∧ H' t = some (.tup sgnV) ∧ H' p = some (.lst (.str d.kind :: .str d.sym :: ((sixN d).take i).map V.int)) ∧ RdAt T.C_Reader H' r z (k + L.length + (numsR ((sixN d).take i)).length))
      ⟨none, rfl, b5.trans (But.new nt), upd_same, by rw [upd_ne htp.symm]; exact hp5, ?_⟩ (fun i σ H' _ ⟨_, _, _, h, _⟩ => SqT.of h) ?_ ?_
    · obtain ⟨dx5, pc5, hk5, hpc5⟩ := R5.ex
      exact ⟨⟨dx5, pc5, by rw [upd_ne htr.symm]; exact hk5, hpc5⟩, hR.le⟩
    · rintro i v σ H6 hv ⟨y2, rfl, b6, ht6, hp6, R6⟩
      have hi6 : i < 6 := (List.getElem?_eq_some_iff.mp hv).1
      obtain ⟨c, n, hc, hn, on, pn⟩ : ∃ (c : Bool) (n : Int), sgnV[i]? = some (.bl c) ∧ (sixN d)[i]? = some n ∧ NumOk n ∧ (c = false → 0 ≤ n) := by
        match i, hi6 with
        | 0, _ => exact ⟨true, d.st, rfl, rfl, od.st, fun h => by cases h⟩
        | 1, _ => exact ⟨false, d.lead, rfl, rfl, pos_num od.lead, fun _ => od.lead.1⟩
        | 2, _ => exact ⟨false, d.wid, rfl, rfl, pos_num od.wid, fun _ => od.wid.1⟩
        | 3, _ => exact ⟨false, d.look, rfl, rfl, pos_num od.look, fun _ => od.look.1⟩
        | 4, _ => exact ⟨true, d.alt, rfl, rfl, od.alt, fun h => by cases h⟩
        | 5, _ => exact ⟨false, d.pop, rfl, rfl, pos_num od.pop, fun _ => od.pop.1⟩
      rw [hc] at hv
      obtain rfl : V.bl c = v := Option.some.inj hv
      have zi := z3 i (Nat.le_of_lt hi6)
      rw [drop_at hn] at zi
      have zi : (cs z).drop (k + L.length + (numsR ((sixN d).take i)).length) = 32 :: (numT n ++ numsR ((sixN d).drop (i + 1)) ++ x :: l) := zi
      obtain ⟨y, tl, ey, ny⟩ := numsR_next ((sixN d).drop (i + 1)) (l := l) hx
      have zj : (cs z).drop (k + L.length + (numsR ((sixN d).take i)).length + 1) = numT n ++ y :: tl := by
        rw [← List.drop_drop, zi, ← ey]
        show numT n ++ _ ++ _ = _
        rw [List.append_assoc]
      have enx : numsR ((sixN d).take (i + 1)) = numsR ((sixN d).take i) ++ (32 :: numT n) := by
        rw [takeN hn, numsR_app]
        show _ ++ (32 :: (numT n ++ [])) = _
        rw [List.append_nil]
      obtain ⟨dx6, pc6, hk6, hpc6⟩ := id R6.ex
      refine ⟨_, rfl, _, _, _, rfl, hk6, rd_no _ _ _ (by decide +kernel) (by decide +kernel) (by decide +kernel), r, _, z, _, 32, _, rfl, R6, zi, by decide +kernel, by decide +kernel, fun v H7 b7 R7 => ?_⟩
      have hp7 := b7 _ _ hpr hp6
      have ht7 := b7 _ _ htr ht6
      obtain ⟨dx7, pc7, hk7, hpc7⟩ := id R7.ex
      refine ⟨_, rfl, .inl ⟨rfl, _, SqL.of hp7⟩, _, rfl, _, _, _, rfl, hk7, rd_no _ _ _ (by decide +kernel) (by decide +kernel) (by decide +kernel), _, rfl, r, c, z, _, y, n, tl, rfl, R7, on, pn, zj, ny, fun H8 b8 R8 => ?_⟩
      have hp8 := b8 _ _ hpr hp7
      have ht8 := b8 _ _ htr ht7
      refine ⟨p, _, _, rfl, rfl, hp8, ?_, ?_⟩
      · rw [List.length_cons, List.length_cons, List.length_map, List.length_take]
        exact Nat.lt_of_lt_of_le (show min i (sixN d).length + 1 + 1 < 9 by omega) (by decide)
      · obtain ⟨dx8, pc8, hk8, hpc8⟩ := id R8.ex
        refine ⟨_, rfl, ((b6.trans b7).trans b8).updN np0, by rw [upd_ne htp]; exact ht8, ?_, ⟨dx8, pc8, ?_, hpc8⟩, hR.le⟩
        · rw [upd_same, takeN hn, List.map_append]
          rfl
        · rw [upd_ne hpr.symm, hk8, enx, List.length_append, List.length_cons]
          congr 4
          omega
    · rintro σ H6 ⟨y2, rfl, b6, ht6, hp6, R6⟩
      have e : (sixN d).take sgnV.length = sixN d := rfl
      rw [e] at hp6 R6
      rw [show k + L.length + (numsR (sixN d)).length = k + (wd d).length by rw [ewd, List.length_append, Nat.add_assoc]] at R6
      exact ⟨_, rfl, q p H6 b6 np0 hp6 R6⟩

/-! ### a reader is made; a node from its words -/
theorem ok_rinit (T : Txt K mg) : FnOk P w K mg base CX0 1 T.a_Reader_init T.fd_Reader_init ["self", "notation"] (spReaderInit T.C_Reader) := by
  refine T.F_Reader_init.ok sc_Reader_init (fun vs H Q E h => ?_) (fun cdv A outer s H vs Q E hr h => ?_)
  · obtain ⟨p, dx, z, rfl, _⟩ := h
    rfl
  · obtain ⟨p, dx, z, rfl, hp, q⟩ := h
    refine ⟨_, (pss_cons (ps_fld (pv 0) (pv 1) rfl)
      (pss_cons (ps_fld (pv 0) pe_int rfl)
      (pss_one (ps_fld (pv 0) (pe_join pe_str (pe_lc (own := [("char", 2)]) (g := gName 2) (by rfl) sc_Reader_init.nd (pi_str (pe_glob (v := .str "\t\n !\"#$&'()*+,-./0123456789:;<=>?@ABCDEFGHIJKLMNOPQRSTUVWXYZ[\\]^_abcdefghijklmnopqrstuvwxyz{|}~") (by rfl) T.c_PLAIN.choose_spec ⟨_, rfl⟩)) (blkOk_by (own := [("char", 2)]) (N := ["self", "notation", "char"]) (sc := defScope s_Reader_init) (by decide +kernel)) (fun _ _ _ _ _ => pg_name (i := 2) sc_Reader_init.nd rfl (Or.inl rfl)) (fun _ _ _ _ _ => (pts_one (pt_cmpR op_notIn_sign (pv 2) pe_str rfl))) (fun _ _ _ _ _ => (pv 2)))) rfl)))), ?_⟩
    have ln0 : ([] : List (Str × V)).length = 0 := rfl
    have l1 := putF_le "_notation" (.str z) []
    have l2 := putF_le "_place" (.int 0) (putF "_notation" (.str z) [])
    refine ⟨_, rfl, _, rfl, p, _, dx, _, rfl, hp, T.CL_Reader, T.NA_Reader__notation, by omega, ?_⟩
    refine ⟨_, rfl, p, _, dx, _, rfl, upd_same, T.CL_Reader, T.NA_Reader__place, by omega, ?_⟩
    rw [upd_upd]
    obtain ⟨H1, hH1⟩ : ∃ H1, H1 = upd H p (.ins T.C_Reader dx (putF "_place" (.int 0) (putF "_notation" (.str z) []))) := ⟨_, rfl⟩
    rw [← hH1]
    have hp1 : H1 p = some (.ins T.C_Reader dx (putF "_place" (.int 0) (putF "_notation" (.str z) []))) := by rw [hH1]; exact upd_same
    refine ⟨⟨_, rfl⟩, _, rfl, fun D nD => ?_⟩
    refine lc_strS (fun i H' => H' = upd H1 D (.lst (((((cs plainS).take i).filter fun c => decide (c ≠ 10) && decide (c ≠ 9) && decide (c ≠ 92) && decide (c ≠ 34)).map sg).map V.str))) rfl ?_ ?_
    · rintro i c H' hc rfl
      have hc' : (cs plainS)[i]? = some c := by rw [← hc]; exact Array.getElem?_toList
      refine ⟨rfl, ?_⟩
      refine ⟨_, rfl, c, _, rfl, rfl, _, rfl, ?_⟩
      have eq4 : (!decide (c ∈ cs (Str.ofString "\n\t\\\""))) = (decide (c ≠ 10) && decide (c ≠ 9) && decide (c ≠ 92) && decide (c ≠ 34)) := by
        rw [show cs (Str.ofString "\n\t\\\"") = [10, 9, 92, 34] by decide +kernel]
        simp only [List.mem_cons, List.not_mem_nil, or_false, not_or, ne_eq, decide_not, Bool.decide_or, Bool.not_or, Bool.and_assoc]
      rw [eq4, takeN hc', List.filter_append, List.map_append, List.map_append]
      by_cases ck : (decide (c ≠ 10) && decide (c ≠ 9) && decide (c ≠ 92) && decide (c ≠ 34)) = true
      · rw [ck]
        refine iteT ⟨_, rfl, _, upd_same, ?_, ?_⟩
        · rw [List.length_map, List.length_map]
          exact sz2 (Nat.lt_of_le_of_lt (Nat.le_trans (List.length_filter_le _ _) (by rw [List.length_take]; exact Nat.min_le_right _ _)) (by decide +kernel))
        · rw [upd_upd, show List.filter (fun c => decide (c ≠ 10) && decide (c ≠ 9) && decide (c ≠ 92) && decide (c ≠ 34)) [c] = [c] by rw [List.filter_cons, if_pos ck]; rfl]
          rfl
      · have ck : (decide (c ≠ 10) && decide (c ≠ 9) && decide (c ≠ 92) && decide (c ≠ 34)) = false := by simpa using ck
        rw [ck]
        refine iteF ?_
        rw [show List.filter (fun c => decide (c ≠ 10) && decide (c ≠ 9) && decide (c ≠ 92) && decide (c ≠ 34)) [c] = [] by rw [List.filter_cons, if_neg (by rw [ck]; decide)]; rfl]
        rw [List.map_nil, List.map_nil, List.append_nil]
    · rintro H' rfl
      have el : (cs plainS).take (Str.cps (Str.ofString "\t\n !\"#$&'()*+,-./0123456789:;<=>?@ABCDEFGHIJKLMNOPQRSTUVWXYZ[\\]^_abcdefghijklmnopqrstuvwxyz{|}~")).size = cs plainS := List.take_of_length_le (by rw [Array.length_toList]; exact Nat.le_refl _)
      rw [el, show (cs plainS).filter (fun c => decide (c ≠ 10) && decide (c ≠ 9) && decide (c ≠ 92) && decide (c ≠ 34)) = plainL from rfl]
      refine ⟨_, D, plainL.map sg, rfl, rfl, .inl (SqL.of upd_same), ?_, ?_⟩
      · rw [sg_lens, List.length_map]
        exact (by decide +kernel)
      · rw [join_sg (by decide +kernel)]
        have npD : p ≠ D := ne_of_none hp1 nD
        refine ⟨_, rfl, p, _, dx, _, rfl, by rw [upd_ne npD]; exact hp1, T.CL_Reader, T.NA_Reader__plain_chars, ?_, ?_⟩
        · have := putF_le "_place" (.int 0) (putF "_notation" (.str z) [])
          omega
        · refine q _ _ (fun b o e => ?_) (cs_mk _)
          by_cases nb : b = p
          · subst nb
            rw [upd_same] at e ⊢
            exact e
          · rw [upd_ne nb] at e ⊢
            rw [upd_ne (fun z => by rw [z, ← (show H1 D = H D by rw [hH1, upd_ne npD.symm]), nD] at e; cases e), hH1, upd_ne nb]
            exact e
def spNodeR (K : PySem.W.Frag) (C : Addr) : Sp := fun vs H Q _ => ∃ (a b : Addr) (d : Nd) (us : List V), vs = [.ref a, .ref b] ∧ H a = some (.lst (wordV d)) ∧ H b = some (.lst us) ∧
  ∀ p dx tp H', Same H H' → H p = none → H' p = some (.ins C dx (nfl d tp)) → H' tp = some (.tup us) → Q (.ref p) H'
theorem ok_node (T : Txt K mg) : FnOk P w K mg base CX0 3 T.a_node T.fd_node ["words", "nodes"] (spNodeR K T.C_Node) := by
  have G_Node_init : FnOk P w K mg base CX0 1 T.a_Node_init T.fd_Node_init psN (spNInit K T.C_Node) := ok_Node_init T
  refine T.F_node.ok sc_node (fun vs H Q E h => ?_) (fun cdv A outer s H vs Q E hr h => ?_)
  · obtain ⟨a, b, d, us, rfl, _⟩ := h
    rfl
  · have hr_Node_init : Room 2 _ := hr
    obtain ⟨a, b, d, us, rfl, ha, hb, q⟩ := h
    refine ⟨_, (pss_cons (ps_asg (pv 0) (pg_lst (by rfl) (pgs_cons (pg_name (i := 2) sc_node.nd rfl (.inl rfl)) (pgs_cons (pg_name (i := 3) sc_node.nd rfl (.inl rfl)) (pgs_cons (pg_name (i := 4) sc_node.nd rfl (.inl rfl)) (pgs_cons (pg_name (i := 5) sc_node.nd rfl (.inl rfl)) (pgs_cons (pg_name (i := 6) sc_node.nd rfl (.inl rfl)) (pgs_cons (pg_name (i := 7) sc_node.nd rfl (.inl rfl)) (pgs_cons (pg_name (i := 8) sc_node.nd rfl (.inl rfl)) (pgs_cons (pg_name (i := 9) sc_node.nd rfl (.inl rfl)) pgs_nil))))))))))
      (pss_one (ps_ret (pe_makeK (n := 2) T.MK_Node G_Node_init hr_Node_init (by rfl) T.G_Node (kb_Node7 T).choose_spec pass0 (pa_cons (pv 2) (pa_cons (pv 3) pa_nil)) (pk_cons (pv 4) (pk_cons (pv 5) (pk_cons (pv 6) (pk_cons (pv 7) (pk_cons (pv 8) (pk_cons (pv 1) (pk_cons (pv 9) pk_nil))))))))))), ?_⟩
    refine ⟨_, rfl, a, wordV d, rfl, SqL.of ha, rfl, _, _, rfl, _, _, rfl, _, _, rfl, _, _, rfl, _, _, rfl, _, _, rfl, _, _, rfl, _, _, rfl, rfl, ?_⟩
    refine ⟨_, rfl, _, rfl, _, rfl, _, rfl, _, rfl, _, rfl, _, rfl, _, rfl, _, rfl, rfl, rfl, fun x dx nx ndx hne => ?_⟩
    have s1 : Same H (upd (upd H dx (.own x)) x (.ins T.C_Node dx [])) := (same_upd ndx).trans (same_upd (by rw [upd_ne hne.symm]; exact nx))
    refine ⟨x, dx, b, d, us, upd_same, rfl, .inr ⟨SqL.of (s1 _ _ hb), fun tp ntx ntp => ?_⟩⟩
    have ntp0 : H tp = none := s1.free ntp
    refine ⟨rfl, q x dx tp _ ?_ nx upd_same ?_⟩
    · intro c o e
      have nc : c ≠ x := fun z => by rw [z, nx] at e; cases e
      rw [upd_ne nc, upd_ne (fun z => by rw [z, ntp0] at e; cases e)]
      exact s1 _ _ e
    · rw [upd_ne ntx]
      exact upd_same

/-! ### read_tree: the nodes that are not closed -/
structure Fr where
  g : Addr
  w : Addr
  b : Addr
  d : Nd
  bs : List Tr
  todo : List Tr
def hole (f : Fr) : Tr := .mk 0 f.d (f.bs ++ f.todo)
def plug : Tr → List Fr → Tr
  | c, [] => c
  | c, f :: S => plug (.mk 0 f.d (f.bs ++ c :: f.todo)) S
theorem rowsL_app (l : Int) : ∀ a b : List Tr, rowsL l (a ++ b) = rowsL l a ++ rowsL l b
  | [], _ => rfl
  | t :: a, b => by
    show t.rows l ++ rowsL l (a ++ b) = (t.rows l ++ rowsL l a) ++ rowsL l b
    rw [rowsL_app l a b, List.append_assoc]
theorem plug_like : ∀ (S : List Fr) {c c' : Tr}, (∀ l, c.rows l = c'.rows l) → ∀ l, (plug c S).rows l = (plug c' S).rows l
  | [], _, _, h, l => h l
  | f :: S, c, c', h, l => plug_like S (fun l => by
    show (l, f.d) :: rowsL (l + 1) (f.bs ++ c :: f.todo) = (l, f.d) :: rowsL (l + 1) (f.bs ++ c' :: f.todo)
    rw [rowsL_app, rowsL_app]
    show _ :: (_ ++ (c.rows (l + 1) ++ _)) = _ :: (_ ++ (c'.rows (l + 1) ++ _))
    rw [h]) l
def remF : List Fr → List Nat
  | [] => []
  | f :: S => wrL f.todo ++ 41 :: remF S
def muF : List Fr → Nat
  | [] => 0
  | f :: S => 2 * sizesL f.todo + 1 + muF S
def bsF : List Fr → Nat
  | [] => 0
  | f :: S => f.bs.length + bsF S
theorem muF_len : ∀ S : List Fr, S.length ≤ muF S
  | [] => Nat.le_refl _
  | f :: S => by
    have ih := muF_len S
    show S.length + 1 ≤ 2 * sizesL f.todo + 1 + muF S
    omega
def FrAt (K : PySem.W.Frag) (C : Addr) (H : Hp) (f : Fr) : Prop := SqT K H f.g [.ref f.w, .ref f.b] ∧ H f.w = some (.lst (wordV f.d)) ∧ H f.b = some (.lst (f.bs.map fun t => V.ref t.at)) ∧ NodesAt K C H f.bs ∧ TrsOk f.todo
/-- lists but one stay -/
def Lk (a : Addr) (H H' : Hp) : Prop := ∀ p xs, p ≠ a → H p = some (.lst xs) → H' p = some (.lst xs)
theorem Lk.of {a : Addr} {H H' : Hp} (s : Same H H') : Lk a H H' := fun p xs _ h => s p _ h
theorem Lk.upd {a : Addr} {H : Hp} {o : HO} : Lk a H (upd H a o) := fun p xs n h => by rw [upd_ne n]; exact h
theorem FrAt.keep {K : PySem.W.Frag} {C a : Addr} {H H' : Hp} {f : Fr} (k : Keeps K C H H') (l : Lk a H H') (h : FrAt K C H f) (hw : f.w ≠ a) (hb : f.b ≠ a) : FrAt K C H' f :=
  ⟨k.tup _ _ h.1, l _ _ hw h.2.1, l _ _ hb h.2.2.1, NodesAt.keep k h.2.2.2.1, h.2.2.2.2⟩
theorem rd_nd {C C' r p dx dx' tp : Addr} {H : Hp} {z : Str} {k : Int} {pc : Str} {d : Nd} (h : H r = some (.ins C dx (rdf z k pc))) (h' : H p = some (.ins C' dx' (nfl d tp))) : p ≠ r := fun e => by
  rw [e, h] at h'
  injection h' with h'
  injection h' with _ _ h'
  have e1 := nf_kind d tp
  rw [← h', rd_no _ _ _ (by decide +kernel) (by decide +kernel) (by decide +kernel)] at e1
  cases e1
theorem Keeps.rd {K : PySem.W.Frag} {C r : Addr} {H H' : Hp} {z : Str} {k : Nat} (R : RdAt C H r z k) {C2 : Addr} (b : But r H H') : Keeps K C2 H H' := by
  obtain ⟨dx, pc, hk, _⟩ := R.ex
  refine ⟨fun q dx d tp e => b q _ (rd_nd hk e) e, fun tp us e => ?_⟩
  rcases e with (e | ⟨x, e⟩) | e
  · exact .inl (.inl (b _ _ (fun z => by rw [z, hk] at e; cases e) e))
  · exact .inl (.inr ⟨x, b _ _ (fun z => by rw [z, hk] at e; cases e) e⟩)
  · exact .inr e
def Ls (H H' : Hp) : Prop := ∀ p xs, H p = some (.lst xs) → H' p = some (.lst xs)
theorem Ls.of {H H' : Hp} (s : Same H H') : Ls H H' := fun p xs h => s p _ h
theorem Ls.rd {C r : Addr} {H H' : Hp} {z : Str} {k : Nat} (R : RdAt C H r z k) (b : But r H H') : Ls H H' := fun p xs e => by
  obtain ⟨dx, pc, hk, _⟩ := R.ex
  exact b p _ (fun z => by rw [z, hk] at e; cases e) e
theorem Ls.lk {a : Addr} {H H' : Hp} (l : Ls H H') : Lk a H H' := fun p xs _ h => l p xs h
theorem RdAt.upd {C r : Addr} {H : Hp} {z : Str} {k : Nat} {p : Addr} {o : HO} (R : RdAt C H r z k) (n : r ≠ p) : RdAt C (upd H p o) r z k := by
  obtain ⟨⟨dx, pc, hk, hp⟩, lz⟩ := R
  exact ⟨⟨dx, pc, by rw [upd_ne n]; exact hk, hp⟩, lz⟩
theorem RdAt.new {C r : Addr} {H : Hp} {z : Str} {k : Nat} {p : Addr} {o : HO} (R : RdAt C H r z k) (n : H p = none) : RdAt C (L2.upd H p o) r z k := by
  obtain ⟨dx, pc, hk, hp⟩ := R.ex
  exact R.upd (ne_of_none hk n)
theorem RdAt.ne_lst {C r : Addr} {H : Hp} {z : Str} {k : Nat} {p : Addr} {xs : List V} (R : RdAt C H r z k) (h : H p = some (.lst xs)) : p ≠ r := fun e => by
  obtain ⟨dx, pc, hk, hp⟩ := R.ex
  rw [e, hk] at h
  cases h
theorem RdAt.same {C r : Addr} {H H' : Hp} {z : Str} {k : Nat} (R : RdAt C H r z k) (s : Same H H') : RdAt C H' r z k := by
  obtain ⟨⟨dx, pc, hk, hp⟩, lz⟩ := R
  exact ⟨⟨dx, pc, s _ _ hk, hp⟩, lz⟩
/-- the stack's frames in the heap; the top first -/
structure FrsAt (K : PySem.W.Frag) (C : Addr) (H : Hp) (a : Addr) (S : List Fr) : Prop where
  ha : H a = some (.lst (S.reverse.map fun f => V.ref f.g))
  at_ : ∀ f ∈ S, FrAt K C H f
  ne : ∀ f ∈ S, f.w ≠ a ∧ f.b ≠ a
  dis : S.Pairwise fun f g => f.b ≠ g.w ∧ f.b ≠ g.b
  wb : ∀ f ∈ S, f.w ≠ f.b
theorem FrAt.keepL {K : PySem.W.Frag} {C : Addr} {H H' : Hp} {f : Fr} (k : Keeps K C H H') (l : Ls H H') (h : FrAt K C H f) : FrAt K C H' f :=
  ⟨k.tup _ _ h.1, l _ _ h.2.1, l _ _ h.2.2.1, NodesAt.keep k h.2.2.2.1, h.2.2.2.2⟩
theorem FrsAt.keep {K : PySem.W.Frag} {C a : Addr} {H H' : Hp} {S : List Fr} (F : FrsAt K C H a S) (k : Keeps K C H H') (l : Ls H H') : FrsAt K C H' a S :=
  ⟨l _ _ F.ha, fun f hf => (F.at_ f hf).keepL k l, F.ne, F.dis, F.wb⟩
theorem FrsAt.todo {K : PySem.W.Frag} {C a g w b : Addr} {H : Hp} {d : Nd} {bs td td' : List Tr} {S : List Fr} (F : FrsAt K C H a (⟨g, w, b, d, bs, td⟩ :: S)) (h : TrsOk td') : FrsAt K C H a (⟨g, w, b, d, bs, td'⟩ :: S) := by
  have h0 := F.at_ _ List.mem_cons_self
  refine ⟨?_, fun f hf => ?_, fun f hf => ?_, ?_, fun f hf => ?_⟩
  · have e := F.ha
    rw [List.reverse_cons, List.map_append] at e ⊢
    exact e
  · rcases List.mem_cons.mp hf with rfl | hf
    · exact ⟨h0.1, h0.2.1, h0.2.2.1, h0.2.2.2.1, h⟩
    · exact F.at_ f (List.mem_cons_of_mem _ hf)
  · rcases List.mem_cons.mp hf with rfl | hf
    · exact F.ne ⟨g, w, b, d, bs, td⟩ List.mem_cons_self
    · exact F.ne f (List.mem_cons_of_mem _ hf)
  · obtain ⟨h1, h2⟩ := List.pairwise_cons.mp F.dis
    exact List.pairwise_cons.mpr ⟨h1, h2⟩
  · rcases List.mem_cons.mp hf with rfl | hf
    · exact F.wb ⟨g, w, b, d, bs, td⟩ List.mem_cons_self
    · exact F.wb f (List.mem_cons_of_mem _ hf)
theorem FrsAt.push {K : PySem.W.Frag} {C a g w b : Addr} {H : Hp} {d : Nd} {td : List Tr} {S : List Fr} (F : FrsAt K C H a S) (hg : SqT K H g [.ref w, .ref b]) (hw : H w = some (.lst (wordV d))) (hb : H b = some (.lst [])) (ht : TrsOk td)
    (nw : w ≠ a) (nb : b ≠ a) (wb : w ≠ b) (nf : ∀ f ∈ S, b ≠ f.w ∧ b ≠ f.b) : FrsAt K C (upd H a (.lst ((S.reverse.map fun f => V.ref f.g) ++ [.ref g]))) a (⟨g, w, b, d, [], td⟩ :: S) := by
  have kp : Keeps K C H (upd H a (.lst ((S.reverse.map fun f => V.ref f.g) ++ [.ref g]))) := Keeps.lst F.ha
  refine ⟨by rw [upd_same, List.reverse_cons, List.map_append]; rfl, fun f hf => ?_, fun f hf => ?_, List.pairwise_cons.mpr ⟨nf, F.dis⟩, fun f hf => ?_⟩
  · rcases List.mem_cons.mp hf with rfl | hf
    · exact ⟨kp.tup _ _ hg, Lk.upd _ _ nw hw, Lk.upd _ _ nb hb, True.intro, ht⟩
    · have n := F.ne f hf
      exact (F.at_ f hf).keep kp Lk.upd n.1 n.2
  · rcases List.mem_cons.mp hf with rfl | hf
    · exact ⟨nw, nb⟩
    · exact F.ne f hf
  · rcases List.mem_cons.mp hf with rfl | hf
    · exact wb
    · exact F.wb f hf
theorem FrsAt.pop {K : PySem.W.Frag} {C a : Addr} {H : Hp} {f : Fr} {S : List Fr} (F : FrsAt K C H a (f :: S)) : FrsAt K C (upd H a (.lst (S.reverse.map fun f => V.ref f.g))) a S ∧ FrAt K C (upd H a (.lst (S.reverse.map fun f => V.ref f.g))) f := by
  have kp : Keeps K C H (upd H a (.lst (S.reverse.map fun f => V.ref f.g))) := Keeps.lst F.ha
  have all : ∀ x ∈ f :: S, FrAt K C (upd H a (.lst (S.reverse.map fun f => V.ref f.g))) x := fun x hx => by
    have n := F.ne x hx
    exact (F.at_ x hx).keep kp Lk.upd n.1 n.2
  exact ⟨⟨upd_same, fun x hx => all x (List.mem_cons_of_mem _ hx), fun x hx => F.ne x (List.mem_cons_of_mem _ hx), (List.pairwise_cons.mp F.dis).2, fun x hx => F.wb x (List.mem_cons_of_mem _ hx)⟩, all f List.mem_cons_self⟩
theorem FrsAt.add {K : PySem.W.Frag} {C a g w b : Addr} {H : Hp} {d : Nd} {bs td : List Tr} {u : Tr} {S : List Fr} (F : FrsAt K C H a (⟨g, w, b, d, bs, td⟩ :: S)) (hu : NodeAt K C H u) :
    FrsAt K C (upd H b (.lst ((bs.map fun t => V.ref t.at) ++ [.ref u.at]))) a (⟨g, w, b, d, bs ++ [u], td⟩ :: S) := by
  have h0 := F.at_ _ List.mem_cons_self
  have n0 := F.ne _ List.mem_cons_self
  have kp : Keeps K C H (upd H b (.lst ((bs.map fun t => V.ref t.at) ++ [.ref u.at]))) := Keeps.lst h0.2.2.1
  obtain ⟨h1, h2⟩ := List.pairwise_cons.mp F.dis
  refine ⟨?_, fun f hf => ?_, fun f hf => ?_, List.pairwise_cons.mpr ⟨h1, h2⟩, fun f hf => ?_⟩
  · rw [upd_ne n0.2.symm]
    have e := F.ha
    rw [List.reverse_cons, List.map_append] at e ⊢
    exact e
  · rcases List.mem_cons.mp hf with rfl | hf
    · refine ⟨kp.tup _ _ h0.1, Lk.upd _ _ (F.wb ⟨g, w, b, d, bs, td⟩ List.mem_cons_self) h0.2.1, by rw [upd_same, List.map_append]; rfl, NodesAt.of fun t ht => ?_, h0.2.2.2.2⟩
      rcases List.mem_append.mp ht with ht | ht
      · exact (NodesAt.mem h0.2.2.2.1 ht).keep kp
      · rw [List.mem_singleton.mp ht]
        exact hu.keep kp
    · have n := h1 f hf
      exact (F.at_ f (List.mem_cons_of_mem _ hf)).keep kp Lk.upd n.1.symm n.2.symm
  · rcases List.mem_cons.mp hf with rfl | hf
    · exact n0
    · exact F.ne f (List.mem_cons_of_mem _ hf)
  · rcases List.mem_cons.mp hf with rfl | hf
    · exact F.wb ⟨g, w, b, d, bs, td⟩ List.mem_cons_self
    · exact F.wb f (List.mem_cons_of_mem _ hf)
theorem same_but {H H1 H2 : Hp} {r : Addr} (s : Same H H1) (hr : H r = none) (b : But r H1 H2) : Same H H2 := fun c o e => b c o (fun z => by rw [z, hr] at e; cases e) (s c o e)
def spReadT (K : PySem.W.Frag) (C : Addr) : Sp := fun vs H Q _ => ∃ (z : Str) (t : Tr), vs = [.str z] ∧ cs z = t.wr ∧ TrOk t ∧ t.size ≤ 5000 ∧
  ∀ (u : Tr) H', Same H H' → NodeAt K C H' u → (∀ l, u.rows l = t.rows l) → Q (.ref u.at) H'
theorem wrL_next (ts : List Tr) (l : List Nat) : ∃ y r, wrL ts ++ 41 :: l = y :: r ∧ ¬ y ∈ cs digS := by
  cases ts with
  | nil => exact ⟨41, l, rfl, by decide +kernel⟩
  | cons t ts => exact ⟨32, _, rfl, by decide +kernel⟩
theorem ok_read_tree (T : Txt K mg) : FnOk P w K mg base CX0 7 T.a_read_tree T.fd_read_tree ["notation"] (spReadT K T.C_Node) := by
  have G_Reader_init : FnOk P w K mg base CX0 1 T.a_Reader_init T.fd_Reader_init ["self", "notation"] (spReaderInit T.C_Reader) := ok_rinit T
  have G_Reader_sign : FnOk P w K mg base CX0 3 T.a_Reader_sign T.fd_Reader_sign ["self", "char"] (spPass T.C_Reader) := ok_sign T
  have G_Reader_words : FnOk P w K mg base CX0 6 T.a_Reader_words T.fd_Reader_words ["self"] (spWordsR T.C_Reader) := ok_words T
  have G_Reader_goes_on : FnOk P w K mg base CX0 4 T.a_Reader_goes_on T.fd_Reader_goes_on ["self"] (spGoesOn T.C_Reader) := ok_goes_on T
  have G_node : FnOk P w K mg base CX0 3 T.a_node T.fd_node ["words", "nodes"] (spNodeR K T.C_Node) := ok_node T
  have G_Reader_finish := ok_finish (P := P) (w := w) (base := base) T
  refine T.F_read_tree.ok sc_read_tree (fun vs H Q E h => ?_) (fun cdv A outer s H vs Q E hr h => ?_)
  · obtain ⟨z, t, rfl, _⟩ := h
    rfl
  · have hr_Reader_init : Room 2 _ := hr.mono (by decide)
    have hr_Reader_sign : Room 3 _ := hr.mono (by decide)
    have hr_Reader_words : Room 6 _ := hr
    have hr_Reader_goes_on : Room 4 _ := hr.mono (by decide)
    have hr_node : Room 3 _ := hr.mono (by decide)
    have hr_Reader_finish : Room 2 _ := hr.mono (by decide)
    obtain ⟨z, t, rfl, hz, tok, ln, q⟩ := h
    refine ⟨_, (pss_cons (ps_set (i := 1) sc_read_tree.nd rfl (.inl rfl) (pe_make T.MK_Reader G_Reader_init hr_Reader_init (by rfl) T.G_Reader T.b_Reader_init .nil pass0 (pa_cons (pv 0) pa_nil)))
      (pss_cons (ps_expr (pe_meth (pv 1) T.CL_Reader T.ME_Readersign G_Reader_sign hr_Reader_sign T.b_Reader_sign .nil pass0 (pa_cons pe_str pa_nil)))
      (pss_cons (ps_set (i := 2) sc_read_tree.nd rfl (.inl rfl) (pe_lst (pa_cons (pe_tup (pa_cons (pe_meth0 (pv 1) T.CL_Reader T.ME_Readerwords G_Reader_words hr_Reader_words T.b_Reader_words .nil pass0) (pa_cons (pe_lst pa_nil) pa_nil))) pa_nil)))
      (pss_one (ps_while PassesOwn.never (pt_val pe_bl) (pss_cons (ps_if (pt_val (pe_meth0 (pv 1) T.CL_Reader T.ME_Readergoes_on G_Reader_goes_on hr_Reader_goes_on T.b_Reader_goes_on .nil pass0)) (pss_cons (ps_expr (pe_bm PySem.F.plainAttrs_list PySem.F.slot_list_append PySem.F.type_list_append mt_append (pv 2) (pa_cons (pe_tup (pa_cons (pe_meth0 (pv 1) T.CL_Reader T.ME_Readerwords G_Reader_words hr_Reader_words T.b_Reader_words .nil pass0) (pa_cons (pe_lst pa_nil) pa_nil))) pa_nil)))
      (pss_one ps_continue)) pss_nil)
      (pss_cons (ps_asg (pe_bm0 PySem.F.plainAttrs_list PySem.F.slot_list_pop PySem.F.type_list_pop mt_pop (pv 2)) (pg_tup (by rfl) (pgs_cons (pg_name (i := 3) sc_read_tree.nd rfl (.inl rfl)) (pgs_cons (pg_name (i := 4) sc_read_tree.nd rfl (.inl rfl)) pgs_nil))))
      (pss_cons (ps_set (i := 5) sc_read_tree.nd rfl (.inl rfl) (pe_call G_node hr_node (by rfl) T.g_node T.F_node.kp T.b_node .nil pass0 (pa_cons (pv 3) (pa_cons (pv 4) pa_nil))))
      (pss_cons (ps_if (pt_not (pt_truth (pv 2) (by intro _; rfl))) (pss_cons (ps_expr (pe_meth0 (pv 1) T.CL_Reader T.ME_Readerfinish G_Reader_finish hr_Reader_finish T.b_Reader_finish .nil pass0))
      (pss_one (ps_ret (pv 5)))) pss_nil)
      (pss_one (ps_expr (pe_bm PySem.F.plainAttrs_list PySem.F.slot_list_append PySem.F.type_list_append mt_append (pe_ix ix_tup (pe_ix ix_list (pv 2) (pe_un un_neg pe_int) (fun _ _ => rfl)) pe_int (fun _ _ => rfl)) (pa_cons (pv 5) pa_nil))))))))))))), ?_⟩
    have wl := wr_len t tok
    have lz : z.length ≤ 4000000 := by
      rw [len_cs, hz]
      omega
    refine ⟨_, rfl, fun r dx hr0 hdx hne => ?_⟩
    refine ⟨r, dx, z, rfl, upd_same, fun pc H1 s1 epc => ?_⟩
    have R1 : RdAt T.C_Reader H1 r z 0 := ⟨⟨dx, pc, s1 _ _ (by rw [upd_upd]; exact upd_same), epc⟩, lz⟩
    have s01 : Same H H1 := fun b o e => s1 _ _ (by
      rw [upd_upd, upd_ne (fun z => by rw [z, hr0] at e; cases e), upd_ne (fun z => by rw [z, hdx] at e; cases e)]
      exact e)
    obtain ⟨dx1, pc1, hk1, hpc1⟩ := id R1.ex
    have hz0 : (cs z).drop 0 = 40 :: (wd t.d ++ (wrL t.ks ++ [41])) := by
      rw [List.drop_zero, hz]
      cases t
      rfl
    refine ⟨rfl, _, rfl, _, _, _, rfl, hk1, rd_no _ _ _ (by decide +kernel) (by decide +kernel) (by decide +kernel), r, _, z, 0, 40, _, rfl, R1, hz0, by decide +kernel, by decide +kernel, fun v H2 b2 R2 => ?_⟩
    have hz1 : (cs z).drop (0 + 1) = wd t.d ++ (wrL t.ks ++ 41 :: []) := by rw [← List.drop_drop, hz0]; rfl
    obtain ⟨y, l, ey, ny⟩ := wrL_next t.ks []
    rw [ey] at hz1
    obtain ⟨dx2, pc2, hk2, hpc2⟩ := id R2.ex
    refine ⟨_, rfl, _, _, _, rfl, hk2, rd_no _ _ _ (by decide +kernel) (by decide +kernel) (by decide +kernel), r, z, 0 + 1, y, t.d, l, rfl, R2, tok.d, hz1, ny, fun w0 H3 b3 nw hw R3 => ?_⟩
    refine ⟨by show 0 ≤ sizeLine; decide, fun b nb => ?_⟩
    refine ⟨by show 2 ≤ sizeLine; decide, fun g ng => ?_⟩
    refine ⟨by show 1 ≤ sizeLine; decide, fun a na => ?_⟩
    have s02 := same_but s01 hr0 b2
    have s03 := same_but s02 hr0 b3
    have sb := same_upd (o := .lst []) nb
    have sg_ := same_upd (o := .tup [.ref w0, .ref b]) ng
    have sa := same_upd (o := .lst [.ref g]) na
    have hb0 : (upd H3 b (.lst [])) b = some (.lst []) := upd_same
    have hg0 : (upd (upd H3 b (.lst [])) g (.tup [.ref w0, .ref b])) g = some (.tup [.ref w0, .ref b]) := upd_same
    have hwb : w0 ≠ b := ne_of_none hw nb
    have hwa : w0 ≠ a := ne_of_none (sg_ _ _ (sb _ _ hw)) na
    have hba : b ≠ a := ne_of_none (sg_ _ _ hb0) na
    have na0 : H a = none := s03.free (sb.free (sg_.free na))
    have nb0 : H b = none := s03.free nb
    obtain ⟨H4, hH4⟩ : ∃ H4, H4 = upd (upd (upd H3 b (.lst [])) g (.tup [.ref w0, .ref b])) a (.lst [.ref g]) := ⟨_, rfl⟩
    rw [← hH4] at sa ⊢
    have s34 : Same H3 H4 := (sb.trans sg_).trans sa
    have ha4 : H4 a = some (.lst [.ref g]) := by rw [hH4]; exact upd_same
    have hz2 : (cs z).drop (0 + 1 + (wd t.d).length) = wrL t.ks ++ 41 :: [] := by
      rw [ey]
      exact drop_more hz1
    refine while_nat (m0 := 2 * sizesL t.ks + 1) (fun m σ H' => ∃ (F : Fr) (S : List Fr) (k : Nat) (y3 y4 y5 : Option V), σ = [some (.str z), some (.ref r), some (.ref a), y3, y4, y5] ∧ m = muF (F :: S) ∧ Same H H' ∧ RdAt T.C_Reader H' r z k ∧ (cs z).drop k = remF (F :: S) ∧
        FrsAt K T.C_Node H' a (F :: S) ∧ (∀ f ∈ F :: S, H f.b = none) ∧ (∀ l, (plug (hole F) S).rows l = t.rows l) ∧ bsF (F :: S) + muF (F :: S) ≤ 2 * t.size)
      (fun _ _ => False)
      ⟨⟨g, w0, b, t.d, [], t.ks⟩, [], _, none, none, none, rfl, rfl, s03.trans s34, R3.same s34, hz2, ⟨ha4, fun f hf => ?_, fun f hf => ?_, List.pairwise_singleton _ _, fun f hf => ?_⟩, fun f hf => ?_, fun l => ?_, ?_⟩ ?_ (fun _ _ h => h.elim)
    · rw [List.mem_singleton.mp hf]
      exact ⟨SqT.of (sa _ _ hg0), s34 _ _ hw, (sg_.trans sa) _ _ hb0, True.intro, tok.ks⟩
    · rw [List.mem_singleton.mp hf]
      exact ⟨hwa, hba⟩
    · rw [List.mem_singleton.mp hf]
      exact hwb
    · rw [List.mem_singleton.mp hf]
      exact nb0
    · cases t
      rfl
    · obtain ⟨tp, td, tks⟩ := t
      show 0 + 0 + (2 * sizesL tks + 1 + 0) ≤ 2 * (1 + sizesL tks)
      omega
    · rintro m σ H1 ⟨F, S, k, y3, y4, y5, rfl, rfl, sm, R, hrem, FS, nbs, hrows, hmu⟩
      refine ⟨true, fun Q hQ => ⟨true, rfl, hQ⟩, fun _ => ?_, fun z => (by cases z)⟩
      have lS := muF_len (F :: S)
      obtain ⟨dx1, pc1, hk1, hpc1⟩ := id R.ex
      refine ⟨_, rfl, _, _, _, rfl, hk1, rd_no _ _ _ (by decide +kernel) (by decide +kernel) (by decide +kernel), r, z, k, rfl, R, ?_⟩
      obtain ⟨fg, fw, fb, fd, fbs, ftodo⟩ := F
      cases ftodo with
      | cons c ts =>
        have hrem : (cs z).drop k = 32 :: (c.wr ++ wrL ts) ++ 41 :: remF S := hrem
        have hrem1 : (cs z).drop k = 32 :: 40 :: (wd c.d ++ (wrL c.ks ++ 41 :: (wrL ts ++ 41 :: remF S))) := by
          rw [hrem]
          cases c
          show 32 :: ((40 :: (wd _ ++ (wrL _ ++ [41]))) ++ wrL ts ++ 41 :: remF S) = _
          simp only [List.append_assoc, List.cons_append, List.nil_append, Tr.d, Tr.ks]
        refine .inr ⟨_, hrem1, fun H2 b2 R2 => ⟨true, rfl, iteT ?_⟩⟩
        have cok : TrOk c ∧ TrsOk ts := (FS.at_ _ List.mem_cons_self).2.2.2.2
        have FS2 := (FS.todo cok.2).keep (Keeps.rd R b2) (Ls.rd R b2)
        have sm2 := same_but sm hr0 b2
        obtain ⟨y, l, ey, ny⟩ := wrL_next c.ks (wrL ts ++ 41 :: remF S)
        have hz3 : (cs z).drop (k + 2) = wd c.d ++ y :: l := by
          rw [← List.drop_drop, hrem1, ← ey]
          rfl
        obtain ⟨dx2, pc2, hk2, hpc2⟩ := id R2.ex
        refine ⟨_, rfl, .inl ⟨rfl, _, SqL.of FS2.ha⟩, _, rfl, _, _, _, rfl, hk2, rd_no _ _ _ (by decide +kernel) (by decide +kernel) (by decide +kernel), r, z, k + 2, y, c.d, l, rfl, R2, cok.1.d, hz3, ny, fun w1 H3 b3 nw hw R3 => ?_⟩
        have FS3 := FS2.keep (Keeps.rd R2 b3) (Ls.rd R2 b3)
        have sm3 := same_but sm2 hr0 b3
        refine ⟨by show 0 ≤ sizeLine; decide, fun b1 nb1 => ?_⟩
        refine ⟨by show 2 ≤ sizeLine; decide, fun g1 ng1 => ?_⟩
        have sb1 := same_upd (o := .lst []) nb1
        have sg1 := same_upd (o := .tup [.ref w1, .ref b1]) ng1
        have hb1 : (upd H3 b1 (.lst [])) b1 = some (.lst []) := upd_same
        have hg1 : (upd (upd H3 b1 (.lst [])) g1 (.tup [.ref w1, .ref b1])) g1 = some (.tup [.ref w1, .ref b1]) := upd_same
        have s35 := sb1.trans sg1
        have FS5 := FS3.keep (Keeps.of s35) (Ls.of s35)
        have nw0 : ∀ f ∈ (⟨fg, fw, fb, fd, fbs, ts⟩ :: S : List Fr), b1 ≠ f.w ∧ b1 ≠ f.b := fun f hf => by
          have h := FS3.at_ f hf
          exact ⟨(ne_of_none h.2.1 nb1).symm, (ne_of_none h.2.2.1 nb1).symm⟩
        have hba1 : b1 ≠ a := (ne_of_none FS3.ha nb1).symm
        have hwa1 : w1 ≠ a := (ne_of_none FS2.ha nw).symm
        have hwb1 : w1 ≠ b1 := ne_of_none hw nb1
        have FS6 := FS5.push (td := c.ks) (SqT.of hg1) (s35 _ _ hw) (sg1 _ _ hb1) cok.1.ks hwa1 hba1 hwb1 nw0
        have lst : ((⟨fg, fw, fb, fd, fbs, ts⟩ :: S : List Fr).reverse.map fun f => V.ref f.g).length < sizeLine := by
          rw [List.length_map, List.length_reverse]
          have : (⟨fg, fw, fb, fd, fbs, ts⟩ :: S : List Fr).length = (⟨fg, fw, fb, fd, fbs, c :: ts⟩ :: S : List Fr).length := rfl
          exact sz2 (by omega)
        refine ⟨a, _, _, rfl, rfl, FS5.ha, lst, ?_⟩
        have ec : c.size = 1 + sizesL c.ks := by
          cases c
          rfl
        have mu1 : muF (⟨g1, w1, b1, c.d, [], c.ks⟩ :: ⟨fg, fw, fb, fd, fbs, ts⟩ :: S) = 2 * sizesL c.ks + 1 + (2 * sizesL ts + 1 + muF S) := rfl
        have mu2 : muF (⟨fg, fw, fb, fd, fbs, c :: ts⟩ :: S) = 2 * (c.size + sizesL ts) + 1 + muF S := rfl
        have bs1 : bsF (⟨g1, w1, b1, c.d, [], c.ks⟩ :: ⟨fg, fw, fb, fd, fbs, ts⟩ :: S) = 0 + (fbs.length + bsF S) := rfl
        have bs2 : bsF (⟨fg, fw, fb, fd, fbs, c :: ts⟩ :: S) = fbs.length + bsF S := rfl
        refine ⟨muF (⟨g1, w1, b1, c.d, [], c.ks⟩ :: ⟨fg, fw, fb, fd, fbs, ts⟩ :: S), by omega, ⟨g1, w1, b1, c.d, [], c.ks⟩, ⟨fg, fw, fb, fd, fbs, ts⟩ :: S, _, _, _, _, rfl, rfl, same_mut (sm3.trans s35) na0, (R3.same s35).upd (R3.ne_lst FS3.ha).symm, ?_, FS6, fun f hf => ?_, fun l => ?_, by omega⟩
        · have e := drop_more hz3
          rw [← ey] at e
          exact e
        · rcases List.mem_cons.mp hf with rfl | hf
          · exact sm3.free nb1
          · rcases List.mem_cons.mp hf with rfl | hf
            · exact nbs ⟨fg, fw, fb, fd, fbs, c :: ts⟩ List.mem_cons_self
            · exact nbs f (List.mem_cons_of_mem _ hf)
        · rw [← hrows l]
          refine plug_like S (c := .mk 0 fd (fbs ++ hole ⟨g1, w1, b1, c.d, [], c.ks⟩ :: ts)) (c' := .mk 0 fd (fbs ++ c :: ts)) (fun l => ?_) l
          show (l, fd) :: rowsL (l + 1) (fbs ++ hole ⟨g1, w1, b1, c.d, [], c.ks⟩ :: ts) = (l, fd) :: rowsL (l + 1) (fbs ++ c :: ts)
          rw [rowsL_app, rowsL_app]
          cases c
          rfl
      | nil =>
        have hrem : (cs z).drop k = 41 :: remF S := hrem
        refine .inl ⟨_, hrem, fun H2 b2 R2 => ⟨false, rfl, iteF ?_⟩⟩
        have FS2 := FS.keep (Keeps.rd R b2) (Ls.rd R b2)
        have sm2 := same_but sm hr0 b2
        have hz3 : (cs z).drop (k + 1) = remF S := by
          rw [← List.drop_drop, hrem]
          rfl
        obtain ⟨FS3, FA3⟩ := FS2.pop
        have ha2 : H2 a = some (.lst ((S.reverse.map fun f => V.ref f.g) ++ [.ref fg])) := by
          have e := FS2.ha
          rw [List.reverse_cons, List.map_append] at e
          exact e
        refine ⟨_, rfl, .inl ⟨rfl, _, SqL.of ha2⟩, a, _, .ref fg, rfl, rfl, ha2, by rw [List.length_append, List.length_singleton, Nat.add_sub_cancel, List.getElem?_append_right (Nat.le_refl _), Nat.sub_self]; rfl, ?_⟩
        rw [List.dropLast_concat]
        have sm3 : Same H (upd H2 a (.lst (S.reverse.map fun f => V.ref f.g))) := same_mut sm2 na0
        have R3' : RdAt T.C_Reader (upd H2 a (.lst (S.reverse.map fun f => V.ref f.g))) r z (k + 1) := R2.upd (R2.ne_lst ha2).symm
        obtain ⟨H3, hH3⟩ : ∃ H3, H3 = upd H2 a (.lst (S.reverse.map fun f => V.ref f.g)) := ⟨_, rfl⟩
        rw [← hH3] at FS3 FA3 sm3 R3' ⊢
        obtain ⟨tg, hw3, hb3, ns3, _⟩ := FA3
        refine ⟨fg, _, rfl, tg, rfl, _, _, rfl, _, _, rfl, rfl, ?_⟩
        refine ⟨_, rfl, _, rfl, fw, fb, fd, _, rfl, hw3, hb3, fun p dx p2 H4 s4 np hp htp => ?_⟩
        have FS4 := FS3.keep (Keeps.of s4) (Ls.of s4)
        have R4 := R3'.same s4
        have sm4 := sm3.trans s4
        have nu : NodeAt K T.C_Node H4 (.mk p fd fbs) := ⟨⟨dx, p2, hp, SqT.of htp⟩, NodesAt.keep (Keeps.of s4) ns3⟩
        obtain ⟨dx4, pc4, hk4, hpc4⟩ := id R4.ex
        cases S with
        | nil =>
          refine ⟨_, rfl, false, .inl ⟨_, SqL.of FS4.ha, rfl⟩, iteT ?_⟩
          refine ⟨_, rfl, _, _, _, rfl, hk4, rd_no _ _ _ (by decide +kernel) (by decide +kernel) (by decide +kernel), r, z, k + 1, rfl, R4, hz3, fun v => ?_⟩
          refine ⟨_, rfl, q (.mk p fd fbs) H4 sm4 nu fun l => ?_⟩
          rw [← hrows l]
          show _ = (l, fd) :: rowsL (l + 1) (fbs ++ [])
          rw [List.append_nil]
          rfl
        | cons G S =>
          obtain ⟨gg, gw, gb, gd, gbs, gtodo⟩ := G
          have e1 : ((⟨gg, gw, gb, gd, gbs, gtodo⟩ :: S : List Fr).reverse.map fun f => V.ref f.g) = (S.reverse.map fun f => V.ref f.g) ++ [.ref gg] := by
            rw [List.reverse_cons, List.map_append]
            rfl
          have ha4 := FS4.ha
          rw [e1] at ha4
          refine ⟨_, rfl, true, .inl ⟨_, SqL.of ha4, by simp⟩, iteF ?_⟩
          obtain ⟨tg4, hw4, hb4, ns4, ok4⟩ := FS4.at_ _ List.mem_cons_self
          have FS5 := FS4.add nu
          refine ⟨_, rfl, _, rfl, a, _, _, _, rfl, rfl, SqL.of ha4, atI_last _ _, ?_⟩
          have mu1 : muF (⟨gg, gw, gb, gd, gbs ++ [.mk p fd fbs], gtodo⟩ :: S) = 2 * sizesL gtodo + 1 + muF S := rfl
          have mu2 : muF (⟨fg, fw, fb, fd, fbs, []⟩ :: ⟨gg, gw, gb, gd, gbs, gtodo⟩ :: S) = 2 * 0 + 1 + (2 * sizesL gtodo + 1 + muF S) := rfl
          have bs1 : bsF (⟨gg, gw, gb, gd, gbs ++ [.mk p fd fbs], gtodo⟩ :: S) = (gbs ++ [Tr.mk p fd fbs]).length + bsF S := rfl
          have bs2 : bsF (⟨fg, fw, fb, fd, fbs, []⟩ :: ⟨gg, gw, gb, gd, gbs, gtodo⟩ :: S) = fbs.length + (gbs.length + bsF S) := rfl
          rw [List.length_append, List.length_singleton] at bs1
          refine ⟨gg, _, 1, _, rfl, rfl, tg4, atI_nat (j := 1) rfl, .inl ⟨rfl, _, SqL.of hb4⟩, _, rfl, gb, _, _, rfl, rfl, hb4, ?_, ?_⟩
          · rw [List.length_map]
            exact sz2 (by show gbs.length < 100000; omega)
          have n4 := FS4.ne _ List.mem_cons_self
          refine ⟨muF (⟨gg, gw, gb, gd, gbs ++ [.mk p fd fbs], gtodo⟩ :: S), by omega, ⟨gg, gw, gb, gd, gbs ++ [Tr.mk p fd fbs], gtodo⟩, S, _, _, _, _, rfl, rfl, same_mut sm4 (nbs ⟨gg, gw, gb, gd, gbs, gtodo⟩ (List.mem_cons_of_mem _ List.mem_cons_self)), R4.upd (R4.ne_lst hb4).symm, hz3, FS5, fun f hf => ?_, fun l => ?_, by omega⟩
          · rcases List.mem_cons.mp hf with rfl | hf
            · exact nbs ⟨gg, gw, gb, gd, gbs, gtodo⟩ (List.mem_cons_of_mem _ List.mem_cons_self)
            · exact nbs f (List.mem_cons_of_mem _ (List.mem_cons_of_mem _ hf))
          · rw [← hrows l]
            refine plug_like S (c := .mk 0 gd ((gbs ++ [.mk p fd fbs]) ++ gtodo)) (c' := .mk 0 gd (gbs ++ hole ⟨fg, fw, fb, fd, fbs, []⟩ :: gtodo)) (fun l => ?_) l
            show (l, gd) :: rowsL (l + 1) ((gbs ++ [.mk p fd fbs]) ++ gtodo) = (l, gd) :: rowsL (l + 1) (gbs ++ (.mk 0 fd (fbs ++ [])) :: gtodo)
            rw [List.append_assoc, List.append_nil, rowsL_app, rowsL_app _ gbs (_ :: _)]
            rfl

/-! ### rows as data -/
def rwD (r : Rw) : PyData := .tuple [.int r.1, .str r.2.kind, .str r.2.sym, .int r.2.st, .int r.2.lead, .int r.2.wid, .int r.2.look, .int r.2.alt, .int r.2.pop]
theorem srt_tok {l : List Nat} (h : Srt l) : ∀ c ∈ l, c < 1114112 := by
  have e1 : ∀ c ∈ cs lettS, c < 1114112 := by decide +kernel
  have e2 : ∀ c ∈ cs nameS, c < 1114112 := by decide +kernel
  have e3 : ∀ c ∈ cs plainS, c < 1114112 := by decide +kernel
  rcases h with ⟨c, r, rfl, h1, h2⟩ | ⟨b, _, h1, rfl⟩
  · intro x hx
    rcases List.mem_cons.mp hx with rfl | hx
    · exact e1 _ h1
    · exact e2 _ (h2 x hx)
  · intro x hx
    unfold quoteL at hx
    rcases List.mem_cons.mp hx with rfl | hx
    · decide
    · rcases List.mem_append.mp hx with hx | hx
      · obtain ⟨y, hy, hx⟩ := List.mem_flatten.mp hx
        obtain ⟨c, hc, rfl⟩ := List.mem_map.mp hy
        rcases esc_cases c with ⟨e, _⟩ | ⟨d, e, hd⟩
        · rw [e] at hx
          rw [List.mem_singleton.mp hx]
          exact e3 _ (h1 c hc)
        · rw [e] at hx
          rcases List.mem_cons.mp hx with rfl | hx
          · decide
          · rw [List.mem_singleton.mp hx]
            exact (by decide +kernel : ∀ c ∈ cs "nt\\\"", c < 1114112) _ hd
      · rw [List.mem_singleton.mp hx]
        decide
theorem str_ok {x : Str} (h : TOk x) : PyData.strOk x = true := by
  unfold PyData.strOk
  rw [← Array.all_toList]
  exact List.all_eq_true.mpr fun c hc => decide_eq_true (h c hc)
theorem rwDs_lay : ∀ rs : List Rw, (∀ x ∈ rs, NdOk x.2) → PyData.canLayAll0 (rs.map rwD) = true
  | [], _ => rfl
  | r :: t, h => by
    have h0 := h r List.mem_cons_self
    have h1 := str_ok (x := r.2.kind) (srt_tok h0.kind)
    have h2 := str_ok (x := r.2.sym) (srt_tok h0.sym)
    rw [List.map_cons]
    simp only [PyData.canLayAll0]
    rw [rwDs_lay t fun x hx => h x (List.mem_cons_of_mem _ hx)]
    simp [rwD, PyData.canLay0, PyData.canLayAll0, h1, h2]
theorem rwDs_depth : ∀ rs : List Rw, PyData.depthAll (rs.map rwD) ≤ 3
  | [] => by simp [PyData.depthAll]
  | r :: t => by
    have h2 := rwDs_depth t
    have h1 : (rwD r).depth ≤ 3 := by
      unfold rwD
      simp [PyData.depth, PyData.depthAll]
    rw [List.map_cons]
    simp only [PyData.depthAll]
    omega
theorem rwL_lay {rs : List Rw} (h : ∀ x ∈ rs, NdOk x.2) : (PyData.list (rs.map rwD)).canLay0 = true := by
  simp only [PyData.canLay0]
  exact rwDs_lay rs h
theorem rwL_shaped {rs : List Rw} (h : ∀ x ∈ rs, NdOk x.2) : SeqAt.shaped (.list (rs.map rwD)) = true := by
  unfold SeqAt.shaped
  rw [rwL_lay h]
  have := rwDs_depth rs
  have d : (PyData.list (rs.map rwD)).depth = PyData.depthAll (rs.map rwD) + 1 := by simp only [PyData.depth]
  rw [d, Bool.true_and, decide_eq_true_eq]
  omega
theorem rws_dp {H : Hp} : ∀ {vs : List V} {rs : List Rw}, Paired (RwAt H) vs rs → DpAll K H vs (rs.map rwD)
  | _, _, .nil => .nil
  | _, _, .cons ⟨g, e, hg⟩ t => by
    subst e
    exact .cons (.tup (SqT.of hg) (.cons (.int _) (.cons (.str _) (.cons (.str _) (.cons (.int _) (.cons (.int _) (.cons (.int _) (.cons (.int _) (.cons (.int _) (.cons (.int _) .nil)))))))))) (rws_dp t)
/-! ### the law -/
theorem RowsAt.same {H H' : Hp} {l : Addr} {rows : List Rw} (h : RowsAt H l rows) (s : Same H H') : RowsAt H' l rows := by
  obtain ⟨⟨us, h1, h2⟩, h3, h4⟩ := h
  exact ⟨⟨us, s _ _ h1, Paired.mapP h2 fun _ _ h => h.tups (Tups.of s)⟩, h3, h4⟩
theorem RowsAt.but {H H' : Hp} {l r : Addr} {rows : List Rw} (h : RowsAt H l rows) (b : But r H H') (R : ReelAt H r) (n : l ≠ r) : RowsAt H' l rows := by
  obtain ⟨⟨us, h1, h2⟩, h3, h4⟩ := h
  exact ⟨⟨us, b _ _ n h1, Paired.mapP h2 fun _ _ h => h.tups (b.tups R)⟩, h3, h4⟩
theorem Lev.pos {L : List Int} (h : Lev L) : 0 < L.length := by
  obtain ⟨ls, rfl, _⟩ := h
  exact Nat.succ_pos _
/-- a tree with its text -/
structure TT (K : PySem.W.Frag) (C : Addr) (H : Hp) (t : Tr) (x : Str) : Prop where
  nd : NodeAt K C H t
  ok : TrOk t
  sz : t.size ≤ 5000
  tx : cs x = t.wr
theorem TT.same {K : PySem.W.Frag} {C : Addr} {H H' : Hp} {t : Tr} {x : Str} (h : TT K C H t x) (s : Same H H') : TT K C H' t x := ⟨h.nd.keep (Keeps.of s), h.ok, h.sz, h.tx⟩
theorem like_wr {t u : Tr} (h : u.rows 0 = t.rows 0) : u.wr = t.wr := by
  have e1 := emit_all u
  rw [h, emit_all t] at e1
  exact (List.cons.inj e1).2.symm
theorem rows_of_ras {t : Tr} {rows : List Rw} {as : List Addr} (h : t.ras 0 = rasOf rows as) (l : as.length = rows.length) : t.rows 0 = rows := by
  rw [rows_ras, h]
  unfold rasOf
  rw [List.map_map]
  have e : ((fun x : Ra => ((x.1, x.2.1) : Rw)) ∘ fun x : Rw × Addr => ((x.1.1, x.1.2, x.2) : Ra)) = Prod.fst := rfl
  rw [e, List.map_fst_zip (by omega)]
theorem first_at {t : Tr} {rows : List Rw} {as : List Addr} (h : t.ras 0 = rasOf rows as) (l : as.length = rows.length) : as[0]? = some t.at := by
  cases t with
  | mk p d ks =>
    cases as with
    | nil =>
      unfold rasOf at h
      rw [List.zip_nil_right] at h
      cases h
    | cons a as =>
      cases rows with
      | nil => cases l
      | cons r rows =>
        have h : ((0, d, p) : Ra) :: rasL (0 + 1) ks = (r.1, r.2, a) :: rasOf rows as := h
        have h := (List.cons.inj h).1
        have h2 : p = a := congrArg (fun x : Ra => x.2.2) h
        rw [h2]
        rfl
def dPair : Nd := ⟨"pair", "pair", 0, 0, 0, 0, 0, 0⟩
def dTop : Nd := ⟨"top", "top", 0, 0, 0, 0, 1, 0⟩
theorem ok_dPair : NdOk dPair := by
  have s : Srt (cs (Str.ofString "pair")) := .inl ⟨112, [97, 105, 114], by decide +kernel, by decide +kernel, by decide +kernel⟩
  exact ⟨s, s, by decide +kernel, by decide +kernel, .inr ⟨by decide, by decide⟩, ⟨by decide, by decide⟩, ⟨by decide, by decide⟩, ⟨by decide, by decide⟩, .inr ⟨by decide, by decide⟩, ⟨by decide, by decide⟩⟩
theorem ok_dTop : NdOk dTop := by
  have s : Srt (cs (Str.ofString "top")) := .inl ⟨116, [111, 112], by decide +kernel, by decide +kernel, by decide +kernel⟩
  exact ⟨s, s, by decide +kernel, by decide +kernel, .inr ⟨by decide, by decide⟩, ⟨by decide, by decide⟩, ⟨by decide, by decide⟩, ⟨by decide, by decide⟩, .inr ⟨by decide, by decide⟩, ⟨by decide, by decide⟩⟩
theorem wd_pair : wd dPair = cs "pair pair 0 0 0 0 0 0" := by decide +kernel
theorem wd_top : wd dTop = cs "top top 0 0 0 0 1 0" := by decide +kernel
def spLaw (K : PySem.W.Frag) : Sp := fun vs H Q _ => ∃ (scr : Addr) (row : List Int), vs = [.ref scr] ∧ SqL K H scr (row.map V.int) ∧ row.length ≤ 63 ∧ ∀ H', Q (.bl true) H'

theorem ok_law (T : Txt K mg) : FnOk P w K mg base CX0 8 T.a_law T.fd_law ["script"] (spLaw K) := by
  have G_law_reel : FnOk P w K mg base CX0 1 T.a_law_reel T.fd_law_reel ["script"] (spReel K) := ok_reel T
  have G_law_levels : FnOk P w K mg base CX0 3 T.a_law_levels T.fd_law_levels ["reel"] (spLevs 50) := ok_levels T
  have G_law_row : FnOk P w K mg base CX0 6 T.a_law_row T.fd_law_row ["reel", "level"] spRow := ok_row T
  have G_law_tree : FnOk P w K mg base CX0 7 T.a_law_tree T.fd_law_tree ["reel"] spRowsL := ok_tree T
  have G_law_made : FnOk P w K mg base CX0 3 T.a_law_made T.fd_law_made ["rows"] (spMade K T.C_Node) := ok_made T
  have G_law_told : FnOk P w K mg base CX0 1 T.a_law_told T.fd_law_told ["root", "most"] (spTold K T.C_Node) := ok_told T
  have G_law_text : FnOk P w K mg base CX0 1 T.a_law_text T.fd_law_text ["rows"] spTextR := ok_textR T
  have G_Node_init : FnOk P w K mg base CX0 1 T.a_Node_init T.fd_Node_init psN (spNInit K T.C_Node) := ok_Node_init T
  have G_write_tree : FnOk P w K mg base CX0 2 T.a_write_tree T.fd_write_tree ["node"] (spWriteT K T.C_Node) := ok_write_tree T
  have G_read_tree : FnOk P w K mg base CX0 7 T.a_read_tree T.fd_read_tree ["notation"] (spReadT K T.C_Node) := ok_read_tree T
  refine T.F_law.ok sc_law (fun vs H Q E h => ?_) (fun cdv A outer s H vs Q E hr h => ?_)
  · obtain ⟨scr, row, rfl, _⟩ := h
    rfl
  · have hr_law_reel : Room 1 _ := hr.mono (by decide)
    have hr_law_levels : Room 3 _ := hr.mono (by decide)
    have hr_law_row : Room 6 _ := hr.mono (by decide)
    have hr_law_tree : Room 7 _ := hr
    have hr_law_made : Room 3 _ := hr.mono (by decide)
    have hr_law_told : Room 1 _ := hr.mono (by decide)
    have hr_law_text : Room 1 _ := hr.mono (by decide)
    have hr_Node_init : Room 2 _ := hr.mono (by decide)
    have hr_write_tree : Room 2 _ := hr.mono (by decide)
    have hr_read_tree : Room 7 _ := hr
    obtain ⟨scr, row, rfl, hscr, lrow, q⟩ := h
    refine ⟨_, (pss_cons (ps_set (i := 1) sc_law.nd rfl (.inr rfl) (pe_call G_law_reel hr_law_reel (by rfl) T.g_law_reel T.F_law_reel.kp T.b_law_reel .nil pass0 (pa_cons (pv 0) pa_nil)))
      (pss_cons (ps_set (i := 2) sc_law.nd rfl (.inl rfl) (pe_call G_law_tree hr_law_tree (by rfl) T.g_law_tree T.F_law_tree.kp T.b_law_tree .nil pass0 (pa_cons (pv 1) pa_nil)))
      (pss_cons (ps_setLc (i := 3) (own := [("level", 4)]) (g := gName 4) (by rfl) sc_law.nd rfl rfl (sw_true rfl rfl rfl (by decide +kernel)) (pi_list (pe_call G_law_levels hr_law_levels (by rfl) T.g_law_levels T.F_law_levels.kp T.b_law_levels .nil pass0 (pa_cons (pv 1) pa_nil))) (blkOk_by (own := [("level", 4)]) (N := ["script", "reel", "rows", "others", "level", "first", "second", "text", "near", "pair", "top", "twice", "tree", "due", "written", "back", "beside"]) (sc := defScope s_law) (by decide +kernel)) (fun _ _ _ _ _ => pg_name (i := 4) sc_law.nd rfl (Or.inl rfl)) (fun _ _ _ _ _ => pts_nil) (fun _ _ _ _ _ => (pe_call G_law_row hr_law_row (by rfl) T.g_law_row T.F_law_row.kp T.b_law_row .nil pass0 (pa_cons (pv 1) (pa_cons (pv 4) pa_nil)))))
      (pss_cons (ps_set (i := 5) sc_law.nd rfl (.inl rfl) (pe_ix ix_list (pe_call G_law_made hr_law_made (by rfl) T.g_law_made T.F_law_made.kp T.b_law_made .nil pass0 (pa_cons (pv 2) pa_nil)) pe_int (fun _ _ => rfl)))
      (pss_cons (ps_set (i := 6) sc_law.nd rfl (.inl rfl) (pe_ix ix_list (pe_call G_law_made hr_law_made (by rfl) T.g_law_made T.F_law_made.kp T.b_law_made .nil pass0 (pa_cons (pv 3) pa_nil)) pe_int (fun _ _ => rfl)))
      (pss_cons (ps_set (i := 7) sc_law.nd rfl (.inl rfl) (pe_call G_law_text hr_law_text (by rfl) T.g_law_text T.F_law_text.kp T.b_law_text .nil pass0 (pa_cons (pv 2) pa_nil)))
      (pss_cons (ps_set (i := 8) sc_law.nd rfl (.inl rfl) (pe_call G_law_text hr_law_text (by rfl) T.g_law_text T.F_law_text.kp T.b_law_text .nil pass0 (pa_cons (pv 3) pa_nil)))
      (pss_cons (ps_set (i := 9) sc_law.nd rfl (.inl rfl) (pe_makeK (n := 2) T.MK_Node G_Node_init hr_Node_init (by rfl) T.G_Node (kb_Node6 T).choose_spec pass0 (pa_cons pe_str (pa_cons pe_str pa_nil)) (pk_cons pe_int (pk_cons pe_int (pk_cons pe_int (pk_cons pe_int (pk_cons pe_int (pk_cons (pe_tup (pa_cons (pv 6) (pa_cons (pv 6) pa_nil))) pk_nil))))))))
      (pss_cons (ps_set (i := 10) sc_law.nd rfl (.inl rfl) (pe_makeK (n := 2) T.MK_Node G_Node_init hr_Node_init (by rfl) T.G_Node (kb_Node6 T).choose_spec pass0 (pa_cons pe_str (pa_cons pe_str pa_nil)) (pk_cons pe_int (pk_cons pe_int (pk_cons pe_int (pk_cons pe_int (pk_cons pe_int (pk_cons (pe_tup (pa_cons (pv 9) (pa_cons (pv 6) pa_nil))) pk_nil))))))))
      (pss_cons (ps_set (i := 11) sc_law.nd rfl (.inl rfl) (pe_op op_add_str (pe_op op_add_str (pe_op op_add_str (pe_op op_add_str (pe_op op_add_str (pe_op op_add_str pe_str (pv 8)) pe_str) (pv 8)) pe_str) (pv 8)) pe_str))
      (pss_cons (ps_for PassesOwn.never rfl (pi_list (pe_lst (pa_cons (pe_tup (pa_cons (pv 5) (pa_cons (pv 7) pa_nil))) (pa_cons (pe_tup (pa_cons (pv 6) (pa_cons (pv 8) pa_nil))) (pa_cons (pe_tup (pa_cons (pv 10) (pa_cons (pv 11) pa_nil))) pa_nil))))) (pg_tup (by rfl) (pgs_cons (pg_name (i := 12) sc_law.nd rfl (.inl rfl)) (pgs_cons (pg_name (i := 13) sc_law.nd rfl (.inl rfl)) pgs_nil))) (pss_cons (ps_set (i := 14) sc_law.nd rfl (.inl rfl) (pe_call G_write_tree hr_write_tree (by rfl) T.g_write_tree T.F_write_tree.kp T.b_write_tree .nil pass0 (pa_cons (pv 12) pa_nil)))
      (pss_one (ps_if (PW.pt (pw_or (pt_not (pt_val (pe_callB call_isi (by rfl) T.m_isinstance (by decide +kernel) (pa_cons (pv 14) (pa_cons (pe_bltn (v := .ty "str") (by rfl) T.m_str (by decide +kernel) rfl) pa_nil))))) (pw_or1 (pt_cmpR op_ne (pv 14) (pv 13) (nomark _))))) (pss_one (ps_ret pe_bl)) pss_nil))))
      (pss_cons (ps_set (i := 15) sc_law.nd rfl (.inl rfl) (pe_call G_read_tree hr_read_tree (by rfl) T.g_read_tree T.F_read_tree.kp T.b_read_tree .nil pass0 (pa_cons (pv 7) pa_nil)))
      (pss_cons (ps_set (i := 16) sc_law.nd rfl (.inl rfl) (pe_call G_read_tree hr_read_tree (by rfl) T.g_read_tree T.F_read_tree.kp T.b_read_tree .nil pass0 (pa_cons (pv 8) pa_nil)))
      (pss_cons (ps_if (PW.pt (pw_or (pt_cmpR op_ne (pe_call G_write_tree hr_write_tree (by rfl) T.g_write_tree T.F_write_tree.kp T.b_write_tree .nil pass0 (pa_cons (pv 15) pa_nil)) (pv 7) (nomark _)) (pw_or1 (pt_cmpR op_ne (pe_call G_write_tree hr_write_tree (by rfl) T.g_write_tree T.F_write_tree.kp T.b_write_tree .nil pass0 (pa_cons (pv 16) pa_nil)) (pv 8) (nomark _))))) (pss_one (ps_ret pe_bl)) pss_nil)
      (pss_cons (ps_for PassesOwn.never rfl (pi_list (pe_lst (pa_cons (pe_tup (pa_cons (pv 15) (pa_cons (pv 2) pa_nil))) (pa_cons (pe_tup (pa_cons (pv 16) (pa_cons (pv 3) pa_nil))) (pa_cons (pe_tup (pa_cons (pv 5) (pa_cons (pv 2) pa_nil))) (pa_cons (pe_tup (pa_cons (pv 6) (pa_cons (pv 3) pa_nil))) pa_nil)))))) (pg_tup (by rfl) (pgs_cons (pg_name (i := 12) sc_law.nd rfl (.inl rfl)) (pgs_cons (pg_name (i := 13) sc_law.nd rfl (.inl rfl)) pgs_nil))) (pss_one (ps_if (pt_cmpR (op_neD hr.units) (pe_call G_law_told hr_law_told (by rfl) T.g_law_told T.F_law_told.kp T.b_law_told .nil pass0 (pa_cons (pv 12) (pa_cons (pe_op op_add (pe_callB call_len (by rfl) T.m_len PySem.boot_len (pa_cons (pv 13) pa_nil)) pe_int) pa_nil))) (pv 13) (nomark _)) (pss_one (ps_ret pe_bl)) pss_nil)))
      (pss_one (ps_ret pe_bl))))))))))))))))), ?_⟩
    refine ⟨_, rfl, scr, row, rfl, hscr, fun H1 r s1 nr R1 => ?_⟩
    refine ⟨_, rfl, r, rfl, R1, fun la rows H2 hA lA b2 R2 nla => ?_⟩
    refine ⟨_, rfl, r, rfl, R2, fun l L H3 hl hL ll nl b3 R3 => ?_⟩
    have hlr : l ≠ r := (R2.ne nl).symm
    refine ⟨l, rfl, ⟨_, SqL.of hl⟩, fun D nD => ?_⟩
    have hDr : D ≠ r := (R3.ne nD).symm
    refine lc_it (walk_list (K := K) (a := l) (xs := L.map V.int)) (fun j H' => RowsSt r D L H3 j H') (RowsSt.start nD R3) (fun j H' _ S => SqL.of (S.1 _ _ hlr hl)) ?_ ?_
    · rintro j v H4 H5 hj S ⟨rfl, hv⟩
      rw [List.length_map] at hj
      have e1 : L[j]? = some L[j] := List.getElem?_eq_getElem hj
      have hv : (L.map V.int)[j]? = some v := hv
      rw [List.getElem?_map, e1] at hv
      obtain rfl : V.int L[j] = v := Option.some.inj hv
      exact ⟨rfl, _, rfl, _, rfl, r, _, rfl, S.2.1, fun v d H6 hv hd b6 R6 => S.step e1 (by omega) hv hd b6 R6 nD hDr⟩
    rintro H5 S
    rw [List.length_map] at S
    obtain ⟨others, hB, hr2⟩ := S.done hL
    have lB : others.length ≤ 50 := by
      have e := congrArg List.length hr2
      rw [List.length_map] at e
      omega
    have hA3 := hA.but b3 R2 nla
    have hA5 := hA3.but S.1 R3 nla
    clear S hA3 hA hl hlr nl
    refine ⟨_, rfl, la, rows, rfl, hA5, by omega, fun m1 as1 t1 H6 s6 _ hm1 las1 hras1 nt1 => ?_⟩
    have rw1 := rows_of_ras hras1 las1
    refine ⟨m1, _, 0, .ref t1.at, rfl, rfl, SqL.of hm1, atI_nat (j := 0) (by rw [List.getElem?_map, first_at hras1 las1]; rfl), ?_⟩
    have hA6 := hA5.same s6
    have hB6 := hB.same s6
    refine ⟨_, rfl, D, others, rfl, hB6, by omega, fun m2 as2 t2 H7 s7 _ hm2 las2 hras2 nt2 => ?_⟩
    have rw2 := rows_of_ras hras2 las2
    refine ⟨m2, _, 0, .ref t2.at, rfl, rfl, SqL.of hm2, atI_nat (j := 0) (by rw [List.getElem?_map, first_at hras2 las2]; rfl), ?_⟩
    have hA7 := hA6.same s7
    have hB7 := hB6.same s7
    refine ⟨_, rfl, la, rows, t1, rfl, hA7, lA, rw1, fun x1 H8 s8 ex1 => ?_⟩
    have hA8 := hA7.same s8
    have hB8 := hB7.same s8
    refine ⟨_, rfl, D, others, t2, rfl, hB8, by omega, rw2, fun x2 H9 s9 ex2 => ?_⟩
    have hA9 := hA8.same s9
    have hB9 := hB8.same s9
    have ok1 : TrOk t1 := tr_ok 0 t1 (by rw [rw1]; exact hA9.ok)
    have ok2 : TrOk t2 := tr_ok 0 t2 (by rw [rw2]; exact hB9.ok)
    have sz1' : t1.size = rows.length := by rw [← size_rows 0, rw1]
    have sz2' : t2.size = others.length := by rw [← size_rows 0, rw2]
    have T1 : TT K T.C_Node H9 t1 x1 := ⟨nt1.keep (Keeps.of ((s7.trans s8).trans s9)), ok1, by omega, ex1⟩
    have T2 : TT K T.C_Node H9 t2 x2 := ⟨nt2.keep (Keeps.of (s8.trans s9)), ok2, by omega, ex2⟩
    clear hA5 hA6 hA7 hA8 hB hB6 hB7 hB8 s6 s7 s8 s9 nt1 nt2 hm1 hm2 hras1 hras2 las1 las2 ex1 ex2 ok1
    -- pair
    refine ⟨_, rfl, _, rfl, by show 2 ≤ sizeLine; decide, fun p1 np1 => ⟨rfl, rfl, fun a1 dx1 na1 ndx1 hne1 => ?_⟩⟩
    have su1 := same_upd (o := .tup [.ref t2.at, .ref t2.at]) np1
    have hp1 : (upd H9 p1 (.tup [.ref t2.at, .ref t2.at])) p1 = some (.tup [.ref t2.at, .ref t2.at]) := upd_same
    obtain ⟨Ha, hHa⟩ : ∃ Ha, Ha = upd H9 p1 (.tup [.ref t2.at, .ref t2.at]) := ⟨_, rfl⟩
    rw [← hHa] at na1 ndx1 su1 hp1 ⊢
    have sv1 : Same Ha (upd (upd Ha dx1 (.own a1)) a1 (.ins T.C_Node dx1 [])) := (same_upd ndx1).trans (same_upd (by rw [upd_ne hne1.symm]; exact na1))
    have sw1 : Same Ha (upd (upd (upd Ha dx1 (.own a1)) a1 (.ins T.C_Node dx1 [])) a1 (.ins T.C_Node dx1 (nfl dPair p1))) := by
      rw [upd_upd]
      exact (same_upd ndx1).trans (same_upd (by rw [upd_ne hne1.symm]; exact na1))
    refine ⟨a1, dx1, p1, dPair, [.ref t2.at, .ref t2.at], upd_same, rfl, .inl ⟨SqT.of (sv1 _ _ hp1), rfl, ?_⟩⟩
    have ha1 : (upd (upd (upd Ha dx1 (.own a1)) a1 (.ins T.C_Node dx1 [])) a1 (.ins T.C_Node dx1 (nfl dPair p1))) a1 = some (.ins T.C_Node dx1 (nfl dPair p1)) := upd_same
    have hp1' := sw1 _ _ hp1
    obtain ⟨Hb, hHb⟩ : ∃ Hb, Hb = upd (upd (upd Ha dx1 (.own a1)) a1 (.ins T.C_Node dx1 [])) a1 (.ins T.C_Node dx1 (nfl dPair p1)) := ⟨_, rfl⟩
    rw [← hHb] at sw1 ha1 hp1' ⊢
    have s9b := su1.trans sw1
    have T2b := T2.same s9b
    have np : NodeAt K T.C_Node Hb (.mk a1 dPair [t2, t2]) := ⟨⟨dx1, p1, ha1, SqT.of hp1'⟩, T2b.nd, T2b.nd, True.intro⟩
    have okp : TrOk (.mk a1 dPair [t2, t2]) := ⟨ok_dPair, ok2, ok2, True.intro⟩
    clear hHa hHb sv1 su1 sw1 hp1 na1 ndx1 np1
    -- top
    refine ⟨_, rfl, _, rfl, by show 2 ≤ sizeLine; decide, fun p2 np2 => ⟨rfl, rfl, fun a2 dx2 na2 ndx2 hne2 => ?_⟩⟩
    have su1 := same_upd (o := .tup [.ref a1, .ref t2.at]) np2
    have hp2 : (upd Hb p2 (.tup [.ref a1, .ref t2.at])) p2 = some (.tup [.ref a1, .ref t2.at]) := upd_same
    obtain ⟨Hc, hHc⟩ : ∃ Hc, Hc = upd Hb p2 (.tup [.ref a1, .ref t2.at]) := ⟨_, rfl⟩
    rw [← hHc] at na2 ndx2 su1 hp2 ⊢
    have sv1 : Same Hc (upd (upd Hc dx2 (.own a2)) a2 (.ins T.C_Node dx2 [])) := (same_upd ndx2).trans (same_upd (by rw [upd_ne hne2.symm]; exact na2))
    have sw1 : Same Hc (upd (upd (upd Hc dx2 (.own a2)) a2 (.ins T.C_Node dx2 [])) a2 (.ins T.C_Node dx2 (nfl dTop p2))) := by
      rw [upd_upd]
      exact (same_upd ndx2).trans (same_upd (by rw [upd_ne hne2.symm]; exact na2))
    refine ⟨a2, dx2, p2, dTop, [.ref a1, .ref t2.at], upd_same, rfl, .inl ⟨SqT.of (sv1 _ _ hp2), rfl, ?_⟩⟩
    have ha2 : (upd (upd (upd Hc dx2 (.own a2)) a2 (.ins T.C_Node dx2 [])) a2 (.ins T.C_Node dx2 (nfl dTop p2))) a2 = some (.ins T.C_Node dx2 (nfl dTop p2)) := upd_same
    have hp2' := sw1 _ _ hp2
    obtain ⟨Hd, hHd⟩ : ∃ Hd, Hd = upd (upd (upd Hc dx2 (.own a2)) a2 (.ins T.C_Node dx2 [])) a2 (.ins T.C_Node dx2 (nfl dTop p2)) := ⟨_, rfl⟩
    rw [← hHd] at sw1 ha2 hp2' ⊢
    have sbd := su1.trans sw1
    have s9d := s9b.trans sbd
    have T2d := T2.same s9d
    have nt : NodeAt K T.C_Node Hd (.mk a2 dTop [.mk a1 dPair [t2, t2], t2]) := ⟨⟨dx2, p2, ha2, SqT.of hp2'⟩, np.keep (Keeps.of sbd), T2d.nd, True.intro⟩
    have okt : TrOk (.mk a2 dTop [.mk a1 dPair [t2, t2], t2]) := ⟨ok_dTop, okp, ok2, True.intro⟩
    clear hHc hHd sv1 su1 sw1 hp2 na2 ndx2 np2
    -- twice
    have lx2 : x2.length ≤ 104 * 50 := by
      have e := wr_len t2 ok2
      rw [len_cs, T2.tx]
      omega
    have lapp : ∀ a b : Str, (a ++ b).length = a.length + b.length := fun a b => by rw [len_cs, cs_app, List.length_append, ← len_cs, ← len_cs]
    have l1 : (Str.ofString "(top top 0 0 0 0 1 0 (pair pair 0 0 0 0 0 0 ").length ≤ 100 := by decide +kernel
    have l2 : (Str.ofString " ").length ≤ 100 := by decide +kernel
    have l3 : (Str.ofString ") ").length ≤ 100 := by decide +kernel
    have l4 : (Str.ofString ")").length ≤ 100 := by decide +kernel
    refine ⟨_, rfl, _, _, rfl, rfl, szM (by omega), _, _, rfl, rfl, szM (by rw [lapp]; omega), _, rfl, _, _, rfl, rfl, szM (by rw [lapp, lapp]; omega), _, _, rfl, rfl, szM (by rw [lapp, lapp, lapp]; omega), _, rfl, _, _, rfl, rfl, szM (by rw [lapp, lapp, lapp, lapp]; omega), _, _, rfl, rfl, szM (by rw [lapp, lapp, lapp, lapp, lapp]; omega), ?_⟩
    obtain ⟨x3, hx3⟩ : ∃ x3, x3 = Str.ofString "(top top 0 0 0 0 1 0 (pair pair 0 0 0 0 0 0 " ++ x2 ++ Str.ofString " " ++ x2 ++ Str.ofString ") " ++ x2 ++ Str.ofString ")" := ⟨_, rfl⟩
    rw [← hx3]
    have T3 : TT K T.C_Node Hd (.mk a2 dTop [.mk a1 dPair [t2, t2], t2]) x3 := by
      refine ⟨nt, okt, ?_, ?_⟩
      · show 1 + ((1 + (t2.size + (t2.size + 0))) + (t2.size + 0)) ≤ 5000
        omega
      · rw [hx3]
        show _ = 40 :: (wd dTop ++ ((32 :: ((40 :: (wd dPair ++ ((32 :: (t2.wr ++ (32 :: (t2.wr ++ [])))) ++ [41]))) ++ (32 :: (t2.wr ++ [])))) ++ [41]))
        rw [wd_pair, wd_top]
        simp only [cs_app, T2.tx, List.append_assoc, List.append_nil, List.cons_append, List.nil_append]
        rw [show cs (Str.ofString "(top top 0 0 0 0 1 0 (pair pair 0 0 0 0 0 0 ") = 40 :: (cs (Str.ofString "top top 0 0 0 0 1 0") ++ 32 :: 40 :: (cs (Str.ofString "pair pair 0 0 0 0 0 0") ++ [32])) by decide +kernel, show cs (Str.ofString " ") = [32] by decide +kernel, show cs (Str.ofString ") ") = [41, 32] by decide +kernel, show cs (Str.ofString ")") = [41] by decide +kernel]
        simp only [List.append_assoc, List.cons_append, List.nil_append]
    have T1d := T1.same s9d
    -- the trees are written
    refine ⟨_, rfl, _, rfl, by show 2 ≤ sizeLine; decide, fun g1 ng1 => ?_⟩
    have u1 := same_upd (o := .tup [.ref t1.at, .str x1]) ng1
    have k1 : (upd Hd g1 (.tup [.ref t1.at, .str x1])) g1 = some (.tup [.ref t1.at, .str x1]) := upd_same
    obtain ⟨He, hHe⟩ : ∃ He, He = upd Hd g1 (.tup [.ref t1.at, .str x1]) := ⟨_, rfl⟩
    rw [← hHe] at u1 k1 ⊢
    refine ⟨_, rfl, _, rfl, by show 2 ≤ sizeLine; decide, fun g2 ng2 => ?_⟩
    have u2 := same_upd (o := .tup [.ref t2.at, .str x2]) ng2
    have k2 : (upd He g2 (.tup [.ref t2.at, .str x2])) g2 = some (.tup [.ref t2.at, .str x2]) := upd_same
    obtain ⟨Hf, hHf⟩ : ∃ Hf, Hf = upd He g2 (.tup [.ref t2.at, .str x2]) := ⟨_, rfl⟩
    rw [← hHf] at u2 k2 ⊢
    refine ⟨_, rfl, _, rfl, by show 2 ≤ sizeLine; decide, fun g3 ng3 => ?_⟩
    have u3 := same_upd (o := .tup [.ref a2, .str x3]) ng3
    have k3 : (upd Hf g3 (.tup [.ref a2, .str x3])) g3 = some (.tup [.ref a2, .str x3]) := upd_same
    obtain ⟨Hg, hHg⟩ : ∃ Hg, Hg = upd Hf g3 (.tup [.ref a2, .str x3]) := ⟨_, rfl⟩
    rw [← hHg] at u3 k3 ⊢
    refine ⟨by show 3 ≤ sizeLine; decide, fun l1 nl1 => ⟨_, rfl, ⟨_, SqL.of upd_same⟩, ?_⟩⟩
    have u4 := same_upd (o := .lst [.ref g1, .ref g2, .ref g3]) nl1
    have k4 : (upd Hg l1 (.lst [.ref g1, .ref g2, .ref g3])) l1 = some (.lst [.ref g1, .ref g2, .ref g3]) := upd_same
    obtain ⟨Hh, hHh⟩ : ∃ Hh, Hh = upd Hg l1 (.lst [.ref g1, .ref g2, .ref g3]) := ⟨_, rfl⟩
    rw [← hHh] at u4 k4 ⊢
    have sdh := ((u1.trans u2).trans u3).trans u4
    have all : ∀ i, i < 3 → ∃ (g : Addr) (t : Tr) (x : Str), ([.ref g1, .ref g2, .ref g3] : List V)[i]? = some (.ref g) ∧ Hh g = some (.tup [.ref t.at, .str x]) ∧ TT K T.C_Node Hh t x := fun i hi => by
      match i, hi with
      | 0, _ => exact ⟨g1, t1, x1, rfl, ((u2.trans u3).trans u4) _ _ k1, T1d.same sdh⟩
      | 1, _ => exact ⟨g2, t2, x2, rfl, (u3.trans u4) _ _ k2, T2d.same sdh⟩
      | 2, _ => exact ⟨g3, .mk a2 dTop [.mk a1 dPair [t2, t2], t2], x3, rfl, u4 _ _ k3, T3.same sdh⟩
    have hAh := (hA9.same s9d).same sdh
    have hBh := (hB9.same s9d).same sdh
    have T1h := T1d.same sdh
    have T2h := T2d.same sdh
    clear hHh hHg hHf hHe u1 u2 u3 u4 k1 k2 k3 ng1 ng2 ng3 nl1 T1d T2d T1 T2 T2b T3 nt np okt okp hA9 hB9 hx3 sdh sbd s9d s9b ha1 ha2 hp1' hp2'
    refine for_list (K := K) (a := l1) (xs := [.ref g1, .ref g2, .ref g3]) (fun i σ H' => Same Hh H' ∧ ∃ y12 y13 y14 : Option V, σ = [some (.ref scr), some (.ref r), some (.ref la), some (.ref D), none, some (.ref t1.at), some (.ref t2.at), some (.str x1), some (.str x2), some (.ref a1), some (.ref a2), some (.str x3), y12, y13, y14, none, none])
      ⟨fun _ _ e => e, _, _, _, rfl⟩ (fun i σ H' _ ⟨s, _⟩ => SqL.of (s _ _ k4)) ?_ ?_
    · rintro i v σ H' hv ⟨sm, y12, y13, y14, rfl⟩
      have hi : i < 3 := (List.getElem?_eq_some_iff.mp hv).1
      obtain ⟨g, t, x, e1, hg, TT1⟩ := all i hi
      rw [e1] at hv
      obtain rfl : V.ref g = v := Option.some.inj hv
      have TT2 := TT1.same sm
      refine ⟨g, _, rfl, SqT.of (sm _ _ hg), rfl, _, _, rfl, _, _, rfl, rfl, ?_⟩
      refine ⟨_, rfl, t, rfl, TT2.nd, TT2.ok, TT2.sz, fun x' H2 s2 ex' => ?_⟩
      obtain rfl : x' = x := cs_inj (by rw [ex', TT2.tx])
      refine ⟨_, rfl, _, _, _, _, true, rfl, .ty _, .base (.str _), kit_ty (by decide +kernel), true, rfl, iteF ?_⟩
      refine ⟨_, rfl, _, rfl, rfl, _, rfl, itF (by rw [decide_eq_true rfl]; rfl) ?_⟩
      exact ⟨sm.trans s2, _, _, _, rfl⟩
    · rintro σ H' ⟨sm, y12, y13, y14, rfl⟩
      have T1i := T1h.same sm
      have T2i := T2h.same sm
      refine ⟨_, rfl, x1, t1, rfl, T1i.tx, T1i.ok, T1i.sz, fun b1 H2 s2 nb1 eb1 => ?_⟩
      have T2j := T2i.same s2
      refine ⟨_, rfl, x2, t2, rfl, T2j.tx, T2j.ok, T2j.sz, fun b2 H3 s3 nb2 eb2 => ?_⟩
      have okb1 : TrOk b1 := tr_ok 0 b1 (by rw [eb1, rw1]; exact hAh.ok)
      have okb2 : TrOk b2 := tr_ok 0 b2 (by rw [eb2, rw2]; exact hBh.ok)
      have szb1 : b1.size = rows.length := by rw [← size_rows 0, eb1, rw1]
      have szb2 : b2.size = others.length := by rw [← size_rows 0, eb2, rw2]
      have nb1' := nb1.keep (Keeps.of s3)
      refine ⟨_, rfl, b1, rfl, nb1', okb1, by omega, fun x' H4 s4 ex' => ?_⟩
      obtain rfl : x1 = x' := cs_inj (by rw [ex', T1i.tx, like_wr (eb1 0)])
      refine ⟨_, rfl, rfl, _, rfl, itF (by rw [decide_eq_true rfl]; rfl) ?_⟩
      have nb2' := nb2.keep (Keeps.of s4)
      refine ⟨_, rfl, b2, rfl, nb2', okb2, by omega, fun x' H5 s5 ex' => ?_⟩
      obtain rfl : x2 = x' := cs_inj (by rw [ex', T2i.tx, like_wr (eb2 0)])
      refine ⟨_, rfl, rfl, _, rfl, itF (by rw [decide_eq_true rfl]; rfl) ?_⟩
      have s45 := s4.trans s5
      have shu := ((sm.trans s2).trans s3).trans s45
      have N1 := T1h.nd.keep (Keeps.of shu)
      have N2 := T2h.nd.keep (Keeps.of shu)
      have N3 := nb1'.keep (Keeps.of s45)
      have N4 := nb2'.keep (Keeps.of s5)
      have hAu := hAh.same shu
      have hBu := hBh.same shu
      clear T1i T2i T2j nb1 nb2 nb1' nb2' s45 s4 s5 s3 s2 sm shu T1h T2h hAh hBh all k4
      refine ⟨_, rfl, _, rfl, by show 2 ≤ sizeLine; decide, fun g1 ng1 => ?_⟩
      have u1 := same_upd (o := .tup [.ref b1.at, .ref la]) ng1
      have k1 : (upd H5 g1 (.tup [.ref b1.at, .ref la])) g1 = some (.tup [.ref b1.at, .ref la]) := upd_same
      obtain ⟨He, hHe⟩ : ∃ He, He = upd H5 g1 (.tup [.ref b1.at, .ref la]) := ⟨_, rfl⟩
      rw [← hHe] at u1 k1 ⊢
      refine ⟨_, rfl, _, rfl, by show 2 ≤ sizeLine; decide, fun g2 ng2 => ?_⟩
      have u2 := same_upd (o := .tup [.ref b2.at, .ref D]) ng2
      have k2 : (upd He g2 (.tup [.ref b2.at, .ref D])) g2 = some (.tup [.ref b2.at, .ref D]) := upd_same
      obtain ⟨Hf, hHf⟩ : ∃ Hf, Hf = upd He g2 (.tup [.ref b2.at, .ref D]) := ⟨_, rfl⟩
      rw [← hHf] at u2 k2 ⊢
      refine ⟨_, rfl, _, rfl, by show 2 ≤ sizeLine; decide, fun g3 ng3 => ?_⟩
      have u3 := same_upd (o := .tup [.ref t1.at, .ref la]) ng3
      have k3 : (upd Hf g3 (.tup [.ref t1.at, .ref la])) g3 = some (.tup [.ref t1.at, .ref la]) := upd_same
      obtain ⟨Hg, hHg⟩ : ∃ Hg, Hg = upd Hf g3 (.tup [.ref t1.at, .ref la]) := ⟨_, rfl⟩
      rw [← hHg] at u3 k3 ⊢
      refine ⟨_, rfl, _, rfl, by show 2 ≤ sizeLine; decide, fun g4 ng4 => ?_⟩
      have u4 := same_upd (o := .tup [.ref t2.at, .ref D]) ng4
      have k4 : (upd Hg g4 (.tup [.ref t2.at, .ref D])) g4 = some (.tup [.ref t2.at, .ref D]) := upd_same
      obtain ⟨Hh, hHh⟩ : ∃ Hh, Hh = upd Hg g4 (.tup [.ref t2.at, .ref D]) := ⟨_, rfl⟩
      rw [← hHh] at u4 k4 ⊢
      refine ⟨by show 4 ≤ sizeLine; decide, fun l1 nl1 => ⟨_, rfl, ⟨_, SqL.of upd_same⟩, ?_⟩⟩
      have u5 := same_upd (o := .lst [.ref g1, .ref g2, .ref g3, .ref g4]) nl1
      have k5 : (upd Hh l1 (.lst [.ref g1, .ref g2, .ref g3, .ref g4])) l1 = some (.lst [.ref g1, .ref g2, .ref g3, .ref g4]) := upd_same
      obtain ⟨Hi, hHi⟩ : ∃ Hi, Hi = upd Hh l1 (.lst [.ref g1, .ref g2, .ref g3, .ref g4]) := ⟨_, rfl⟩
      rw [← hHi] at u5 k5 ⊢
      have sdi := (((u1.trans u2).trans u3).trans u4).trans u5
      have hAi := hAu.same sdi
      have hBi := hBu.same sdi
      have all : ∀ i, i < 4 → ∃ (g l : Addr) (t : Tr) (rs : List Rw), ([.ref g1, .ref g2, .ref g3, .ref g4] : List V)[i]? = some (.ref g) ∧ Hi g = some (.tup [.ref t.at, .ref l]) ∧ NodeAt K T.C_Node Hi t ∧ t.rows 0 = rs ∧ RowsAt Hi l rs ∧ rs.length ≤ 2200 := fun i hi => by
        match i, hi with
        | 0, _ => exact ⟨g1, la, b1, rows, rfl, (((u2.trans u3).trans u4).trans u5) _ _ k1, N3.keep (Keeps.of sdi), by rw [eb1, rw1], hAi, by omega⟩
        | 1, _ => exact ⟨g2, D, b2, others, rfl, ((u3.trans u4).trans u5) _ _ k2, N4.keep (Keeps.of sdi), by rw [eb2, rw2], hBi, by omega⟩
        | 2, _ => exact ⟨g3, la, t1, rows, rfl, (u4.trans u5) _ _ k3, N1.keep (Keeps.of sdi), rw1, hAi, by omega⟩
        | 3, _ => exact ⟨g4, D, t2, others, rfl, u5 _ _ k4, N2.keep (Keeps.of sdi), rw2, hBi, by omega⟩
      clear hHi hHh hHg hHf hHe u1 u2 u3 u4 u5 k1 k2 k3 k4 ng1 ng2 ng3 ng4 nl1 N1 N2 N3 N4 hAu hBu hAi hBi
      refine for_list (K := K) (a := l1) (xs := [.ref g1, .ref g2, .ref g3, .ref g4]) (fun i σ H' => Same Hi H' ∧ ∃ y12 y13 y14 : Option V, σ = [some (.ref scr), some (.ref r), some (.ref la), some (.ref D), none, some (.ref t1.at), some (.ref t2.at), some (.str x1), some (.str x2), some (.ref a1), some (.ref a2), some (.str x3), y12, y13, y14, some (.ref b1.at), some (.ref b2.at)])
        ⟨fun _ _ e => e, _, _, _, rfl⟩ (fun i σ H' _ ⟨s, _⟩ => SqL.of (s _ _ k5)) ?_ ?_
      · rintro i v σ H' hv ⟨sm, y12, y13, y14, rfl⟩
        have hi : i < 4 := (List.getElem?_eq_some_iff.mp hv).1
        obtain ⟨g, l, t, rs, e1, hg, nd, erw, hrs, lrs⟩ := all i hi
        rw [e1] at hv
        obtain rfl : V.ref g = v := Option.some.inj hv
        have nd2 := nd.keep (Keeps.of sm)
        have hrs2 := hrs.same sm
        obtain ⟨us, hus, hpu⟩ := hrs2.ex
        have lus := paired_len hpu
        refine ⟨g, _, rfl, SqT.of (sm _ _ hg), rfl, _, _, rfl, _, _, rfl, rfl, ?_⟩
        refine ⟨_, rfl, _, rfl, _, us.length, rfl, .inl ⟨_, SqL.of hus, rfl⟩, _, _, rfl, rfl, t, ?_, nd2, by rw [erw]; omega, fun l2 us2 H2 s2 hl2 hp2 => ?_⟩
        · show [V.ref t.at, V.int ((us.length : Int) + 1)] = _
          rw [erw, show (us.length : Int) + 1 = ((rs.length + 1 : Nat) : Int) by omega]
        rw [erw] at hp2
        have hrs3 := hrs2.same s2
        obtain ⟨us3, hus3, hpu3⟩ := hrs3.ex
        refine ⟨_, rfl, .list (rs.map rwD), .list (rs.map rwD), .lst (SqL.of hl2) (rws_dp hp2), .lst (SqL.of hus3) (rws_dp hpu3), rwL_shaped hrs.ok, rwL_shaped hrs.ok, ?_⟩
        rw [SeqAt.eqv_refl _ (rwL_lay hrs.ok)]
        exact ⟨_, rfl, iteF ⟨sm.trans s2, _, _, _, rfl⟩⟩
      · rintro σ H' ⟨sm, y12, y13, y14, rfl⟩
        exact q H'

theorem ok_top (T : Txt K mg) : FnOk P w K mg base CX0 8 T.a_law T.fd_law ["script"] (spLaw K) := ok_law T
end
theorem all_mk {l : PySem.W.OpenLaw} {w : World} {K : PySem.W.Frag} {h : Heap} {mg : Str → Option Value} {fa : Addr} (X : K.In h) (G : h.Ns mainGlobals mg) (hfa : mg "law" = some (.ref fa))
    {C_Node : Addr} (g_Node : PySem.W.nsIn K mainGlobals "Node" = some (some (.ref C_Node)))
    {C_Reader : Addr} (g_Reader : PySem.W.nsIn K mainGlobals "Reader" = some (some (.ref C_Reader)))
    {f0 : Addr} {od0 an0 : Option Addr} {sl0 : Array (Option Value)} {oc0 dc0 pm0 cd0 ct0 : Value}
    {kD0 : Addr}
    {f1 : Addr} {od1 an1 : Option Addr} {sl1 : Array (Option Value)} {oc1 kV1 dc1 pm1 cd1 ct1 : Value}
    {f2 : Addr} {od2 an2 : Option Addr} {sl2 : Array (Option Value)} {oc2 kV2 dc2 pm2 cd2 ct2 : Value}
    {f3 : Addr} {od3 an3 : Option Addr} {sl3 : Array (Option Value)} {oc3 kV3 dc3 pm3 cd3 ct3 : Value}
    {f4 : Addr} {od4 an4 : Option Addr} {sl4 : Array (Option Value)} {oc4 kV4 dc4 pm4 cd4 ct4 : Value}
    {f5 : Addr} {od5 an5 : Option Addr} {sl5 : Array (Option Value)} {oc5 kV5 dc5 pm5 cd5 ct5 : Value}
    {f6 : Addr} {od6 an6 : Option Addr} {sl6 : Array (Option Value)} {oc6 kV6 dc6 pm6 cd6 ct6 : Value}
    {f7 : Addr} {od7 an7 : Option Addr} {sl7 : Array (Option Value)} {oc7 kV7 dc7 pm7 cd7 ct7 : Value}
    {f8 : Addr} {od8 an8 : Option Addr} {sl8 : Array (Option Value)} {oc8 kV8 dc8 pm8 cd8 ct8 : Value}
    {f9 : Addr} {od9 an9 : Option Addr} {sl9 : Array (Option Value)} {oc9 kV9 dc9 pm9 cd9 ct9 : Value}
    {f10 : Addr} {od10 an10 : Option Addr} {sl10 : Array (Option Value)} {oc10 kV10 dc10 pm10 cd10 ct10 : Value}
    {f11 : Addr} {od11 an11 : Option Addr} {sl11 : Array (Option Value)} {oc11 kV11 dc11 pm11 cd11 ct11 : Value}
    {f12 : Addr} {od12 an12 : Option Addr} {sl12 : Array (Option Value)} {oc12 kV12 dc12 pm12 cd12 ct12 : Value}
    {f13 : Addr} {od13 an13 : Option Addr} {sl13 : Array (Option Value)} {oc13 kV13 dc13 pm13 cd13 ct13 : Value}
    {f14 : Addr} {od14 an14 : Option Addr} {sl14 : Array (Option Value)} {oc14 kV14 dc14 pm14 cd14 ct14 : Value}
    {f15 : Addr} {od15 an15 : Option Addr} {sl15 : Array (Option Value)} {oc15 kV15 dc15 pm15 cd15 ct15 : Value}
    {f16 : Addr} {od16 an16 : Option Addr} {sl16 : Array (Option Value)} {oc16 kV16 dc16 pm16 cd16 ct16 : Value}
    {f17 : Addr} {od17 an17 : Option Addr} {sl17 : Array (Option Value)} {oc17 kV17 dc17 pm17 cd17 ct17 : Value}
    {f18 : Addr} {od18 an18 : Option Addr} {sl18 : Array (Option Value)} {oc18 kV18 dc18 pm18 cd18 ct18 : Value}
    {f19 : Addr} {od19 an19 : Option Addr} {sl19 : Array (Option Value)} {oc19 kV19 dc19 pm19 cd19 ct19 : Value}
    {f20 : Addr} {od20 an20 : Option Addr} {sl20 : Array (Option Value)} {oc20 kV20 dc20 pm20 cd20 ct20 : Value}
    {f21 : Addr} {od21 an21 : Option Addr} {sl21 : Array (Option Value)} {oc21 kV21 dc21 pm21 cd21 ct21 : Value}
    {f22 : Addr} {od22 an22 : Option Addr} {sl22 : Array (Option Value)} {oc22 kV22 dc22 pm22 cd22 ct22 : Value}
    {f23 : Addr} {od23 an23 : Option Addr} {sl23 : Array (Option Value)} {oc23 kV23 dc23 pm23 cd23 ct23 : Value}
    {f24 : Addr} {od24 an24 : Option Addr} {sl24 : Array (Option Value)} {oc24 kV24 dc24 pm24 cd24 ct24 : Value}
    {f25 : Addr} {od25 an25 : Option Addr} {sl25 : Array (Option Value)} {oc25 kV25 dc25 pm25 cd25 ct25 : Value}
    {f26 : Addr} {od26 an26 : Option Addr} {sl26 : Array (Option Value)} {oc26 kV26 dc26 pm26 cd26 ct26 : Value}
    {f27 : Addr} {od27 an27 : Option Addr} {sl27 : Array (Option Value)} {oc27 kV27 dc27 pm27 cd27 ct27 : Value}
    {f28 : Addr} {od28 an28 : Option Addr} {sl28 : Array (Option Value)} {oc28 kV28 dc28 pm28 cd28 ct28 : Value}
    {f29 : Addr} {od29 an29 : Option Addr} {sl29 : Array (Option Value)} {oc29 kV29 dc29 pm29 cd29 ct29 : Value}
    {f30 : Addr} {od30 an30 : Option Addr} {sl30 : Array (Option Value)} {oc30 kV30 dc30 pm30 cd30 ct30 : Value}
    {f31 : Addr} {od31 an31 : Option Addr} {sl31 : Array (Option Value)} {oc31 kV31 dc31 pm31 cd31 ct31 : Value}
    {f32 : Addr} {od32 an32 : Option Addr} {sl32 : Array (Option Value)} {oc32 kV32 dc32 pm32 cd32 ct32 : Value}
    (a0 : PySem.W.findIn K (.ref C_Node) "__init__" = some (some (.ref f0)))
    (l0 : K.lookup f0 = some ⟨oc0, od0, .func (PySem.W.fnOf "__init__" "Node.__init__" (defArgs s_Node_init) (defBody s_Node_init) (defScope s_Node_init) .none (.ref kD0) dc0 pm0 an0 cd0 ct0), sl0⟩) (c0 : PySem.W.codeIn K cd0 "Node.__init__" = true) (k0 : PySem.W.keepIn K (.ref f0) = true)
    {kk0_alternative : Tok} (kd0_alternative : PySem.W.nsIn K kD0 "alternative" = some (some (.int (-1) kk0_alternative)))
    {kT0 : Addr} {koc0 : Option Addr} {kn0 : Nat} {ksl0 : Array (Option Value)} (kd0_nodes : PySem.W.nsIn K kD0 "nodes" = some (some (.ref kT0))) (kt0 : K.lookup kT0 = some ⟨.type "tuple", koc0, .seq #[] kn0, ksl0⟩)
    {kk0_popped : Tok} (kd0_popped : PySem.W.nsIn K kD0 "popped" = some (some (.int (0) kk0_popped)))
    (a1 : PySem.W.nsIn K mainGlobals "write_tree" = some (some (.ref f1)))
    (l1 : K.lookup f1 = some ⟨oc1, od1, .func (PySem.W.fnOf "write_tree" "write_tree" (defArgs s_write_tree) (defBody s_write_tree) (defScope s_write_tree) .none kV1 dc1 pm1 an1 cd1 ct1), sl1⟩) (c1 : PySem.W.codeIn K cd1 "write_tree" = true) (k1 : PySem.W.keepIn K (.ref f1) = true)
    (a2 : PySem.W.nsIn K mainGlobals "_written" = some (some (.ref f2)))
    (l2 : K.lookup f2 = some ⟨oc2, od2, .func (PySem.W.fnOf "_written" "_written" (defArgs s_written) (defBody s_written) (defScope s_written) .none kV2 dc2 pm2 an2 cd2 ct2), sl2⟩) (c2 : PySem.W.codeIn K cd2 "_written" = true) (k2 : PySem.W.keepIn K (.ref f2) = true)
    (a3 : PySem.W.nsIn K mainGlobals "read_tree" = some (some (.ref f3)))
    (l3 : K.lookup f3 = some ⟨oc3, od3, .func (PySem.W.fnOf "read_tree" "read_tree" (defArgs s_read_tree) (defBody s_read_tree) (defScope s_read_tree) .none kV3 dc3 pm3 an3 cd3 ct3), sl3⟩) (c3 : PySem.W.codeIn K cd3 "read_tree" = true) (k3 : PySem.W.keepIn K (.ref f3) = true)
    (a4 : PySem.W.nsIn K mainGlobals "_node" = some (some (.ref f4)))
    (l4 : K.lookup f4 = some ⟨oc4, od4, .func (PySem.W.fnOf "_node" "_node" (defArgs s_node) (defBody s_node) (defScope s_node) .none kV4 dc4 pm4 an4 cd4 ct4), sl4⟩) (c4 : PySem.W.codeIn K cd4 "_node" = true) (k4 : PySem.W.keepIn K (.ref f4) = true)
    (a5 : PySem.W.findIn K (.ref C_Reader) "__init__" = some (some (.ref f5)))
    (l5 : K.lookup f5 = some ⟨oc5, od5, .func (PySem.W.fnOf "__init__" "Reader.__init__" (defArgs s_Reader_init) (defBody s_Reader_init) (defScope s_Reader_init) .none kV5 dc5 pm5 an5 cd5 ct5), sl5⟩) (c5 : PySem.W.codeIn K cd5 "Reader.__init__" = true) (k5 : PySem.W.keepIn K (.ref f5) = true)
    (a6 : PySem.W.findIn K (.ref C_Reader) "_char" = some (some (.ref f6)))
    (l6 : K.lookup f6 = some ⟨oc6, od6, .func (PySem.W.fnOf "_char" "Reader._char" (defArgs s_Reader__char) (defBody s_Reader__char) (defScope s_Reader__char) .none kV6 dc6 pm6 an6 cd6 ct6), sl6⟩) (c6 : PySem.W.codeIn K cd6 "Reader._char" = true) (k6 : PySem.W.keepIn K (.ref f6) = true)
    (a7 : PySem.W.findIn K (.ref C_Reader) "_pass_one_of" = some (some (.ref f7)))
    (l7 : K.lookup f7 = some ⟨oc7, od7, .func (PySem.W.fnOf "_pass_one_of" "Reader._pass_one_of" (defArgs s_Reader__pass_one_of) (defBody s_Reader__pass_one_of) (defScope s_Reader__pass_one_of) .none kV7 dc7 pm7 an7 cd7 ct7), sl7⟩) (c7 : PySem.W.codeIn K cd7 "Reader._pass_one_of" = true) (k7 : PySem.W.keepIn K (.ref f7) = true)
    (a8 : PySem.W.findIn K (.ref C_Reader) "sign" = some (some (.ref f8)))
    (l8 : K.lookup f8 = some ⟨oc8, od8, .func (PySem.W.fnOf "sign" "Reader.sign" (defArgs s_Reader_sign) (defBody s_Reader_sign) (defScope s_Reader_sign) .none kV8 dc8 pm8 an8 cd8 ct8), sl8⟩) (c8 : PySem.W.codeIn K cd8 "Reader.sign" = true) (k8 : PySem.W.keepIn K (.ref f8) = true)
    (a9 : PySem.W.findIn K (.ref C_Reader) "goes_on" = some (some (.ref f9)))
    (l9 : K.lookup f9 = some ⟨oc9, od9, .func (PySem.W.fnOf "goes_on" "Reader.goes_on" (defArgs s_Reader_goes_on) (defBody s_Reader_goes_on) (defScope s_Reader_goes_on) .none kV9 dc9 pm9 an9 cd9 ct9), sl9⟩) (c9 : PySem.W.codeIn K cd9 "Reader.goes_on" = true) (k9 : PySem.W.keepIn K (.ref f9) = true)
    (a10 : PySem.W.findIn K (.ref C_Reader) "finish" = some (some (.ref f10)))
    (l10 : K.lookup f10 = some ⟨oc10, od10, .func (PySem.W.fnOf "finish" "Reader.finish" (defArgs s_Reader_finish) (defBody s_Reader_finish) (defScope s_Reader_finish) .none kV10 dc10 pm10 an10 cd10 ct10), sl10⟩) (c10 : PySem.W.codeIn K cd10 "Reader.finish" = true) (k10 : PySem.W.keepIn K (.ref f10) = true)
    (a11 : PySem.W.findIn K (.ref C_Reader) "words" = some (some (.ref f11)))
    (l11 : K.lookup f11 = some ⟨oc11, od11, .func (PySem.W.fnOf "words" "Reader.words" (defArgs s_Reader_words) (defBody s_Reader_words) (defScope s_Reader_words) .none kV11 dc11 pm11 an11 cd11 ct11), sl11⟩) (c11 : PySem.W.codeIn K cd11 "Reader.words" = true) (k11 : PySem.W.keepIn K (.ref f11) = true)
    (a12 : PySem.W.findIn K (.ref C_Reader) "_name" = some (some (.ref f12)))
    (l12 : K.lookup f12 = some ⟨oc12, od12, .func (PySem.W.fnOf "_name" "Reader._name" (defArgs s_Reader__name) (defBody s_Reader__name) (defScope s_Reader__name) .none kV12 dc12 pm12 an12 cd12 ct12), sl12⟩) (c12 : PySem.W.codeIn K cd12 "Reader._name" = true) (k12 : PySem.W.keepIn K (.ref f12) = true)
    (a13 : PySem.W.findIn K (.ref C_Reader) "_pass_literal" = some (some (.ref f13)))
    (l13 : K.lookup f13 = some ⟨oc13, od13, .func (PySem.W.fnOf "_pass_literal" "Reader._pass_literal" (defArgs s_Reader__pass_literal) (defBody s_Reader__pass_literal) (defScope s_Reader__pass_literal) .none kV13 dc13 pm13 an13 cd13 ct13), sl13⟩) (c13 : PySem.W.codeIn K cd13 "Reader._pass_literal" = true) (k13 : PySem.W.keepIn K (.ref f13) = true)
    (a14 : PySem.W.findIn K (.ref C_Reader) "_number" = some (some (.ref f14)))
    (l14 : K.lookup f14 = some ⟨oc14, od14, .func (PySem.W.fnOf "_number" "Reader._number" (defArgs s_Reader__number) (defBody s_Reader__number) (defScope s_Reader__number) .none kV14 dc14 pm14 an14 cd14 ct14), sl14⟩) (c14 : PySem.W.codeIn K cd14 "Reader._number" = true) (k14 : PySem.W.keepIn K (.ref f14) = true)
    (a15 : PySem.W.nsIn K mainGlobals "_law_reel" = some (some (.ref f15)))
    (l15 : K.lookup f15 = some ⟨oc15, od15, .func (PySem.W.fnOf "_law_reel" "_law_reel" (defArgs s_law_reel) (defBody s_law_reel) (defScope s_law_reel) .none kV15 dc15 pm15 an15 cd15 ct15), sl15⟩) (c15 : PySem.W.codeIn K cd15 "_law_reel" = true) (k15 : PySem.W.keepIn K (.ref f15) = true)
    (a16 : PySem.W.nsIn K mainGlobals "_law_draw" = some (some (.ref f16)))
    (l16 : K.lookup f16 = some ⟨oc16, od16, .func (PySem.W.fnOf "_law_draw" "_law_draw" (defArgs s_law_draw) (defBody s_law_draw) (defScope s_law_draw) .none kV16 dc16 pm16 an16 cd16 ct16), sl16⟩) (c16 : PySem.W.codeIn K cd16 "_law_draw" = true) (k16 : PySem.W.keepIn K (.ref f16) = true)
    (a17 : PySem.W.nsIn K mainGlobals "_law_pick" = some (some (.ref f17)))
    (l17 : K.lookup f17 = some ⟨oc17, od17, .func (PySem.W.fnOf "_law_pick" "_law_pick" (defArgs s_law_pick) (defBody s_law_pick) (defScope s_law_pick) .none kV17 dc17 pm17 an17 cd17 ct17), sl17⟩) (c17 : PySem.W.codeIn K cd17 "_law_pick" = true) (k17 : PySem.W.keepIn K (.ref f17) = true)
    (a18 : PySem.W.nsIn K mainGlobals "_law_word" = some (some (.ref f18)))
    (l18 : K.lookup f18 = some ⟨oc18, od18, .func (PySem.W.fnOf "_law_word" "_law_word" (defArgs s_law_word) (defBody s_law_word) (defScope s_law_word) .none kV18 dc18 pm18 an18 cd18 ct18), sl18⟩) (c18 : PySem.W.codeIn K cd18 "_law_word" = true) (k18 : PySem.W.keepIn K (.ref f18) = true)
    (a19 : PySem.W.nsIn K mainGlobals "_law_quoted" = some (some (.ref f19)))
    (l19 : K.lookup f19 = some ⟨oc19, od19, .func (PySem.W.fnOf "_law_quoted" "_law_quoted" (defArgs s_law_quoted) (defBody s_law_quoted) (defScope s_law_quoted) .none kV19 dc19 pm19 an19 cd19 ct19), sl19⟩) (c19 : PySem.W.codeIn K cd19 "_law_quoted" = true) (k19 : PySem.W.keepIn K (.ref f19) = true)
    (a20 : PySem.W.nsIn K mainGlobals "_law_literal" = some (some (.ref f20)))
    (l20 : K.lookup f20 = some ⟨oc20, od20, .func (PySem.W.fnOf "_law_literal" "_law_literal" (defArgs s_law_literal) (defBody s_law_literal) (defScope s_law_literal) .none kV20 dc20 pm20 an20 cd20 ct20), sl20⟩) (c20 : PySem.W.codeIn K cd20 "_law_literal" = true) (k20 : PySem.W.keepIn K (.ref f20) = true)
    (a21 : PySem.W.nsIn K mainGlobals "_law_name" = some (some (.ref f21)))
    (l21 : K.lookup f21 = some ⟨oc21, od21, .func (PySem.W.fnOf "_law_name" "_law_name" (defArgs s_law_name) (defBody s_law_name) (defScope s_law_name) .none kV21 dc21 pm21 an21 cd21 ct21), sl21⟩) (c21 : PySem.W.codeIn K cd21 "_law_name" = true) (k21 : PySem.W.keepIn K (.ref f21) = true)
    (a22 : PySem.W.nsIn K mainGlobals "_law_sort" = some (some (.ref f22)))
    (l22 : K.lookup f22 = some ⟨oc22, od22, .func (PySem.W.fnOf "_law_sort" "_law_sort" (defArgs s_law_sort) (defBody s_law_sort) (defScope s_law_sort) .none kV22 dc22 pm22 an22 cd22 ct22), sl22⟩) (c22 : PySem.W.codeIn K cd22 "_law_sort" = true) (k22 : PySem.W.keepIn K (.ref f22) = true)
    (a23 : PySem.W.nsIn K mainGlobals "_law_comb" = some (some (.ref f23)))
    (l23 : K.lookup f23 = some ⟨oc23, od23, .func (PySem.W.fnOf "_law_comb" "_law_comb" (defArgs s_law_comb) (defBody s_law_comb) (defScope s_law_comb) .none kV23 dc23 pm23 an23 cd23 ct23), sl23⟩) (c23 : PySem.W.codeIn K cd23 "_law_comb" = true) (k23 : PySem.W.keepIn K (.ref f23) = true)
    (a24 : PySem.W.nsIn K mainGlobals "_law_levels" = some (some (.ref f24)))
    (l24 : K.lookup f24 = some ⟨oc24, od24, .func (PySem.W.fnOf "_law_levels" "_law_levels" (defArgs s_law_levels) (defBody s_law_levels) (defScope s_law_levels) .none kV24 dc24 pm24 an24 cd24 ct24), sl24⟩) (c24 : PySem.W.codeIn K cd24 "_law_levels" = true) (k24 : PySem.W.keepIn K (.ref f24) = true)
    (a25 : PySem.W.nsIn K mainGlobals "_law_count" = some (some (.ref f25)))
    (l25 : K.lookup f25 = some ⟨oc25, od25, .func (PySem.W.fnOf "_law_count" "_law_count" (defArgs s_law_count) (defBody s_law_count) (defScope s_law_count) .none kV25 dc25 pm25 an25 cd25 ct25), sl25⟩) (c25 : PySem.W.codeIn K cd25 "_law_count" = true) (k25 : PySem.W.keepIn K (.ref f25) = true)
    (a26 : PySem.W.nsIn K mainGlobals "_law_row" = some (some (.ref f26)))
    (l26 : K.lookup f26 = some ⟨oc26, od26, .func (PySem.W.fnOf "_law_row" "_law_row" (defArgs s_law_row) (defBody s_law_row) (defScope s_law_row) .none kV26 dc26 pm26 an26 cd26 ct26), sl26⟩) (c26 : PySem.W.codeIn K cd26 "_law_row" = true) (k26 : PySem.W.keepIn K (.ref f26) = true)
    (a27 : PySem.W.nsIn K mainGlobals "_law_small_row" = some (some (.ref f27)))
    (l27 : K.lookup f27 = some ⟨oc27, od27, .func (PySem.W.fnOf "_law_small_row" "_law_small_row" (defArgs s_law_small_row) (defBody s_law_small_row) (defScope s_law_small_row) .none kV27 dc27 pm27 an27 cd27 ct27), sl27⟩) (c27 : PySem.W.codeIn K cd27 "_law_small_row" = true) (k27 : PySem.W.keepIn K (.ref f27) = true)
    (a28 : PySem.W.nsIn K mainGlobals "_law_tree" = some (some (.ref f28)))
    (l28 : K.lookup f28 = some ⟨oc28, od28, .func (PySem.W.fnOf "_law_tree" "_law_tree" (defArgs s_law_tree) (defBody s_law_tree) (defScope s_law_tree) .none kV28 dc28 pm28 an28 cd28 ct28), sl28⟩) (c28 : PySem.W.codeIn K cd28 "_law_tree" = true) (k28 : PySem.W.keepIn K (.ref f28) = true)
    (a29 : PySem.W.nsIn K mainGlobals "_law_made" = some (some (.ref f29)))
    (l29 : K.lookup f29 = some ⟨oc29, od29, .func (PySem.W.fnOf "_law_made" "_law_made" (defArgs s_law_made) (defBody s_law_made) (defScope s_law_made) .none kV29 dc29 pm29 an29 cd29 ct29), sl29⟩) (c29 : PySem.W.codeIn K cd29 "_law_made" = true) (k29 : PySem.W.keepIn K (.ref f29) = true)
    (a30 : PySem.W.nsIn K mainGlobals "_law_told" = some (some (.ref f30)))
    (l30 : K.lookup f30 = some ⟨oc30, od30, .func (PySem.W.fnOf "_law_told" "_law_told" (defArgs s_law_told) (defBody s_law_told) (defScope s_law_told) .none kV30 dc30 pm30 an30 cd30 ct30), sl30⟩) (c30 : PySem.W.codeIn K cd30 "_law_told" = true) (k30 : PySem.W.keepIn K (.ref f30) = true)
    (a31 : PySem.W.nsIn K mainGlobals "_law_text" = some (some (.ref f31)))
    (l31 : K.lookup f31 = some ⟨oc31, od31, .func (PySem.W.fnOf "_law_text" "_law_text" (defArgs s_law_text) (defBody s_law_text) (defScope s_law_text) .none kV31 dc31 pm31 an31 cd31 ct31), sl31⟩) (c31 : PySem.W.codeIn K cd31 "_law_text" = true) (k31 : PySem.W.keepIn K (.ref f31) = true)
    (a32 : PySem.W.nsIn K mainGlobals "law" = some (some (.ref f32)))
    (l32 : K.lookup f32 = some ⟨oc32, od32, .func (PySem.W.fnOf "law" "law" (defArgs s_law) (defBody s_law) (defScope s_law) .none kV32 dc32 pm32 an32 cd32 ct32), sl32⟩) (c32 : PySem.W.codeIn K cd32 "law" = true) (k32 : PySem.W.keepIn K (.ref f32) = true)
    (hn : PySem.W.specialIn K (.builtin "object.__class__") "__get__" = some (some (.builtin "getset_descriptor.__get__"))) (ht : PySem.W.takesIn K (.builtin "object.__class__") = some true)
    (pg_Node : PySem.W.plainGet K C_Node Str.empty = true)
    (hdo_Node : PySem.W.hasDictIn K C_Node = true)
    (po_Node : PySem.W.plainOver K C_Node = true)
    (sao_Node : PySem.W.findIn K (.ref C_Node) "__setattr__" = some (some (.builtin "object.__setattr__")))
    (mkC_Node : PySem.W.makesIn K C_Node = true)
    (kcC_Node : PySem.W.keepIn K (.ref C_Node) = true)
    (ha_Node : PySem.W.findIn K (.ref C_Node) "__class__" = some (some (.builtin "object.__class__")))
    (hm_Node : PySem.W.mroIn K C_Node (.type "object") = some true)
    (sC_Node : PySem.W.subIn K (.ref C_Node) (.ref C_Node) = some true)
    (iC_Node : PySem.W.isClsIn K C_Node = true)
    (tY_Node : PySem.W.typeIn K (.ref C_Node) = some (.type "type"))
    (na_Node_kind : PySem.W.findIn K (.ref C_Node) "kind" = some none)
    (na_Node_symbol : PySem.W.findIn K (.ref C_Node) "symbol" = some none)
    (na_Node_state : PySem.W.findIn K (.ref C_Node) "state" = some none)
    (na_Node_lead : PySem.W.findIn K (.ref C_Node) "lead" = some none)
    (na_Node_width : PySem.W.findIn K (.ref C_Node) "width" = some none)
    (na_Node_look : PySem.W.findIn K (.ref C_Node) "look" = some none)
    (na_Node_alternative : PySem.W.findIn K (.ref C_Node) "alternative" = some none)
    (na_Node_nodes : PySem.W.findIn K (.ref C_Node) "nodes" = some none)
    (na_Node_popped : PySem.W.findIn K (.ref C_Node) "popped" = some none)
    (if_Node__init__ : PySem.W.isFn K (.ref f0) = true)
    (pg_Reader : PySem.W.plainGet K C_Reader Str.empty = true)
    (hdo_Reader : PySem.W.hasDictIn K C_Reader = true)
    (po_Reader : PySem.W.plainOver K C_Reader = true)
    (sao_Reader : PySem.W.findIn K (.ref C_Reader) "__setattr__" = some (some (.builtin "object.__setattr__")))
    (mkC_Reader : PySem.W.makesIn K C_Reader = true)
    (kcC_Reader : PySem.W.keepIn K (.ref C_Reader) = true)
    (ha_Reader : PySem.W.findIn K (.ref C_Reader) "__class__" = some (some (.builtin "object.__class__")))
    (hm_Reader : PySem.W.mroIn K C_Reader (.type "object") = some true)
    (sC_Reader : PySem.W.subIn K (.ref C_Reader) (.ref C_Reader) = some true)
    (iC_Reader : PySem.W.isClsIn K C_Reader = true)
    (tY_Reader : PySem.W.typeIn K (.ref C_Reader) = some (.type "type"))
    (na_Reader__notation : PySem.W.findIn K (.ref C_Reader) "_notation" = some none)
    (na_Reader__place : PySem.W.findIn K (.ref C_Reader) "_place" = some none)
    (na_Reader__plain_chars : PySem.W.findIn K (.ref C_Reader) "_plain_chars" = some none)
    (if_Reader__init__ : PySem.W.isFn K (.ref f5) = true)
    (if_Reader_char : PySem.W.isFn K (.ref f6) = true)
    (if_Reader_pass_one_of : PySem.W.isFn K (.ref f7) = true)
    (if_Readersign : PySem.W.isFn K (.ref f8) = true)
    (if_Readergoes_on : PySem.W.isFn K (.ref f9) = true)
    (if_Readerfinish : PySem.W.isFn K (.ref f10) = true)
    (if_Readerwords : PySem.W.isFn K (.ref f11) = true)
    (if_Reader_name : PySem.W.isFn K (.ref f12) = true)
    (if_Reader_pass_literal : PySem.W.isFn K (.ref f13) = true)
    (if_Reader_number : PySem.W.isFn K (.ref f14) = true)
    (z0 : PySem.W.nsIn K mainGlobals "range" = some none)
    (z1 : PySem.W.nsIn K mainGlobals "min" = some none)
    (z2 : PySem.W.nsIn K mainGlobals "max" = some none)
    (z3 : PySem.W.nsIn K mainGlobals "len" = some none)
    (z4 : PySem.W.nsIn K mainGlobals "abs" = some none)
    (z5 : PySem.W.nsIn K mainGlobals "int" = some none)
    (z6 : PySem.W.nsIn K mainGlobals "sum" = some none)
    (z7 : PySem.W.nsIn K mainGlobals "isinstance" = some none)
    (z8 : PySem.W.nsIn K mainGlobals "bool" = some none)
    (z9 : PySem.W.nsIn K mainGlobals "list" = some none)
    (z10 : PySem.W.nsIn K mainGlobals "tuple" = some none)
    (z11 : PySem.W.nsIn K mainGlobals "str" = some none)
    (z12 : PySem.W.nsIn K mainGlobals "reversed" = some none)
    {t0 : Tok} (y0 : PySem.W.nsIn K mainGlobals "PLAIN" = some (some (Value.str "\t\n !\"#$&'()*+,-./0123456789:;<=>?@ABCDEFGHIJKLMNOPQRSTUVWXYZ[\\]^_abcdefghijklmnopqrstuvwxyz{|}~" t0)))
    {t1 : Tok} (y1 : PySem.W.nsIn K mainGlobals "LETTERS" = some (some (Value.str "abcdefghijklmnopqrstuvwxyz" t1)))
    {t2 : Tok} (y2 : PySem.W.nsIn K mainGlobals "NAME_CHARS" = some (some (Value.str "abcdefghijklmnopqrstuvwxyz0123456789_~" t2)))
    {t3 : Tok} (y3 : PySem.W.nsIn K mainGlobals "DIGITS" = some (some (Value.str "0123456789" t3)))
    {t4 : Tok} (y4 : PySem.W.nsIn K mainGlobals "MOST_DIGITS" = some (some (Value.int 9 t4)))
    : ∃ fd : FuncData, (∀ (s : Shared) (v : Value), BindsTo s fd ⟨[v], []⟩ [("script", v)]) ∧ ∀ base : Heap, K.In base → base.Ns mainGlobals mg → FnOk l.prog w K mg base CX0 8 fa fd ["script"] (spLaw K) := by
  have e := hfa.symm.trans (PySem.W.mg_of X G a32)
  cases e
  have F0 := fun_mk (st := s_Node_init) l0 c0 k0
  have F1 := fun_mk (st := s_write_tree) l1 c1 k1
  have b1 := F1.binds (ps := ["node"]) fun _ _ _ _ _ _ us hl => match us, hl with | [_], _ => rfl
  have F2 := fun_mk (st := s_written) l2 c2 k2
  have b2 := F2.binds (ps := ["node"]) fun _ _ _ _ _ _ us hl => match us, hl with | [_], _ => rfl
  have F3 := fun_mk (st := s_read_tree) l3 c3 k3
  have b3 := F3.binds (ps := ["notation"]) fun _ _ _ _ _ _ us hl => match us, hl with | [_], _ => rfl
  have F4 := fun_mk (st := s_node) l4 c4 k4
  have b4 := F4.binds (ps := ["words", "nodes"]) fun _ _ _ _ _ _ us hl => match us, hl with | [_, _], _ => rfl
  have F5 := fun_mk (st := s_Reader_init) l5 c5 k5
  have b5 := F5.binds (ps := ["self", "notation"]) fun _ _ _ _ _ _ us hl => match us, hl with | [_, _], _ => rfl
  have F6 := fun_mk (st := s_Reader__char) l6 c6 k6
  have b6 := F6.binds (ps := ["self"]) fun _ _ _ _ _ _ us hl => match us, hl with | [_], _ => rfl
  have F7 := fun_mk (st := s_Reader__pass_one_of) l7 c7 k7
  have b7 := F7.binds (ps := ["self", "chars"]) fun _ _ _ _ _ _ us hl => match us, hl with | [_, _], _ => rfl
  have F8 := fun_mk (st := s_Reader_sign) l8 c8 k8
  have b8 := F8.binds (ps := ["self", "char"]) fun _ _ _ _ _ _ us hl => match us, hl with | [_, _], _ => rfl
  have F9 := fun_mk (st := s_Reader_goes_on) l9 c9 k9
  have b9 := F9.binds (ps := ["self"]) fun _ _ _ _ _ _ us hl => match us, hl with | [_], _ => rfl
  have F10 := fun_mk (st := s_Reader_finish) l10 c10 k10
  have b10 := F10.binds (ps := ["self"]) fun _ _ _ _ _ _ us hl => match us, hl with | [_], _ => rfl
  have F11 := fun_mk (st := s_Reader_words) l11 c11 k11
  have b11 := F11.binds (ps := ["self"]) fun _ _ _ _ _ _ us hl => match us, hl with | [_], _ => rfl
  have F12 := fun_mk (st := s_Reader__name) l12 c12 k12
  have b12 := F12.binds (ps := ["self"]) fun _ _ _ _ _ _ us hl => match us, hl with | [_], _ => rfl
  have F13 := fun_mk (st := s_Reader__pass_literal) l13 c13 k13
  have b13 := F13.binds (ps := ["self"]) fun _ _ _ _ _ _ us hl => match us, hl with | [_], _ => rfl
  have F14 := fun_mk (st := s_Reader__number) l14 c14 k14
  have b14 := F14.binds (ps := ["self", "signed"]) fun _ _ _ _ _ _ us hl => match us, hl with | [_, _], _ => rfl
  have F15 := fun_mk (st := s_law_reel) l15 c15 k15
  have b15 := F15.binds (ps := ["script"]) fun _ _ _ _ _ _ us hl => match us, hl with | [_], _ => rfl
  have F16 := fun_mk (st := s_law_draw) l16 c16 k16
  have b16 := F16.binds (ps := ["reel", "size"]) fun _ _ _ _ _ _ us hl => match us, hl with | [_, _], _ => rfl
  have F17 := fun_mk (st := s_law_pick) l17 c17 k17
  have b17 := F17.binds (ps := ["reel", "row"]) fun _ _ _ _ _ _ us hl => match us, hl with | [_, _], _ => rfl
  have F18 := fun_mk (st := s_law_word) l18 c18 k18
  have b18 := F18.binds (ps := ["reel", "letters", "least", "most"]) fun _ _ _ _ _ _ us hl => match us, hl with | [_, _, _, _], _ => rfl
  have F19 := fun_mk (st := s_law_quoted) l19 c19 k19
  have b19 := F19.binds (ps := ["chars"]) fun _ _ _ _ _ _ us hl => match us, hl with | [_], _ => rfl
  have F20 := fun_mk (st := s_law_literal) l20 c20 k20
  have b20 := F20.binds (ps := ["reel"]) fun _ _ _ _ _ _ us hl => match us, hl with | [_], _ => rfl
  have F21 := fun_mk (st := s_law_name) l21 c21 k21
  have b21 := F21.binds (ps := ["reel"]) fun _ _ _ _ _ _ us hl => match us, hl with | [_], _ => rfl
  have F22 := fun_mk (st := s_law_sort) l22 c22 k22
  have b22 := F22.binds (ps := ["reel"]) fun _ _ _ _ _ _ us hl => match us, hl with | [_], _ => rfl
  have F23 := fun_mk (st := s_law_comb) l23 c23 k23
  have b23 := F23.binds (ps := ["reel", "deep"]) fun _ _ _ _ _ _ us hl => match us, hl with | [_, _], _ => rfl
  have F24 := fun_mk (st := s_law_levels) l24 c24 k24
  have b24 := F24.binds (ps := ["reel"]) fun _ _ _ _ _ _ us hl => match us, hl with | [_], _ => rfl
  have F25 := fun_mk (st := s_law_count) l25 c25 k25
  have b25 := F25.binds (ps := ["reel", "least"]) fun _ _ _ _ _ _ us hl => match us, hl with | [_, _], _ => rfl
  have F26 := fun_mk (st := s_law_row) l26 c26 k26
  have b26 := F26.binds (ps := ["reel", "level"]) fun _ _ _ _ _ _ us hl => match us, hl with | [_, _], _ => rfl
  have F27 := fun_mk (st := s_law_small_row) l27 c27 k27
  have b27 := F27.binds (ps := ["reel", "level"]) fun _ _ _ _ _ _ us hl => match us, hl with | [_, _], _ => rfl
  have F28 := fun_mk (st := s_law_tree) l28 c28 k28
  have b28 := F28.binds (ps := ["reel"]) fun _ _ _ _ _ _ us hl => match us, hl with | [_], _ => rfl
  have F29 := fun_mk (st := s_law_made) l29 c29 k29
  have b29 := F29.binds (ps := ["rows"]) fun _ _ _ _ _ _ us hl => match us, hl with | [_], _ => rfl
  have F30 := fun_mk (st := s_law_told) l30 c30 k30
  have b30 := F30.binds (ps := ["root", "most"]) fun _ _ _ _ _ _ us hl => match us, hl with | [_, _], _ => rfl
  have F31 := fun_mk (st := s_law_text) l31 c31 k31
  have b31 := F31.binds (ps := ["rows"]) fun _ _ _ _ _ _ us hl => match us, hl with | [_], _ => rfl
  have F32 := fun_mk (st := s_law) l32 c32 k32
  have b32 := F32.binds (ps := ["script"]) fun _ _ _ _ _ _ us hl => match us, hl with | [_], _ => rfl
  let T : Txt K mg :=
    { C_Node := C_Node,
      G_Node := PySem.W.mg_of X G g_Node,
      C_Reader := C_Reader,
      G_Reader := PySem.W.mg_of X G g_Reader,
      a_Node_init := _, fd_Node_init := _, F_Node_init := F0, T0_Node := kT0, t0_Node := ⟨_, _, _, kt0⟩, FD_Node_init := ⟨⟨_, _, _, _, _, _, _, _, _, _, rfl, l0, c0, .inl ⟨rfl, rfl⟩, .inr ⟨_, rfl, kwd_all3 ⟨_, kd0_alternative, ⟨_, rfl⟩⟩ ⟨_, kd0_nodes, rfl⟩ ⟨_, kd0_popped, ⟨_, rfl⟩⟩⟩⟩, k0⟩,
      a_write_tree := _, fd_write_tree := _, F_write_tree := F1, b_write_tree := b1, g_write_tree := PySem.W.mg_of X G a1,
      a_written := _, fd_written := _, F_written := F2, b_written := b2, g_written := PySem.W.mg_of X G a2,
      a_read_tree := _, fd_read_tree := _, F_read_tree := F3, b_read_tree := b3, g_read_tree := PySem.W.mg_of X G a3,
      a_node := _, fd_node := _, F_node := F4, b_node := b4, g_node := PySem.W.mg_of X G a4,
      a_Reader_init := _, fd_Reader_init := _, F_Reader_init := F5, b_Reader_init := b5,
      a_Reader__char := _, fd_Reader__char := _, F_Reader__char := F6, b_Reader__char := b6,
      a_Reader__pass_one_of := _, fd_Reader__pass_one_of := _, F_Reader__pass_one_of := F7, b_Reader__pass_one_of := b7,
      a_Reader_sign := _, fd_Reader_sign := _, F_Reader_sign := F8, b_Reader_sign := b8,
      a_Reader_goes_on := _, fd_Reader_goes_on := _, F_Reader_goes_on := F9, b_Reader_goes_on := b9,
      a_Reader_finish := _, fd_Reader_finish := _, F_Reader_finish := F10, b_Reader_finish := b10,
      a_Reader_words := _, fd_Reader_words := _, F_Reader_words := F11, b_Reader_words := b11,
      a_Reader__name := _, fd_Reader__name := _, F_Reader__name := F12, b_Reader__name := b12,
      a_Reader__pass_literal := _, fd_Reader__pass_literal := _, F_Reader__pass_literal := F13, b_Reader__pass_literal := b13,
      a_Reader__number := _, fd_Reader__number := _, F_Reader__number := F14, b_Reader__number := b14,
      a_law_reel := _, fd_law_reel := _, F_law_reel := F15, b_law_reel := b15, g_law_reel := PySem.W.mg_of X G a15,
      a_law_draw := _, fd_law_draw := _, F_law_draw := F16, b_law_draw := b16, g_law_draw := PySem.W.mg_of X G a16,
      a_law_pick := _, fd_law_pick := _, F_law_pick := F17, b_law_pick := b17, g_law_pick := PySem.W.mg_of X G a17,
      a_law_word := _, fd_law_word := _, F_law_word := F18, b_law_word := b18, g_law_word := PySem.W.mg_of X G a18,
      a_law_quoted := _, fd_law_quoted := _, F_law_quoted := F19, b_law_quoted := b19, g_law_quoted := PySem.W.mg_of X G a19,
      a_law_literal := _, fd_law_literal := _, F_law_literal := F20, b_law_literal := b20, g_law_literal := PySem.W.mg_of X G a20,
      a_law_name := _, fd_law_name := _, F_law_name := F21, b_law_name := b21, g_law_name := PySem.W.mg_of X G a21,
      a_law_sort := _, fd_law_sort := _, F_law_sort := F22, b_law_sort := b22, g_law_sort := PySem.W.mg_of X G a22,
      a_law_comb := _, fd_law_comb := _, F_law_comb := F23, b_law_comb := b23, g_law_comb := PySem.W.mg_of X G a23,
      a_law_levels := _, fd_law_levels := _, F_law_levels := F24, b_law_levels := b24, g_law_levels := PySem.W.mg_of X G a24,
      a_law_count := _, fd_law_count := _, F_law_count := F25, b_law_count := b25, g_law_count := PySem.W.mg_of X G a25,
      a_law_row := _, fd_law_row := _, F_law_row := F26, b_law_row := b26, g_law_row := PySem.W.mg_of X G a26,
      a_law_small_row := _, fd_law_small_row := _, F_law_small_row := F27, b_law_small_row := b27, g_law_small_row := PySem.W.mg_of X G a27,
      a_law_tree := _, fd_law_tree := _, F_law_tree := F28, b_law_tree := b28, g_law_tree := PySem.W.mg_of X G a28,
      a_law_made := _, fd_law_made := _, F_law_made := F29, b_law_made := b29, g_law_made := PySem.W.mg_of X G a29,
      a_law_told := _, fd_law_told := _, F_law_told := F30, b_law_told := b30, g_law_told := PySem.W.mg_of X G a30,
      a_law_text := _, fd_law_text := _, F_law_text := F31, b_law_text := b31, g_law_text := PySem.W.mg_of X G a31,
      a_law := _, fd_law := _, F_law := F32, b_law := b32, g_law := PySem.W.mg_of X G a32,
      CL_Node := ⟨pg_Node, hdo_Node, po_Node, sao_Node⟩,
      MK_Node := ⟨mkC_Node, a0, if_Node__init__, kcC_Node⟩,
      IC_Node := ⟨⟨pg_Node, hdo_Node, po_Node, sao_Node⟩, ha_Node, hn, ht, hm_Node, kit_refT sC_Node iC_Node tY_Node⟩,
      NA_Node_kind := na_Node_kind,
      NA_Node_symbol := na_Node_symbol,
      NA_Node_state := na_Node_state,
      NA_Node_lead := na_Node_lead,
      NA_Node_width := na_Node_width,
      NA_Node_look := na_Node_look,
      NA_Node_alternative := na_Node_alternative,
      NA_Node_nodes := na_Node_nodes,
      NA_Node_popped := na_Node_popped,
      CL_Reader := ⟨pg_Reader, hdo_Reader, po_Reader, sao_Reader⟩,
      MK_Reader := ⟨mkC_Reader, a5, if_Reader__init__, kcC_Reader⟩,
      IC_Reader := ⟨⟨pg_Reader, hdo_Reader, po_Reader, sao_Reader⟩, ha_Reader, hn, ht, hm_Reader, kit_refT sC_Reader iC_Reader tY_Reader⟩,
      NA_Reader__notation := na_Reader__notation,
      NA_Reader__place := na_Reader__place,
      NA_Reader__plain_chars := na_Reader__plain_chars,
      ME_Reader_char := ⟨a6, if_Reader_char, k6⟩,
      ME_Reader_pass_one_of := ⟨a7, if_Reader_pass_one_of, k7⟩,
      ME_Readersign := ⟨a8, if_Readersign, k8⟩,
      ME_Readergoes_on := ⟨a9, if_Readergoes_on, k9⟩,
      ME_Readerfinish := ⟨a10, if_Readerfinish, k10⟩,
      ME_Readerwords := ⟨a11, if_Readerwords, k11⟩,
      ME_Reader_name := ⟨a12, if_Reader_name, k12⟩,
      ME_Reader_pass_literal := ⟨a13, if_Reader_pass_literal, k13⟩,
      ME_Reader_number := ⟨a14, if_Reader_number, k14⟩,
      m_range := PySem.W.mg_none_of X G z0,
      m_min := PySem.W.mg_none_of X G z1,
      m_max := PySem.W.mg_none_of X G z2,
      m_len := PySem.W.mg_none_of X G z3,
      m_abs := PySem.W.mg_none_of X G z4,
      m_int := PySem.W.mg_none_of X G z5,
      m_sum := PySem.W.mg_none_of X G z6,
      m_isinstance := PySem.W.mg_none_of X G z7,
      m_bool := PySem.W.mg_none_of X G z8,
      m_list := PySem.W.mg_none_of X G z9,
      m_tuple := PySem.W.mg_none_of X G z10,
      m_str := PySem.W.mg_none_of X G z11,
      m_reversed := PySem.W.mg_none_of X G z12,
      c_PLAIN := ⟨_, PySem.W.mg_of X G y0⟩,
      c_LETTERS := ⟨_, PySem.W.mg_of X G y1⟩,
      c_NAME_CHARS := ⟨_, PySem.W.mg_of X G y2⟩,
      c_DIGITS := ⟨_, PySem.W.mg_of X G y3⟩,
      c_MOST_DIGITS := ⟨_, PySem.W.mg_of X G y4⟩ }
  exact ⟨PySem.W.fnOf "law" "law" (defArgs s_law) (defBody s_law) (defScope s_law) .none kV32 dc32 pm32 an32 cd32 ct32, fun s v => .of_eq rfl, fun base _ _ => ok_top T⟩
end M
open PySem PySem.W PyProof.Rows
set_option maxRecDepth 100000 in
set_option maxHeartbeats 0 in
theorem PySem.Challenge.cw_mendedtree_k32_tree_written_holds : PySem.Challenge.rw_mendedtree_k32_tree_written.Holds := by
  w_on; o_law; k_head; (case hw => w_witness2)
  k_fill
  refine L2.walk_of (l := PySem.Challenge.rw_mendedtree_k32_tree_written) (n := 63) (k := 8) (x := "script") (CX := fun _ => L2.CX0) (sp := fun w => M.spLaw _) rfl (by decide) rfl ⟨rfl, by decide, by decide⟩ (fun w h Y => PySem.W.kIn_of Y) ?F (fun _ _ a ns hl _ hS => ⟨a, ns, rfl, hS, hl, fun _ => rfl⟩) (fun _ _ _ _ _ h => h)
  case F =>
    intro w mg fa h KX G hmg
    refine' M.all_mk KX G hmg ?g_Node ?g_Reader ?a0 ?l0 ?c0 ?k0 ?kd0_alternative ?kd0_nodes ?kt0 ?kd0_popped ?a1 ?l1 ?c1 ?k1 ?a2 ?l2 ?c2 ?k2 ?a3 ?l3 ?c3 ?k3 ?a4 ?l4 ?c4 ?k4 ?a5 ?l5 ?c5 ?k5 ?a6 ?l6 ?c6 ?k6 ?a7 ?l7 ?c7 ?k7 ?a8 ?l8 ?c8 ?k8 ?a9 ?l9 ?c9 ?k9 ?a10 ?l10 ?c10 ?k10 ?a11 ?l11 ?c11 ?k11 ?a12 ?l12 ?c12 ?k12 ?a13 ?l13 ?c13 ?k13 ?a14 ?l14 ?c14 ?k14 ?a15 ?l15 ?c15 ?k15 ?a16 ?l16 ?c16 ?k16 ?a17 ?l17 ?c17 ?k17 ?a18 ?l18 ?c18 ?k18 ?a19 ?l19 ?c19 ?k19 ?a20 ?l20 ?c20 ?k20 ?a21 ?l21 ?c21 ?k21 ?a22 ?l22 ?c22 ?k22 ?a23 ?l23 ?c23 ?k23 ?a24 ?l24 ?c24 ?k24 ?a25 ?l25 ?c25 ?k25 ?a26 ?l26 ?c26 ?k26 ?a27 ?l27 ?c27 ?k27 ?a28 ?l28 ?c28 ?k28 ?a29 ?l29 ?c29 ?k29 ?a30 ?l30 ?c30 ?k30 ?a31 ?l31 ?c31 ?k31 ?a32 ?l32 ?c32 ?k32 ?hn ?ht ?pg_Node ?hdo_Node ?po_Node ?sao_Node ?mkC_Node ?kcC_Node ?ha_Node ?hm_Node ?sC_Node ?iC_Node ?tY_Node ?na_Node_kind ?na_Node_symbol ?na_Node_state ?na_Node_lead ?na_Node_width ?na_Node_look ?na_Node_alternative ?na_Node_nodes ?na_Node_popped ?if_Node__init__ ?pg_Reader ?hdo_Reader ?po_Reader ?sao_Reader ?mkC_Reader ?kcC_Reader ?ha_Reader ?hm_Reader ?sC_Reader ?iC_Reader ?tY_Reader ?na_Reader__notation ?na_Reader__place ?na_Reader__plain_chars ?if_Reader__init__ ?if_Reader_char ?if_Reader_pass_one_of ?if_Readersign ?if_Readergoes_on ?if_Readerfinish ?if_Readerwords ?if_Reader_name ?if_Reader_pass_literal ?if_Reader_number ?z0 ?z1 ?z2 ?z3 ?z4 ?z5 ?z6 ?z7 ?z8 ?z9 ?z10 ?z11 ?z12 ?y0 ?y1 ?y2 ?y3 ?y4
    (case g_Node => k_is); (case g_Reader => k_is); (case a0 => k_is); (case l0 => k_is); (case c0 => k_is); (case k0 => k_is); (case kd0_alternative => k_is); (case kd0_nodes => k_is); (case kt0 => k_is); (case kd0_popped => k_is); (case a1 => k_is); (case l1 => k_is); (case c1 => k_is); (case k1 => k_is); (case a2 => k_is); (case l2 => k_is); (case c2 => k_is); (case k2 => k_is); (case a3 => k_is); (case l3 => k_is); (case c3 => k_is); (case k3 => k_is); (case a4 => k_is); (case l4 => k_is); (case c4 => k_is); (case k4 => k_is); (case a5 => k_is); (case l5 => k_is); (case c5 => k_is); (case k5 => k_is); (case a6 => k_is); (case l6 => k_is); (case c6 => k_is); (case k6 => k_is); (case a7 => k_is); (case l7 => k_is); (case c7 => k_is); (case k7 => k_is); (case a8 => k_is); (case l8 => k_is); (case c8 => k_is); (case k8 => k_is); (case a9 => k_is); (case l9 => k_is); (case c9 => k_is); (case k9 => k_is); (case a10 => k_is); (case l10 => k_is); (case c10 => k_is); (case k10 => k_is); (case a11 => k_is); (case l11 => k_is); (case c11 => k_is); (case k11 => k_is); (case a12 => k_is); (case l12 => k_is); (case c12 => k_is); (case k12 => k_is); (case a13 => k_is); (case l13 => k_is); (case c13 => k_is); (case k13 => k_is); (case a14 => k_is); (case l14 => k_is); (case c14 => k_is); (case k14 => k_is); (case a15 => k_is); (case l15 => k_is); (case c15 => k_is); (case k15 => k_is); (case a16 => k_is); (case l16 => k_is); (case c16 => k_is); (case k16 => k_is); (case a17 => k_is); (case l17 => k_is); (case c17 => k_is); (case k17 => k_is); (case a18 => k_is); (case l18 => k_is); (case c18 => k_is); (case k18 => k_is); (case a19 => k_is); (case l19 => k_is); (case c19 => k_is); (case k19 => k_is); (case a20 => k_is); (case l20 => k_is); (case c20 => k_is); (case k20 => k_is); (case a21 => k_is); (case l21 => k_is); (case c21 => k_is); (case k21 => k_is); (case a22 => k_is); (case l22 => k_is); (case c22 => k_is); (case k22 => k_is); (case a23 => k_is); (case l23 => k_is); (case c23 => k_is); (case k23 => k_is); (case a24 => k_is); (case l24 => k_is); (case c24 => k_is); (case k24 => k_is); (case a25 => k_is); (case l25 => k_is); (case c25 => k_is); (case k25 => k_is); (case a26 => k_is); (case l26 => k_is); (case c26 => k_is); (case k26 => k_is); (case a27 => k_is); (case l27 => k_is); (case c27 => k_is); (case k27 => k_is); (case a28 => k_is); (case l28 => k_is); (case c28 => k_is); (case k28 => k_is); (case a29 => k_is); (case l29 => k_is); (case c29 => k_is); (case k29 => k_is); (case a30 => k_is); (case l30 => k_is); (case c30 => k_is); (case k30 => k_is); (case a31 => k_is); (case l31 => k_is); (case c31 => k_is); (case k31 => k_is); (case a32 => k_is); (case l32 => k_is); (case c32 => k_is); (case k32 => k_is); (case hn => k_is); (case ht => k_is); (case pg_Node => k_is); (case hdo_Node => k_is); (case po_Node => k_is); (case sao_Node => k_is); (case mkC_Node => k_is); (case kcC_Node => k_is); (case ha_Node => k_is); (case hm_Node => k_is); (case sC_Node => k_is); (case iC_Node => k_is); (case tY_Node => k_is); (case na_Node_kind => k_is); (case na_Node_symbol => k_is); (case na_Node_state => k_is); (case na_Node_lead => k_is); (case na_Node_width => k_is); (case na_Node_look => k_is); (case na_Node_alternative => k_is); (case na_Node_nodes => k_is); (case na_Node_popped => k_is); (case if_Node__init__ => k_is); (case pg_Reader => k_is); (case hdo_Reader => k_is); (case po_Reader => k_is); (case sao_Reader => k_is); (case mkC_Reader => k_is); (case kcC_Reader => k_is); (case ha_Reader => k_is); (case hm_Reader => k_is); (case sC_Reader => k_is); (case iC_Reader => k_is); (case tY_Reader => k_is); (case na_Reader__notation => k_is); (case na_Reader__place => k_is); (case na_Reader__plain_chars => k_is); (case if_Reader__init__ => k_is); (case if_Reader_char => k_is); (case if_Reader_pass_one_of => k_is); (case if_Readersign => k_is); (case if_Readergoes_on => k_is); (case if_Readerfinish => k_is); (case if_Readerwords => k_is); (case if_Reader_name => k_is); (case if_Reader_pass_literal => k_is); (case if_Reader_number => k_is); (case z0 => k_is); (case z1 => k_is); (case z2 => k_is); (case z3 => k_is); (case z4 => k_is); (case z5 => k_is); (case z6 => k_is); (case z7 => k_is); (case z8 => k_is); (case z9 => k_is); (case z10 => k_is); (case z11 => k_is); (case z12 => k_is); (case y0 => k_is); (case y1 => k_is); (case y2 => k_is); (case y3 => k_is); (case y4 => k_is)
