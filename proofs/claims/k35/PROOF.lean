import PyProof.Rows.All
import PySem.Challenge.RW_mendedtree_k35_paths_and_places
import HandS.ForMost
import HandS.ForExc
import HandS.IsInst
import HandS.Codes
import HandS.FStr
import HandS.FStrTup
import HandS.ExcInit
import HandS.ExcIs
import HandS.ExcField
import HandS.ClsMeth
import HandS.ExcValue
import HandS.Style
import HandS.ClsMeth
import KE.KOpsOwn
import HandS.Walk
import HandS.MakeKwOnly
import HandS.Star
import HandS.Text
import HandS.Rev
import KE.KIntText
import HandS.OwnEq
import PyProof.StrBlock2
import HandS.TryOnly
import HandS.Dict
import HandS.CallSlots
import HandS.Defaults
import KE.GoesMore
import HandS.HotCalls
import HandS.TupAny
set_option Elab.async false
set_option linter.all false
set_option maxRecDepth 100000
set_option maxHeartbeats 4000000
namespace L2
open PySem PySem.Spec PyProof.Rows
/-- what the written part says of an own base class whose __init__ is ValueError's -/
structure BaseC (K : PySem.W.Frag) (C0 : Addr) : Prop where
  ga : PySem.W.specialIn K (.ref C0) "__getattribute__" = some (some (.builtin "type.__getattribute__"))
  rd : PySem.W.readsIn K C0 (.type "type") = true
  fi : PySem.W.findCls K (.ref C0) (.type "type") "__init__" = some (.val (.builtin "ValueError.__init__"))
section
variable {X : Cx} {e : Expr} {es : List Expr} {ta : TA} {p1 p2 pos : Pos} {x : Str} {C0 : Addr}
/-- Base.__init__(self, ..), Base an own class over ValueError without an __init__ of its own -/
theorem pe_baseInit {later : Sem Bool} (hg : Gl X x) (hm : X.mg x = some (.ref C0)) (B : BaseC X.K C0) (ha : PA X (e :: es) ta) (hdb : (x == ("__debug__" : Str)) = false := by decide)
    (told : eval (.Call (.Attribute (.Name x p1) "__init__" p2) (e :: es) [] pos) X.env = (do
      let cls ← eval (.Name x p1) X.env
      standAt p2.atName
      let (m, bound) ← holding [cls] (getMethod cls "__init__" later)
      callWith pos m bound (backTo pos (starEach (e :: es) X.env)) (backToKw pos (keywordEach [] X.env))) := by rfl)
    (one : starEach (e :: es) X.env = (false, eval e X.env) :: starEach es X.env := by rfl) (plain : (backTo pos (starEach es X.env)).any (·.1) = false := by rfl) :
    PE X (.Call (.Attribute (.Name x p1) "__init__" p2) (e :: es) [] pos) (tVeI X.K ta) := by
  constructor
  intro pins s σ H Q I h
  refine PySem.W.methodCall_KW (ld_glob I hg hm (PySem.W.method_cls I.kIn B.ga (PySem.W.cls_value I.kIn B.rd B.fi rfl ?_)) hdb) told
  refine PyProof.Rows.callWith_method1 (id := "ValueError.__init__") (thn (ha.run pos pins _ σ H _ (I.tok _) h) ?_) one plain
  rintro us s1 ⟨vs, H1, I1, r1, a, C, ws, rfl, few, T, here, q⟩
  cases r1 with
  | @cons _ u _ us' ra rw' =>
    have eu : u = Value.ref a := ra
    subst eu
    have n : us'.length ≤ sizeLine := by
      have := Paired.length rw'
      rw [sizeLine_eq]
      omega
    exact oinit_ok T I1 here n fun s2 I2 => ⟨.non, H1, I2, rfl, q⟩
end
end L2

namespace PySem.W
open PySem PySem.Spec PySem.Calls PyProof.Rows
section
variable {prog : Program} {w : World} {A : Around} {E : Value → Shared → Prop} {K : Frag} {D : Addr}
/-- what BaseException's reading of __class__ gives, asked of an error with or without a dict -/
theorem bexc_class {x : Addr} {ox : Obj} {od : Option Obj} {s : Shared} {tk : Tok} {R : Value → Shared → Prop} (C : L2.ExcC K D) (X : K.In s.heap) (I : InstAt s.heap x ox D od) (q : R (.ref D) s)
    (hf : findObj K D od "__class__" = some (.bind (.builtin "getset_descriptor.__get__") (.builtin "object.__class__"))) :
    wpAny (model prog w) A (call (.builtin "BaseException.__getattribute__") [.ref x, .str "__class__" tk]) R E s := by
  have ty := I.type (M := model prog w)
  have isExc : Looks (model prog w) s.heap (isInstance (.ref x) (.type "BaseException")) true := ty.andThen (looks_subIn X C.hs)
  refine wpAny_call (codeAny_call_builtin PySem.F.excAttr_ValueError.ga.plain PySem.F.entry_bexc_ga (@check_slot (model prog w) _ _ s "BaseException.__getattribute__" "BaseException" "__getattribute__" (.ref x) [.str "__class__" tk] [] _ (by decide +kernel) (by decide +kernel) isExc (PySem.F.args_bexc_ga (.ref x) (.str "__class__" tk)) ?_))
  unfold Builtin.«object.__getattribute__»
  refine wpAny_bind (wpAny_of_eq (a := ((Value.ref x : Value), [Value.str "__class__" tk])) (by first | rfl | (simp only [slotArgs]; rfl)) (wpAny_bind (wpAny_pure (wpAny_bind (ty.at (wpAny_bind ((looks_find (M := model prog w) X I hf).at ?_)))))))
  exact wpAny_bind (wpAny_holding (wpAny_call (class_get (ox := ox) (od := od) X I C.hm (wpAny_pure (by first | exact wpAny_pure q | exact q)))))
theorem if_no {b : Bool} {m n : Sem Value} {R : Value → Shared → Prop} {F : Value → Shared → Prop} {u : Shared} (e : b = false) (k : wpAny (model prog w) A n R F u) : wpAny (model prog w) A (if b = true then m else n) R F u := by
  subst e
  exact k
theorem class_of_err {x : Addr} {ox od : Obj} {s : Shared} {Q : Option Value → Shared → Prop} (C : L2.ExcC K D) (X : K.In s.heap) (I : InstAt s.heap x ox D (some od)) (q : Q (some (.ref D)) { s with toks := s.toks + 1 }) :
    wpAny (model prog w) A (getAttr? (.ref x) "__class__") Q E s := by
  have some_cls : (clsIn K D).isSome = true := by
    obtain ⟨c, e, _⟩ := any_some C.hd
    rw [e] <;> rfl
  have found := findObj_data (od := od) some_cls C.ha C.hn C.ht
  have other : (Value.builtin "BaseException.__getattribute__" == Value.builtin "object.__getattribute__") = false := by decide +kernel
  obtain ⟨hp, g, d, t, os⟩ := s
  have ty := I.type (M := model prog w)
  unfold getAttr? getAttrBy? getAttrBy
  refine wpAny_bind (wpAny_mkText (wpAny_bind (wpAny_attempt (wpAny_holding (wpAny_bind (ty.at (wpAny_bind ((looks_findIn (M := model prog w) X C.hg).at ?_))))))))
  refine if_no (by rw [other]; rfl) ?_
  unfold getAttrByItsOwn hookBefore
  refine wpAny_bind ?_
  rw [if_pos (by rfl : onTheHeap (Value.ref D) = true)]
  refine (looks_findIn (M := model prog w) X C.hk).at (wpAny_bind (wpAny_attempt (wpAny_holding ?_)))
  unfold callGetattribute
  refine if_no (by rfl) ?_
  unfold boundAndCalled
  rw [PySem.F.excAttr_ValueError.ga.bind (.ref x)]
  refine wpAny_bind (wpAny_pure (bexc_class C X I ?_ found))
  first
    | exact wpAny_pure (wpAny_pure q)
    | exact wpAny_bind (wpAny_pure (wpAny_pure q))
    | exact wpAny_pure q
    | exact wpAny_pure (wpAny_bind (wpAny_pure (wpAny_pure q)))
/-- isinstance of an error that has a dict -/
theorem own_kitx {x : Addr} {ox : Obj} (C : L2.ExcC K D) : KitX K (.ref x) (.ref D) (fun h => ∃ od, InstAt h x ox D (some od)) :=
  { ty := fun _ _ _ ⟨_, I⟩ => I.type
    it := fun M h X _ A' Q' E' s' k q => (mc_isType (s := s') (fun b o e => k b o (X b o e)) C.hd).at q
    ne := (handS_kitx_exc (x := x) (ox := ox) C.hg C.hk C.hs C.hd C.ha C.hn C.ht C.hm).ne
    ca := fun X ⟨_, I⟩ q => class_of_err C X I q }
end
end PySem.W
namespace L2
open PySem PySem.Spec PyProof.Rows
section
variable {X : Cx} {a D dd : Addr} {oe : Obj} {pn : List (Addr × Obj)}
theorem suite_inst {pins : List (Addr × Obj)} {σ : L2.St} {H : Hp} {s : Shared} {fs : List (Str × V)} (I : Inv (X.suite a ((a, oe) :: pn)) pins σ H s) (hz : Zc (.ref D) (some dd) oe) (hf : ∃ vs, oe.data = .fields vs) (hx : H dd = some (.xd fs)) :
    ∃ od, PySem.W.InstAt s.heap a oe D (some od) := by
  have here := (I.pin (a, oe) (by simp [Cx.suite])).1
  obtain ⟨vs, hv⟩ := hf
  have hdx : ObjOk X.prog X.w H s.heap dd (.xd fs) := I.hok dd _ hx
  obtain ⟨m, names, _⟩ := hdx
  obtain ⟨o, ho, _⟩ := lookIn_ns names
  refine ⟨o, here, hz.1, ?_, by rw [hz.2]; exact ho⟩
  unfold PySem.W.notCls
  rw [hv] <;> rfl
/-- isinstance(e, c), e the exception that the suite holds, with its dict at dd -/
def rIsD (K : PySem.W.Frag) (D a dd : Addr) : List V → Hp → VK → Prop := fun xs H Q => ∃ (c : V) (cv : Value) (b : Bool) (fs : List (Str × V)), xs = [.ref a, c] ∧ ClsV c cv ∧ H dd = some (.xd fs) ∧ PySem.W.kitOne K (.ref D) cv = some b ∧ Q (.bl b) H
theorem call_isD (C : ExcC X.K D) (hz : Zc (.ref D) (some dd) oe) (hf : ∃ vs, oe.data = .fields vs) : CallR (X.suite a ((a, oe) :: pn)) (.builtin "isinstance") (rIsD X.K D a dd) := by
  rintro pins s σ H xs us Q I r ⟨c, cv, b, fs, rfl, hcv, hx, e, q⟩
  obtain ⟨w1, w2, rfl, p1, p2⟩ := vals2 r
  have e1 : w1 = Value.ref a := p1
  have e2 := hcv.eq p2
  subst e1 e2
  exact PySem.W.kia_one (PySem.W.own_kitx C) I.kIn (suite_inst I hz hf hx) e nofun fun tk => ⟨.bl b, H, I.kept (t' := tk) fun _ _ z => z, rfl, q⟩
/-- isinstance(e, (c1, c2, ..)) -/
def rIsDT (K : PySem.W.Frag) (D a dd : Addr) : List V → Hp → VK → Prop := fun xs H Q => ∃ (tp : Addr) (cs : List V) (us : List Value) (b : Bool) (fs : List (Str × V)), xs = [.ref a, .ref tp] ∧ H tp = some (.tup cs) ∧ Paired ClsV cs us ∧ H dd = some (.xd fs) ∧ PySem.W.kitAny K (.ref D) us = some b ∧ Q (.bl b) H
theorem call_isDT (C : ExcC X.K D) (hz : Zc (.ref D) (some dd) oe) (hf : ∃ vs, oe.data = .fields vs) : CallR (X.suite a ((a, oe) :: pn)) (.builtin "isinstance") (rIsDT X.K D a dd) := by
  rintro pins s σ H xs us Q I r ⟨tp, cs, ws, b, fs, rfl, hT, k, hx, e, q⟩
  obtain ⟨w1, w2, rfl, p1, p2⟩ := vals2 r
  have e1 : w1 = Value.ref a := p1
  have e2 : w2 = Value.ref tp := p2
  subst e1 e2
  have hok : ObjOk X.prog X.w H s.heap tp (.tup cs) := I.hok tp _ hT
  obtain ⟨_, its, rv, ⟨oc, od, dt, sl⟩, g1, g2, n, g3⟩ := hok
  have e3 := ClsV.all k rv
  dsimp only at g2 g3
  subst e3 g2 g3
  exact PySem.W.kia_tup (PySem.W.own_kitx C) I.kIn (suite_inst I hz hf hx) g1 e nofun fun tk => ⟨.bl b, H, I.kept (t' := tk) fun _ _ z => z, rfl, q⟩
end
end L2

namespace L2
open PySem PySem.Spec PyProof.Rows
/-- an own error class (name) at C, with an __init__ of its own at fI -/
structure ErrK (K : PySem.W.Frag) (mg : Str → Option Value) (name : Str) (C fI : Addr) : Prop where
  g : mg name = some (.ref C)
  oex : OexC K C
  iC : PySem.W.findIn K (.ref C) "__init__" = some (some (.ref fI))
  tI : PySem.W.typeIn K (.ref fI) = some (.type "function")
  exc : ExcC K C
  xf : XfC K C
  self : PySem.W.exmOne K (.ref C) (.ref C) = some true
theorem errK_mk {K : PySem.W.Frag} {mg : Str → Option Value} {name : Str} {C fI : Addr}
    {nm q : Str} {N : Addr} {bs bm : List Value} {sn : List Str} {sub : List Value} {ab : Bool} {col : Option Bool} {dd : Option Addr} {m0 m1 m2 m3 m5 : Option Value}
    (g : mg name = some (.ref C)) (xL : K.lookup C = some (excClassObj nm q C N bs bm true sn sub ab col dd m0 m1 m2 m3 m5 "ValueError.__new__")) (hbm : PySem.HandSPX.refsVE bm = true)
    (sa : PySem.W.findIn K (.ref C) "__setattr__" = some (some (.builtin "object.__setattr__"))) (ga : PySem.W.findIn K (.ref C) "__getattribute__" = some (some (.builtin "BaseException.__getattribute__"))) (gg : PySem.W.findIn K (.ref C) "__getattr__" = some none)
    (iC : PySem.W.findIn K (.ref C) "__init__" = some (some (.ref fI))) (tI : PySem.W.typeIn K (.ref fI) = some (.type "function")) (kC : PySem.W.keepIn K (.ref C) = true) (eC : PySem.W.subIn K (.ref C) (.type "BaseException") = some true) (tC : PySem.W.typeIn K (.ref C) = some (.type "type"))
    (hd : PySem.W.hasDictIn K C = true) (ha : PySem.W.findIn K (.ref C) "__class__" = some (some (.builtin "object.__class__"))) (hn : PySem.W.specialIn K (.builtin "object.__class__") "__get__" = some (some (.builtin "getset_descriptor.__get__")))
    (ht : PySem.W.takesIn K (.builtin "object.__class__") = some true) (hm : PySem.W.mroIn K C (.type "object") = some true) (sC : PySem.W.subIn K (.ref C) (.ref C) = some true) : ErrK K mg name C fI :=
  { g := g, oex := ⟨⟨nm, q, N, bs, bm, sn, sub, ab, col, dd, m0, m1, m2, m3, m5, xL, hbm⟩, sa, eC, tC, kC⟩, iC := iC, tI := tI, exc := ⟨ga, gg, eC, hd, ha, hn, ht, hm⟩, xf := ⟨ga, gg, eC, hd⟩, self := PySem.W.exm_ref eC hd tC sC }
/-- what making such an error with one field leaves: an error whose dict holds the field, all else as it was -/
def spInit1 (f : Str) (C : Addr) (ok : V → Prop) : Sp := fun vs H Q _ => ∃ (a : Addr) (v : V), vs = [.ref a, v] ∧ ok v ∧ H a = some (exo a C none) ∧ ∀ dx, H dx = none → dx ≠ a → Q .non (upd (upd H dx (exd dx [(f, v)])) a (exo a C (some dx)))
theorem made1 {H : Hp} {a dx C : Addr} {f : Str} {v : V} {fs : List (Str × V)} (na : H a = none) (nd : (upd H a (exo a C none)) dx = none) (hne : dx ≠ a) :
    H dx = none ∧ Same H (upd (del (upd (upd (upd H a (exo a C none)) dx (exd dx fs)) a (exo a C (some dx))) a) dx (.xd fs)) ∧ (upd (del (upd (upd (upd H a (exo a C none)) dx (exd dx fs)) a (exo a C (some dx))) a) dx (.xd fs)) dx = some (.xd fs) := by
  have nd' : H dx = none := by
    rw [upd_ne hne] at nd
    exact nd
  refine ⟨nd', fun b o e => ?_, upd_same⟩
  have h1 : b ≠ dx := ne_of_none e nd'
  have h2 : b ≠ a := ne_of_none e na
  rw [upd_ne h1, del_ne h2, upd_ne h2, upd_ne h1, upd_ne h2]
  exact e
/-- the reading of C(e), from such a promise of __init__ -/
theorem mk1 {C : Addr} {f : Str} {ok : V → Prop} {ta : TA} {σ : L2.St} {H : Hp} {Q : XK} (h : ta σ H fun vs H1 => ∃ v, vs = [v] ∧ ok v ∧ ∀ d H', Same H1 H' → H1 d = none → H' d = some (.xd [(f, v)]) → Q (.ref C) (some d) H')
    (mono : ∀ Q1 Q2 : List V → Hp → Prop, (∀ vs H1, Q1 vs H1 → Q2 vs H1) → ta σ H Q1 → ta σ H Q2) : tMkO C (spInit1 f C ok) [] ta σ H Q := by
  refine mono _ _ (fun vs H1 h1 => ?_) h
  obtain ⟨v, rfl, hv, q⟩ := h1
  refine ⟨by show 1 ≤ 1000; decide, fun a na => ⟨a, v, rfl, hv, upd_same, fun dx nd hne => ⟨rfl, dx, [(f, v)], upd_same, ?_, ?_, ?_⟩⟩⟩
  · rw [upd_ne hne, upd_same]
  · exact (made1 (f := f) (v := v) (fs := [(f, v)]) na nd hne).1
  · obtain ⟨m1, m2, m3⟩ := made1 (f := f) (v := v) (fs := [(f, v)]) na nd hne
    exact q dx _ m2 m1 m3
end L2
namespace L2
open PySem PySem.Spec PyProof.Rows
theorem kit_refT {K : PySem.W.Frag} {C D : Addr} (h : PySem.W.subIn K (.ref C) (.ref D) = some true) (i : PySem.W.isClsIn K D = true) (t : PySem.W.typeIn K (.ref D) = some (.type "type")) : PySem.W.kitOne K (.ref C) (.ref D) = some true := by
  unfold PySem.W.kitOne
  split
  · rfl
  · show (if ((PySem.W.clsIn K D).isSome && PySem.W.typeIn K (.ref D) == some (.type "type")) = true then PySem.W.subIn K (.ref C) (.ref D) else none) = some true
    have i' : (PySem.W.clsIn K D).isSome = true := i
    rw [i', t, h]
    rfl
theorem kit_refF {K : PySem.W.Frag} {C D : Addr} (h0 : PySem.W.subIn K (.ref C) (.ref C) = some true) (h : PySem.W.subIn K (.ref C) (.ref D) = some false) (i : PySem.W.isClsIn K D = true) (t : PySem.W.typeIn K (.ref D) = some (.type "type")) : PySem.W.kitOne K (.ref C) (.ref D) = some false := by
  have hne : (Value.ref C == Value.ref D) = false := by
    rw [beq_eq_false_iff_ne]
    intro e
    have e' : C = D := Value.ref.inj e
    rw [← e', h0] at h
    cases h
  unfold PySem.W.kitOne
  rw [hne]
  show (if ((PySem.W.clsIn K D).isSome && PySem.W.typeIn K (.ref D) == some (.type "type")) = true then PySem.W.subIn K (.ref C) (.ref D) else none) = some false
  have i' : (PySem.W.clsIn K D).isSome = true := i
  rw [i', t, h]
  rfl
theorem kit_refTy {K : PySem.W.Frag} {C : Addr} {T : String} {b : Bool} (h : PySem.W.subIn K (.ref C) (.type T) = some b) (m : PySem.W.kitMeta T = true) : PySem.W.kitOne K (.ref C) (.type T) = some b := by
  unfold PySem.W.kitOne
  have hne : (Value.ref C == Value.type T) = false := by
    rw [beq_eq_false_iff_ne]
    intro e
    cases e
  rw [hne]
  show (if PySem.W.kitMeta T = true then PySem.W.subIn K (.ref C) (.type T) else none) = some b
  rw [if_pos m, h]
end L2

namespace L2
open PySem PySem.Spec PyProof.Rows
theorem passX0 {P : Program} {w : World} {X : Cx} (e1 : X.prog = P) (e2 : X.w = w) : Passes (L2.CX P w) X E0 := fun _ _ _ _ _ _ _ c => by
  obtain ⟨_, _, _, _, _, _, _, _, _, _, _, _, z⟩ := c
  exact z.elim
section
variable {X : Cx} {a : Addr} {oe : Obj} {pn : List (Addr × Obj)} {cls : Value} {d : Option Addr}
/-- isinstance(e, c) in the suite that holds e -/
def rIsX (K : PySem.W.Frag) (a : Addr) (cls : Value) (d : Option Addr) : List V → Hp → VK → Prop := fun xs H Q => ∃ (D dd : Addr), cls = .ref D ∧ d = some dd ∧ ExcC K D ∧ rIsD K D a dd xs H Q
theorem call_isX (hz : Zc cls d oe) (hf : ∃ vs, oe.data = .fields vs) : CallR (X.suite a ((a, oe) :: pn)) (.builtin "isinstance") (rIsX X.K a cls d) := by
  rintro pins s σ H xs us Q I r ⟨D, dd, rfl, rfl, C, h⟩
  exact call_isD C hz hf pins s σ H xs us Q I r h
/-- isinstance(e, (c1, ..)) -/
def rIsXT (K : PySem.W.Frag) (a : Addr) (cls : Value) (d : Option Addr) : List V → Hp → VK → Prop := fun xs H Q => ∃ (D dd : Addr), cls = .ref D ∧ d = some dd ∧ ExcC K D ∧ rIsDT K D a dd xs H Q
theorem call_isXT (hz : Zc cls d oe) (hf : ∃ vs, oe.data = .fields vs) : CallR (X.suite a ((a, oe) :: pn)) (.builtin "isinstance") (rIsXT X.K a cls d) := by
  rintro pins s σ H xs us Q I r ⟨D, dd, rfl, rfl, C, h⟩
  exact call_isDT C hz hf pins s σ H xs us Q I r h
end
end L2

namespace L2
open PySem PySem.Spec PyProof.Rows
/-- an error object of the own class at C, held as a value, its dict at d -/
def erv (a C : Addr) (d : Option Addr) : HO := .ext fun hp => ∃ (oe : Obj) (vs : Array Value), hp.get? a = some oe ∧ Zc (.ref C) d oe ∧ oe.data = .fields vs
section
variable {X : Cx} {pins : List (Addr × Obj)} {σ : L2.St} {H : Hp} {s : Shared} {a C dd : Addr} {fs : List (Str × V)}
theorem erv_ok {P : Program} {w : World} {hp : Heap} {d : Option Addr} {oe : Obj} {vs : Array Value} (h1 : hp.get? a = some oe) (h2 : Zc (.ref C) d oe) (h3 : oe.data = .fields vs) : ObjOk P w H hp a (erv a C d) :=
  ⟨⟨oe, vs, h1, h2, h3⟩, ⟨oe, h1⟩, fun _ _ ⟨o1, v1, k1, k2, k3⟩ more => ⟨o1, v1, more _ k1, k2, k3⟩⟩
/-- what makes an error also gives it as a value -/
theorem pe_ofMk {e : Expr} {t : L2.St → Hp → XK → Prop} (h : PMk X e t) :
    PE X e (fun σ H Q => t σ H fun cls d H1 => ∃ C, cls = .ref C ∧ ∀ a, H1 a = none → Q (.ref a) (upd H1 a (erv a C d))) := by
  constructor
  intro pins s σ H Q I hw
  refine thn (h pins s σ H _ I hw) ?_
  rintro u s1 ⟨a, oe, vs, sI, H1, cls, d, eu, I1, kp, n1, ho, hz, hd, _, n2, os, bare, _, C, ec, q⟩
  subst eu
  subst ec
  refine ⟨.ref a, upd H1 a (erv a C d), ?_, rfl, q a n2⟩
  exact I1.call' (ch := []) os (Un.laidN kp n1 n2) (I1.hok.laidN kp n2 (erv_ok ho hz hd)) bare (by simp)
/-- where the error and its dict stand -/
theorem erv_inst (I : Inv X pins σ H s) (ha : H a = some (erv a C (some dd))) (hx : H dd = some (.xd fs)) :
    ∃ (oe : Obj) (m : Str → Option Value) (od : Option Obj), PySem.W.InstAt s.heap a oe C od ∧ (∃ o, od = some o) ∧ (∀ n, PySem.W.lookIn n (od.getD oe) = some (m n)) ∧ ∀ f, RelO (fs.lookup f) (m f) := by
  have k1 : ObjOk X.prog X.w H s.heap a (.ext fun hp => ∃ (oe : Obj) (vs : Array Value), hp.get? a = some oe ∧ Zc (.ref C) (some dd) oe ∧ oe.data = .fields vs) := I.hok a _ ha
  obtain ⟨⟨oe, vs, g1, g2, g3⟩, _⟩ := k1
  have k2 : ObjOk X.prog X.w H s.heap dd (.xd fs) := I.hok dd _ hx
  obtain ⟨m, k3, k4⟩ := k2
  obtain ⟨o, k5, k6⟩ := lookIn_ns k3
  refine ⟨oe, m, some o, ⟨g1, g2.1, ?_, ?_⟩, ⟨o, rfl⟩, k6, k4⟩
  · unfold PySem.W.notCls
    rw [g3] <;> rfl
  · rw [g2.2]
    exact k5
/-- isinstance(x, c), x an error that is held as a value -/
def rIsV (K : PySem.W.Frag) : List V → Hp → VK → Prop := fun xs H Q => ∃ (a C dd : Addr) (fs : List (Str × V)) (c : V) (cv : Value) (b : Bool), xs = [.ref a, c] ∧ H a = some (erv a C (some dd)) ∧ H dd = some (.xd fs) ∧ ExcC K C ∧ ClsV c cv ∧ PySem.W.kitOne K (.ref C) cv = some b ∧ Q (.bl b) H
theorem call_isV : CallR X (.builtin "isinstance") (rIsV X.K) := by
  rintro pins s σ H xs us Q I r ⟨a, C, dd, fs, c, cv, b, rfl, ha, hx, T, hcv, e, q⟩
  obtain ⟨w1, w2, rfl, p1, p2⟩ := vals2 r
  have e1 : w1 = Value.ref a := p1
  have e2 := hcv.eq p2
  subst e1 e2
  obtain ⟨oe, m, od, J, ⟨o, eo⟩, _⟩ := erv_inst I ha hx
  subst eo
  exact PySem.W.kia_one (PySem.W.own_kitx T) I.kIn ⟨o, J⟩ e nofun fun tk => ⟨.bl b, H, I.kept (t' := tk) fun _ _ z => z, rfl, q⟩
/-- x.f, x an error that is held as a value -/
def tFxE (K : PySem.W.Frag) (f : Str) (te : TE) : TE := fun σ H Q => te σ H fun x H1 => ∃ (a C dd : Addr) (fs : List (Str × V)) (v : V), x = .ref a ∧ XfC K C ∧ PySem.W.findIn K (.ref C) f = some none ∧ H1 a = some (erv a C (some dd)) ∧ H1 dd = some (.xd fs) ∧ fs.lookup f = some v ∧ Q v H1
theorem pe_fxE {e : Expr} {te : TE} {pos : Pos} {n : Str} (he : PE X e te) (hb : attributeBase e n X.env (eval e X.env) = eval e X.env := by rfl) : PE X (.Attribute e n pos) (tFxE X.K n te) := by
  constructor
  intro pins s σ H Q I h
  refine attr_of hb (thn (he.run pins s σ H _ I h) ?_)
  rintro y s1 ⟨x, H1, I1, rx, a, C, dd, fs, v, ex, T, hno, ha, hx, l, q⟩
  subst ex
  have ey : y = Value.ref a := rx
  subst ey
  obtain ⟨oe, m, od, J, ⟨o, eo⟩, k1, k2⟩ := erv_inst I1 ha hx
  subst eo
  have k3 := k2 n
  rw [l] at k3
  obtain ⟨val, k4, k5⟩ := RelO.some_of k3
  have k6 : PySem.W.lookIn n o = some (some val) := by
    rw [← k4]
    exact k1 n
  exact HandSPX.exc_get I1.kIn J T.ga T.gg T.exC (PySem.W.findObj_own T.hdC hno rfl k6) (handed_of k5) ⟨v, H1, I1.tok _, k5, q⟩
end
end L2

namespace L2
open PySem PySem.Spec PyProof.Rows
/-- a flat item as repr tells it -/
def sText : V → Str
  | .int i => toString i
  | .str y => reprText y
  | _ => Str.empty
def sOk : V → Prop
  | .int i => i.natAbs.log2 < 1920
  | .str y => ∀ c ∈ y.cps.toList, c < 16 ^ 8
  | _ => False
def sCost : V → Nat
  | .int _ => 1925
  | .str y => 10 * y.length + 4
  | _ => 0
theorem sText_len {v : V} (h : sOk v) : (sText v).length + 2 ≤ sCost v := by
  cases v with
  | int i =>
    have := PyProof.Rows.int_text_len_1921 (i := i) h
    show (Str.ofString (toString i)).length + 2 ≤ 1925
    omega
  | str y =>
    have := StrLaws.reprText_len y h
    show (reprText y).length + 2 ≤ 10 * y.length + 4
    omega
  | _ => exact False.elim h
def sCosts (l : List V) : Nat := (l.map sCost).sum
theorem sCosts_cons (v : V) (l : List V) : sCosts (v :: l) = sCost v + sCosts l := by
  unfold sCosts
  rw [List.map_cons, List.sum_cons]
theorem s_piled : ∀ l : List V, (∀ v ∈ l, sOk v) → piled (l.map sText) ≤ sCosts l
  | [], _ => Nat.zero_le _
  | v :: l, h => by
    have h1 := sText_len (h v List.mem_cons_self)
    have h2 := s_piled l fun x hx => h x (List.mem_cons_of_mem _ hx)
    rw [List.map_cons, piled_cons, sCosts_cons]
    omega
theorem repr_allS {prog : Program} {w : World} : ∀ {l : List V} {its : List Value}, Vals l its → (∀ v ∈ l, sOk v) → sCosts l ≤ sizeLine → ReprAll prog w its (l.map sText)
  | [], _, r, _, _ => by
    cases r
    exact .nil
  | v :: l, _, r, h, hz => by
    cases r with
    | @cons _ u _ us r1 r2 =>
      have h1 := h v List.mem_cons_self
      have hl := sText_len h1
      rw [sCosts_cons] at hz
      have k : ReprIs prog w u (sText v) := by
        cases v with
        | int i =>
          obtain ⟨t, rfl⟩ := r1
          exact ReprIs.int t h1
        | str y =>
          obtain ⟨t, rfl⟩ := r1
          exact ReprIs.str y t (by have : (reprText y).length + 2 ≤ sCost (.str y) := hl; omega)
        | _ => exact False.elim h1
      exact .cons k (repr_allS r2 (fun x hx => h x (List.mem_cons_of_mem _ hx)) (by omega))
section
variable {X : Cx}
/-- {t}, t a tuple of ints and texts: some text -/
def tFmtS (K : PySem.W.Frag) (te : TE) : TE := fun σ H Q => te σ H fun x H1 => ∃ (a : Addr) (l : List V), x = .ref a ∧ SqT K H1 a l ∧ (∀ v ∈ l, sOk v) ∧ sCosts l + 7 ≤ sizeLine ∧ ∀ m : Str, m.length ≤ sCosts l + 7 → Q (.str m) H1
theorem pe_fmtS {e : Expr} {te : TE} {pos : Pos} {k : Nat} (hr : Room k X.A) (he : PE X e te) : PE X (.FormattedValue e (-1) none pos) (tFmtS X.K te) := by
  refine ⟨fun pins s σ H Q I h => ?_⟩
  refine wpAny_FormattedValue_plain (thn (he.run pins s σ H _ I h) fun v s1 hv => ?_)
  obtain ⟨x, H1, I1, r1, a, l, rfl, ht, hc, hz, q⟩ := hv
  cases r1
  obtain ⟨its, rv, ⟨o, ho, hcl, n, hd⟩, _⟩ := I1.tuple ht
  have hp := s_piled l hc
  have htx := fmt_text (l.map sText)
  have hu := hr.units
  exact fmt_tuple (ts := l.map sText) (by omega) ho hcl hd (repr_allS rv hc (by omega)) (by omega) fun m u tk hm => ⟨.str m, H1, I1.tok _, ⟨u, rfl⟩, q m (by omega)⟩
end
/-- x = e and what follows, e's reading first -/
theorem seq_asg {te : TE} {g : TG} {b : TS} {D : Ends} {σ : L2.St} {H : Hp} (h : te σ H fun x H1 => g x σ H1 fun σ2 H2 => b D σ2 H2) : tSeq (tAsg te g) b D σ H := h
/-- what making an error leaves: an error whose dict holds the fields fs, all else as it was -/
def spInitN (C : Addr) (n : Nat) (ok : Hp → List V → Prop) (fs : List V → List (Str × V)) : Sp := fun vs H Q _ => ∃ (a : Addr) (ws : List V), vs = .ref a :: ws ∧ ws.length = n ∧ ok H ws ∧ H a = some (exo a C none) ∧
  ∀ dx H', H dx = none → dx ≠ a → H' a = some (exo a C (some dx)) → H' dx = some (exd dx (fs ws)) → (∀ b, b ≠ a → b ≠ dx → H' b = H b) → Q .non H'
theorem mkN {C : Addr} {n : Nat} {ok : Hp → List V → Prop} {fs : List V → List (Str × V)} {ta : TA} {σ : L2.St} {H : Hp} {Q : XK}
    (h : ta σ H fun ws H1 => ws.length = n ∧ ws.length ≤ 1000 ∧ (∀ a, H1 a = none → ok (upd H1 a (exo a C none)) ws) ∧ ∀ d H', Same H1 H' → H1 d = none → H' d = some (.xd (fs ws)) → Q (.ref C) (some d) H')
    (mono : ∀ Q1 Q2 : List V → Hp → Prop, (∀ vs H1, Q1 vs H1 → Q2 vs H1) → ta σ H Q1 → ta σ H Q2) : tMkO C (spInitN C n ok fs) [] ta σ H Q := by
  refine mono _ _ (fun ws H1 h1 => ?_) h
  obtain ⟨hn, hz, hk, q⟩ := h1
  refine ⟨hz, fun a na => ⟨a, ws, by rw [List.append_nil], hn, hk a na, upd_same, fun dx H' nd hne ha hd hb => ⟨rfl, dx, fs ws, ha, hd, ?_, ?_⟩⟩⟩
  · rw [upd_ne hne] at nd
    exact nd
  · rw [upd_ne hne] at nd
    refine q dx _ (fun b o e => ?_) nd upd_same
    have h1 : b ≠ a := ne_of_none e na
    have h2 : b ≠ dx := ne_of_none e nd
    rw [upd_ne h2, del_ne h1, hb b h1 h2, upd_ne h1]
    exact e
end L2

/-! ### enumerate(t), t a tuple -/
namespace OwnOp
open PySem PySem.Spec PyProof.Rows L2
set_option maxHeartbeats 4000000 in
theorem enum_new1 {v : Value} {o : Obj} {G : Heap → Prop} (B : Begins v o G) :
    Meets (Builtin.«enumerate.__new__» ⟨[.type "enumerate", v], []⟩) (fun _ R s => G s.heap ∧
      R (.ok (.ret (.ref (s.heap.push o).objs.size))) { s with heap := (s.heap.push o).push { cls := .type "enumerate", data := .fields #[.none, .bool false, .ref s.heap.objs.size, rawInt 0, .none, .none] } }) := by
  refine .of_wp fun prog w A R s h => ?_
  obtain ⟨hp, g, d, tk, os⟩ := s
  obtain ⟨h1, h⟩ := h
  have hsub := sub_enumerate
  have step : ∀ {A' : Around} {E : Value → Shared → Prop} {Q : Value → Shared → Prop}, Q (.ref hp.objs.size) ⟨hp.push o, g, d, tk, os⟩ → wpAny (model prog w) A' (pyIter v) Q E ⟨hp, g, d, tk, os⟩ :=
    fun {A' E Q} k => B.iter prog w A' E ⟨hp, g, d, tk, os⟩ Q h1 k
  wp_walk using step
  refine wpAny_stack_any fun st => wpAny_pure ?_
  have fin : ∀ b : Bool, b = b := fun _ => rfl
  split
  · rename_i c _ _ _ _ _
    generalize (c == Value.type "enumerate") = b
    cases b <;> (wp_walk using step; exact ⟨_, rfl, h⟩)
  · wp_walk using step
    exact ⟨_, rfl, h⟩
theorem begin_enumT {prog : Program} {w : World} {A : Around} {E : Value → Shared → Prop} {s : Shared} {t : Addr} {items : Array Value} {Q : Value → Shared → Prop} (ht : s.heap.IsTuple t items)
    (h : ∀ h', IsEnum h' (s.heap.objs.size + 1) s.heap.objs.size 0 .none → h'.IsTupleIter s.heap.objs.size t 0 → h'.objs.size = s.heap.objs.size + 2 → (∀ b o, s.heap.get? b = some o → h'.get? b = some o) → Q (.ref (s.heap.objs.size + 1)) { s with heap := h' }) :
    wpAny (model prog w) A (call (.type "enumerate") [.ref t]) Q E s := by
  have B := begins_tuple t items
  refine callType_new F.called_enumerate (by decide) (F.typeCall_enumerate_1 _) (F.newCall_enumerate_1 _) (fun obj => F.args_object_init_2 obj _) F.entry_enumerate_new (enum_new1 B) ⟨ht, ?_⟩
  obtain ⟨it, hit⟩ : ∃ it : Obj, it = { cls := .type "tuple_iterator", data := .fields #[.ref t, .int 0 0] } := ⟨_, rfl⟩
  rw [← hit]
  have n1 : (s.heap.push it).objs.size = s.heap.objs.size + 1 := Heap.size_push ..
  obtain ⟨en, hen⟩ : ∃ en : Obj, en = { cls := .type "enumerate", data := .fields #[.none, .bool false, .ref s.heap.objs.size, rawInt 0, .none, .none] } := ⟨_, rfl⟩
  rw [← hen]
  have g1 : ((s.heap.push it).push en).get? (s.heap.objs.size + 1) = some en := by
    have := Heap.get?_push_size (s.heap.push it) (o := en) (by rw [hen]; rfl)
    rwa [n1] at this
  have g0 : ((s.heap.push it).push en).get? s.heap.objs.size = some it := Heap.get?_push_of_some _ (Heap.get?_push_size _ (by rw [hit]; rfl))
  rw [n1]
  have he : IsEnum ((s.heap.push it).push en) (s.heap.objs.size + 1) s.heap.objs.size 0 .none := by
    show _ = _
    rw [g1, hen]
  exact ⟨⟨_, he, rfl⟩, h _ he ⟨it, g0, by rw [hit], by rw [hit]; rfl⟩ (by rw [Heap.size_push, n1]) fun b o x => Heap.get?_push_of_some _ (Heap.get?_push_of_some _ x)⟩
/-- the tuple at a, cells items in new pairs behind their places -/
def ItEt (K : PySem.W.Frag) (a : Addr) : It :=
  ⟨fun i H => ∃ (xs : List V) (x : V), SqT K H a xs ∧ xs[i]? = some x, fun i H v H' => ∃ T x, v = .ref T ∧ H T = none ∧ H' = upd H T (.tup [.int (i : Nat), x]) ∧ ∀ xs, SqT K H a xs → xs[i]? = some x, fun i H => ∃ xs : List V, SqT K H a xs ∧ xs.length = i⟩
theorem turn_enumT {P : Program} {w : World} {K : PySem.W.Frag} {elts : List Expr} {kk : Nat} {tpos : Pos} (a e it : Addr) :
    Turn P w K (.Tuple elts kk tpos) (ItEt K a) [e, it] e (fun i h => (∃ seen, IsEnum h e it ((i : Nat) : Int) seen) ∧ h.IsTupleIter it a i ∧ e ≠ it) where
  mem := by simp
  obj := fun i h st b hb => by
    obtain ⟨⟨seen, he⟩, ⟨o, ho, hc, hd⟩, _⟩ := st
    rcases List.mem_cons.mp hb with eqz | eqz
    · rw [eqz]
      exact ⟨_, he, fun v q => nomatch q⟩
    · rw [List.mem_singleton.mp eqz]
      exact ⟨o, ho, fun v q => by rw [hd] at q; cases q⟩
  keep := fun i h h' st k => by
    obtain ⟨⟨seen, he⟩, hi, hne⟩ := st
    exact ⟨⟨seen, k e (by simp) _ he⟩, hi.at fun o q => k it (by simp) o q, hne⟩
  item := by
    intro X hP hw hK hc i pins s σ H E I hf st hg
    subst hP hw hK
    obtain ⟨⟨seen, he⟩, hit, hne⟩ := st
    obtain ⟨xs, x, hq, hx⟩ := hg
    obtain ⟨cells, paired, p, hz⟩ := I.tuple hq
    have p : s.heap.IsTuple a cells.toArray := p
    obtain ⟨u, hu, ru⟩ := paired.get hx
    have e_old : e < s.heap.objs.size := Heap.lt_size he
    have it_old : it < s.heap.objs.size := by obtain ⟨_, q, _⟩ := hit; exact Heap.lt_size q
    have a_it : a ≠ it := fun eqz => by
      obtain ⟨o1, q1, c1, _⟩ := hit
      obtain ⟨o2, q2, c2, _⟩ := p
      rw [eqz, q1] at q2
      cases q2
      rw [c1] at c2
      injection c2 with c2
      exact absurd c2 (by decide)
    have hea : e ≠ a := fun eqz => by
      obtain ⟨o2, q2, c2, _⟩ := p
      have he : s.heap.get? e = some _ := he
      rw [eqz, q2] at he
      cases he
      have c2 : Value.type "enumerate" = Value.type "tuple" := c2
      injection c2 with c2
      exact absurd c2 (by decide)
    have hin : i < cells.toArray.size := by
      have := (List.getElem?_eq_some_iff.mp hu).1
      simpa using this
    refine wpAny_pyNext_enum_itemD (Draws.tuple (A := X.A.in1) (I.ok.hd hc) it a a_it cells.toArray) he ⟨hit, p⟩ hin hne (by simp [hne, hea]) fun yy h' tk hy ho hst hT hsz stays => ?_
    have hy : cells.toArray[i]? = some yy := hy
    obtain rfl : u = yy := by
      have : cells[i]? = some yy := by simpa using hy
      exact Option.some.inj (hu.symm.trans this)
    refine ⟨_, rfl, wpAny_letOwnedTupleGo_enum (s := { s with heap := h', toks := tk + 1 }) ho fun h'' he' but1 => ?_⟩
    have hT2 : h''.get? s.heap.objs.size = some { cls := .type "tuple", data := .seq #[.int i tk, u] } := (but1.2 _ (Nat.ne_of_gt e_old)).trans hT
    have new : ObjOk X.prog X.w (upd H s.heap.objs.size (.tup [.int (i : Nat), x])) h'' s.heap.objs.size (.tup [.int (i : Nat), x]) :=
      ⟨by show 2 ≤ sizeLine; decide, [.int i tk, u], .cons ⟨_, rfl⟩ (.cons ru .nil), ⟨_, hT2, rfl, _, rfl⟩⟩
    have J1 : Inv X pins σ (upd H s.heap.objs.size (.tup [.int (i : Nat), x])) { s with heap := h'', toks := tk + 1 } :=
      I.turnedNew (ch := [e, it]) (fun b ob hb q => (but1.2 b (fun eqz => hb (by simp [eqz]))).trans (stays b ob (fun eqz => hb (by simp [eqz])) (fun eqz => hb (by simp [eqz])) q)) hf (Nat.le_refl _) new
    refine ⟨.ref s.heap.objs.size, _, J1, rfl, ⟨_, x, rfl, I.hok.fresh (Nat.le_refl _), rfl, fun ys hy => by rw [I.tuple_inj hy hq]; exact hx⟩, ⟨⟨u, ?_⟩, hst.1.at fun o q => (but1.2 it (Ne.symm hne)).trans q, hne⟩, fun b hb => ?_⟩
    · rw [show ((i + 1 : Nat) : Int) = (i : Int) + 1 by omega]
      exact he'
    · have b_old : b < s.heap.objs.size := by
        rcases List.mem_cons.mp hb with eqz | eqz
        · rw [eqz]
          exact e_old
        · rw [List.mem_singleton.mp eqz]
          exact it_old
      rw [upd_ne (Nat.ne_of_lt b_old)]
      exact (hf b hb).1
  done := by
    intro X hP hw hK hc i pins s σ H E I hf st hg
    subst hP hw hK
    obtain ⟨⟨seen, he⟩, hit, hne⟩ := st
    obtain ⟨xs, hq, hx⟩ := hg
    obtain ⟨cells, paired, p, hz⟩ := I.tuple hq
    have p : s.heap.IsTuple a cells.toArray := p
    obtain ⟨f0, f1, f2, f3, f4, f5⟩ := hf it (by simp)
    have hl := paired.length
    have a_it : a ≠ it := fun eqz => by
      obtain ⟨o1, q1, c1, _⟩ := hit
      obtain ⟨o2, q2, c2, _⟩ := p
      rw [eqz, q1] at q2
      cases q2
      rw [c1] at c2
      injection c2 with c2
      exact absurd c2 (by decide)
    have hin : i = cells.toArray.size := by
      rw [List.size_toArray]
      omega
    subst hin
    exact wpAny_pyNext_enum_endD (Draws.tuple (A := X.A.in1) (I.ok.hd hc) it a a_it cells.toArray) he ⟨hit, p⟩ fun h' eb => ⟨rfl, I.turned (t' := s.toks) (fun b o hb q => eb b o hb q) f0 f1 f3 f4 f5⟩
  self := fun A i s Q E st h => by
    obtain ⟨⟨_, he⟩, _⟩ := st
    exact wpAny_pyIter_enum he h
def iEnumT (K : PySem.W.Frag) (ta : TA) : TI := fun σ H R => ta σ H fun vs H1 => ∃ a xs, vs = [.ref a] ∧ SqT K H1 a xs ∧ R (ItEt K a) H1
theorem pi_enumT {X : Cx} {e : Expr} {ta : TA} {p pos tpos : Pos} {elts : List Expr} {kk : Nat} (hg : Gl X "enumerate") (hm : X.mg "enumerate" = none) (ha : PA X [e] ta) (hs : starEach [e] X.env = [(false, eval e X.env)] := by rfl) :
    PI X (.Tuple elts kk tpos) (.Call (.Name "enumerate" p) [e] [] pos) (iEnumT X.K ta) := by
  refine ⟨fun pins s σ H R I h => ?_⟩
  refine Call_ (ld_blt I hg hm boot_enumerate (PyProof.Rows.callWith_type1 (thn (ha.run pos pins s σ H _ I h) fun us s1 ⟨vs, H1, J1, r1, q1⟩ => ?_) hs rfl))
  obtain ⟨a, xs, rfl, hq, q⟩ := q1
  cases r1 with
  | cons r rr =>
    cases rr
    cases r
    obtain ⟨cells, paired, p', hz⟩ := J1.tuple hq
    refine begin_enumT (show s1.heap.IsTuple a cells.toArray from p') fun h' he hit hsz stays => wpAny_pyIter_enum he ?_
    have J2 : Inv X pins σ H1 { s1 with heap := h' } := J1.kept (t' := s1.toks) stays
    refine ⟨s1.heap.objs.size + 1, [s1.heap.objs.size + 1, s1.heap.objs.size], _, _, H1, rfl, J2, turn_enumT a (s1.heap.objs.size + 1) s1.heap.objs.size, ⟨⟨.none, he⟩, hit, Nat.succ_ne_self _⟩, fun b hb => ?_, q⟩
    have above : s1.heap.objs.size ≤ b := by
      rcases List.mem_cons.mp hb with eqz | eqz
      · rw [eqz]
        exact Nat.le_add_right _ _
      · rw [List.mem_singleton.mp eqz]
        exact Nat.le_refl _
    exact J1.fpOk above (J1.hok.fresh above)
theorem walk_enumT {K : PySem.W.Frag} {a : Addr} {xs : List V} : Walk (ItEt K a) xs.length (fun H => SqT K H a xs) (YPair (fun i => some (.int (i : Nat))) (fun i => xs[i]?)) :=
  ⟨fun i _ hi q => ⟨xs, xs[i], q, List.getElem?_eq_getElem hi⟩, fun _ q => ⟨xs, q, rfl⟩, fun i H v H' _ q yy => by
    obtain ⟨T, x, h1, h2, h3, h4⟩ := yy
    exact ⟨T, .int (i : Nat), x, h1, h2, h3, rfl, h4 xs q⟩⟩
end OwnOp

/-! two tuples of the same plain items and objects: != tells False -/
namespace OwnOp
open PySem PySem.Spec PyProof.Rows L2
def itemB (v : V) : Prop := flatB v = true ∨ ∃ p, v = .ref p
theorem items_same {A : Around} {s : Shared} : ∀ {xs : List V} {us ws : List Value}, Vals xs us → Vals xs ws → (∀ v ∈ xs, itemB v) → ∀ j (h1 : j < us.length) (h2 : j < ws.length), SeqAt.EqAt A s us[j] ws[j] true
  | [], _, _, .nil, _, _, j, h1, _ => absurd h1 (Nat.not_lt_zero j)
  | x :: xs, _, _, .cons a1 b1, .cons a2 b2, h, j, h1, h2 => by
    cases j with
    | zero =>
      rcases h x List.mem_cons_self with f | ⟨p, rfl⟩
      · exact eqAt_same a1 a2 f
      · cases (show _ = Value.ref p from a1)
        cases (show _ = Value.ref p from a2)
        exact SeqAt.EqAt.same _
    | succ j => exact items_same b1 b2 (fun v hv => h v (List.mem_cons_of_mem _ hv)) j (Nat.lt_of_succ_lt_succ h1) (Nat.lt_of_succ_lt_succ h2)
section
variable {X : Cx}
def rNeTS (K : PySem.W.Frag) : R2 := fun x y H Q => ∃ a b xs, x = .ref a ∧ y = .ref b ∧ SqT K H a xs ∧ SqT K H b xs ∧ (∀ v ∈ xs, itemB v) ∧ Q (.bl false) H
theorem op_neTS (hu : X.A.units + 64 < cLine) : OpR X (compareOp .NotEq) (rNeTS X.K) := by
  intro pins s σ H x y v u Q I rx ry h
  obtain ⟨a, b, xs, rfl, rfl, ha, hb, hi, q⟩ := h
  cases (show v = Value.ref a from rx)
  cases (show u = Value.ref b from ry)
  obtain ⟨us, r1, p1, _⟩ := I.tuple ha
  obtain ⟨ws, r2, p2, _⟩ := I.tuple hb
  have hsz : us.toArray.size = ws.toArray.size := by
    rw [List.size_toArray, List.size_toArray, ← r1.length, ← r2.length]
  have e : (!((List.range (min us.toArray.size ws.toArray.size)).all (fun _ => true) && us.toArray.size == ws.toArray.size)) = false := by
    rw [show ((List.range (min us.toArray.size ws.toArray.size)).all fun _ => true) = true from List.all_eq_true.mpr fun _ _ => rfl, hsz]
    simp
  refine SeqAt.RcNeAt.tuples (e := fun _ => true) p1 p2 (by omega) (fun j h1 h2 => ?_) X.prog X.w _ _ ?_
  · have k := items_same (A := X.A.in1) (s := s) r1 r2 hi j (by simpa using h1) (by simpa using h2)
    simpa using k
  · rw [e]
    exact ⟨.bl false, H, I, rfl, q⟩
end
end OwnOp

/-! two tuples of the same plain items and objects: == tells True (beside own5) -/
namespace OwnOp
open PySem PySem.Spec PyProof.Rows L2
section
variable {X : Cx}
def rEqTS (K : PySem.W.Frag) : R2 := fun x y H Q => ∃ a b xs, x = .ref a ∧ y = .ref b ∧ SqT K H a xs ∧ SqT K H b xs ∧ (∀ v ∈ xs, itemB v) ∧ Q (.bl true) H
theorem op_eqTS (hu : X.A.units + 64 < cLine) : OpR X (compareOp .Eq) (rEqTS X.K) := by
  intro pins s σ H x y v u Q I rel1 rel2 h
  obtain ⟨a, b, xs, rfl, rfl, ha, hb, hi, q⟩ := h
  cases (show v = Value.ref a from rel1)
  cases (show u = Value.ref b from rel2)
  obtain ⟨us, r1, p1, _⟩ := I.tuple ha
  obtain ⟨ws, r2, p2, _⟩ := I.tuple hb
  have sizes : us.toArray.size = ws.toArray.size := by
    rw [List.size_toArray, List.size_toArray, ← r1.length, ← r2.length]
  have e : ((List.range (min us.toArray.size ws.toArray.size)).all (fun _ => true) && us.toArray.size == ws.toArray.size) = true := by
    rw [show ((List.range (min us.toArray.size ws.toArray.size)).all fun _ => true) = true from List.all_eq_true.mpr fun _ _ => rfl, sizes]
    simp
  refine SeqAt.RcAt.tuples (e := fun _ => true) p1 p2 (by omega) (fun j h1 h2 => ?_) X.prog X.w _ _ ?_
  · have k := items_same (A := X.A.in1) (s := s) r1 r2 hi j (by simpa using h1) (by simpa using h2)
    simpa using k
  · rw [e]
    exact ⟨.bl true, H, I, rfl, q⟩
end
end OwnOp

/-! own defs called in an except suite: a walk over a tuple there; errors with an __init__ whose context is known -/
namespace OwnHot
open PySem PySem.Spec PyProof.Rows L2 L2H HotX
theorem tupEnd {prog : Program} {w : World} {A : Around} {E : Value → Shared → Prop} {s : Shared} {it t x1 : Addr} {i : Nat} {items : Array Value} {Q : Option Value → Shared → Prop} (hot : HotAt A x1 s.heap) (hit : s.heap.IsTupleIter it t i) (ht : s.heap.IsTuple t items)
    (ends : items[i]? = none) (hQ : ∀ h', (∀ b o, b ≠ it → s.heap.get? b = some o → h'.get? b = some o) → Q none { s with heap := h' }) : wpAny (model prog w) A (pyNext (.ref it)) Q E s := by
  have ty := hit.typeIs
  obtain ⟨oi, gi, _, di⟩ := hit
  obtain ⟨ot, gt, _, nt, dt⟩ := ht
  obtain ⟨hh, oh, vh, gh, dh, ch⟩ := hot
  have n1 : it ≠ x1 := fun z => by
    rw [z, gh] at gi
    have z2 := Option.some.inj gi
    rw [← z2, dh] at di
    injection di with di
    rw [di] at ch
    cases ch
  unfold pyNext
  refine wpAny_bind (wpAny_attempt (wpAny_callSpecial?_slot (name := Str.ofString "__next__") ty F.slot_tuple_iterator_next (wpAny_call_entry F.slot_tuple_iterator_next ty F.entry_tuple_iterator_next ?_ (F.args_tuple_iterator_next_1 _))))
  show wpAny _ _ (field (Value.ref it) 0 >>= _) _ _ _
  refine wpAny_bind (wpAny_field gi di (x := Value.ref t) rfl ?_)
  have nn : ¬ ((Value.ref t == Value.none) = true) := Bool.false_ne_true
  show wpAny _ _ (if (Value.ref t == Value.none) = true then _ else _) _ _ _
  rw [if_neg nn]
  show wpAny _ _ (field (Value.ref it) 1 >>= _) _ _ _
  refine wpAny_bind (wpAny_field gi di (x := Value.int i 0) rfl ?_)
  show wpAny _ _ (seqItems? (Value.ref t) >>= _) _ _ _
  refine wpAny_bind (wpAny_seqItems gt dt ?_)
  simp only [Int.toNat_natCast, ends]
  refine wpAny_bind (wpAny_rule (wpAny_bind (wpAny_setField gi di (by simp) ?_)))
  show wpAny _ _ (newExc (Value.type "StopIteration") [] >>= _) _ _ _
  refine wpAny_bind ?_
  simp only [newExc, newTuple]
  refine wpAny_bind (wpAny_newObj_type ?_ (by size_fits))
  refine wpAny_bind (m := firstArgMember _ _) (wpAny_of_eq (a := Value.none) (by first | rfl | (simp only [firstArgMember]; rfl)) (wpAny_newObj_type ?_ (by size_fits)))
  have gu : ∀ b o, b ≠ it → s.heap.get? b = some o → (s.heap.update it (Obj.mapFields (·.setIfInBounds 0 Value.none))).get? b = some o := fun b o nb e => by
    rw [Heap.get?_update_other _ _ (Ne.symm nb)]
    exact e
  refine raiseNew_hot (x1 := x1) ⟨hh, oh, vh, Heap.get?_push_of_some _ (Heap.get?_push_of_some _ (gu _ _ (Ne.symm n1) gh)), dh, ch⟩ (Nat.ne_of_lt (Heap.lt_size (Heap.get?_push_of_some _ (gu _ _ (Ne.symm n1) gh)))) (Heap.get?_push_size _ rfl) rfl (by first | (simp; done) | (simp; omega) | (simp only [Array.size_append]; simp; omega)) ?_
  refine wpAny_bind (wpAny_isInstance (T := "StopIteration") (b := true) ⟨_, Heap.get?_update_self _ (Heap.get?_push_size _ rfl) rfl, rfl⟩ isSubtype_stop (wpAny_pure (hQ _ fun b o nb e => ?_)))
  rw [Heap.get?_update_other _ _ (Nat.ne_of_gt (Heap.lt_size (Heap.get?_push_of_some _ (gu b o nb e))))]
  exact Heap.get?_push_of_some _ (Heap.get?_push_of_some _ (gu b o nb e))
theorem turn_tupleH {P : Program} {w : World} {K : PySem.W.Frag} {tg : Expr} (a it : Addr) : TurnH P w K tg (Itt K a) [it] it (fun i h => h.IsTupleIter it a i) where
  mem := List.mem_singleton.mpr rfl
  obj := (turn_tuple (P := P) (w := w) (K := K) (tg := tg) a it).obj
  keep := (turn_tuple (P := P) (w := w) (K := K) (tg := tg) a it).keep
  item := fun X hP hw hK _ i pins s σ H E I hf st hg => by
    cases hP
    cases hw
    cases hK
    obtain ⟨xs, x, hq, ends⟩ := hg
    obtain ⟨args, rv, p, _⟩ := I.tuple hq
    obtain ⟨u, at_u, ru⟩ := rv.get ends
    obtain ⟨f0, f1, f2, f3, f4, f5⟩ := hf it (List.mem_singleton.mpr rfl)
    refine wpAny_pyNext_tuple_item (items := args.toArray) st p (x := u) (by simpa using at_u) fun h2 st2 sb => ?_
    have J : Inv X pins σ H { s with heap := h2 } := I.turned (t' := s.toks) (fun b o hb e => (sb.2 b hb).trans e) f0 f1 f3 f4 f5
    obtain ⟨o, e, c, d⟩ := id st2
    refine ⟨u, rfl, go_of (s := { s with heap := h2 }) e c d (by decide) ⟨x, H, J, ru, ⟨rfl, fun ys hy => ?_⟩, st2, fun b hb => (hf b hb).1⟩⟩
    rw [I.tuple_inj hy hq]
    exact ends
  done := fun X hP hw hK hot i pins s σ H E I hf st hg => by
    cases hP
    cases hw
    cases hK
    obtain ⟨xs, hq, ends⟩ := hg
    obtain ⟨args, rv, p, _⟩ := I.tuple hq
    obtain ⟨f0, f1, f2, f3, f4, f5⟩ := hf it (List.mem_singleton.mpr rfl)
    have n := rv.length
    obtain ⟨x1, h1⟩ := hot.at I
    exact tupEnd (items := args.toArray) h1 st p (by simp; omega) fun h2 eb => ⟨rfl, I.turned (t' := s.toks) (fun b o hb e => eb b o hb e) f0 f1 f3 f4 f5⟩
  self := (turn_tuple (P := P) (w := w) (K := K) (tg := tg) a it).self
theorem pi_tupH {X : Cx} {tg l : Expr} {tl : TE} (hl : PE X l tl) : PIH X tg l (iTup X.K tl) := by
  constructor
  intro pins s σ H R I h
  refine thn (hl.run pins s σ H _ I h) ?_
  rintro v s1 ⟨x, H1, I1, r1, a, rfl, ⟨xs, hq⟩, q⟩
  cases r1
  obtain ⟨args, _, p, _⟩ := I1.tuple hq
  have keeps1 : ∀ b o, s1.heap.get? b = some o → (s1.heap.push { cls := .type "tuple_iterator", data := .fields #[.ref a, .int 0 0] }).get? b = some o := fun b o e => Heap.get?_push_of_some _ e
  have J : Inv X pins σ H1 { s1 with heap := s1.heap.push { cls := .type "tuple_iterator", data := .fields #[.ref a, .int 0 0] } } := I1.kept (t' := s1.toks) keeps1
  refine wpAny_pyIter_tuple (items := args.toArray) p ⟨s1.heap.objs.size, [s1.heap.objs.size], _, _, H1, rfl, J, turn_tupleH a _, ⟨_, Heap.get?_push_size _ rfl, rfl, rfl⟩, fun b hb => ?_, q⟩
  rw [List.mem_singleton.mp hb]
  exact I1.fpOk (s := s1) (Nat.le_refl _) (I1.hok.fresh (Nat.le_refl _))
theorem passX0N {P : Program} {w : World} {X : Cx} (e1 : X.prog = P) (e2 : X.w = w) : Passes (L2N.CX P w) X E0 := fun _ _ _ _ _ _ _ ⟨_, _, _, _, _, _, _, _, _, _, _, _, z⟩ => z.elim
theorem takes0N {X : Cx} : L2N.Takes X (fun _ _ _ _ => False) := fun _ _ ⟨_, _, _, _, _, _, _, _, _, _, _, _, _, _, _, _, z⟩ => z.elim
/-- C(e, ..), C an own error class with an own __init__, made where nothing is handled: its context is None -/
theorem pmk_oexN {X : Cx} {CX : CXT} {x : Str} {e : Expr} {es : List Expr} {ta : TA} {p pos : Pos} {C fI : Addr} {k : Nat} {fd : FuncData} {ps : List Str} {sp : Sp} (T : OexC X.K C) (iC : PySem.W.findIn X.K (.ref C) "__init__" = some (some (.ref fI))) (tI : PySem.W.typeIn X.K (.ref fI) = some (.type "function"))
    (F1 : FnOk X.prog X.w X.K X.mg X.base CX k fI fd ps sp) (room : Room (k + 1) X.A) (bd : Binds X.K fd ps []) (px : Passes CX X (fun _ _ _ => False)) (hg : Gl X x) (hm : X.mg x = some (.ref C)) (ha : PA X (e :: es) ta)
    (nd : (x == ("__debug__" : Str)) = false := by decide) (one : starEach (e :: es) X.env = (false, eval e X.env) :: starEach es X.env := by rfl) (plain : (backTo pos (starEach es X.env)).any (·.1) = false := by rfl) :
    L2N.PMk X (.Call (.Name x p) (e :: es) [] pos) (tMkO C sp [] ta) := by
  intro pins s σ H Q I h
  obtain ⟨_, _, _, _, rest, _, _, _, _, _, _, _, _, _, _, look, refs⟩ := T.cls
  refine wpAny_Call_Name_kw (ld_glob I hg hm (PySem.W.callWith_K (h₀ := X.base) I.ok.mod.kin T.kC (thn (ha.run pos pins s σ H _ I h) ?_) one plain) nd)
  rintro args s1 ⟨vs, H1, I1, r1, few, q1⟩
  refine ⟨I1.kIn, ?_⟩
  show wpAny _ _ (call (.ref C) args) _ _ _
  obtain ⟨hp, g, drw, tk, os⟩ := s1
  generalize en : hp.objs.size + 1 = n
  have le : hp.objs.size ≤ n := by omega
  have fre : H1 n = none := I1.hok.fresh le
  have hq := q1 n fre
  rw [List.append_nil] at hq
  have obj : ((hp.push (PySem.W.kdv_tup args)).push (PySem.HandSPX.excO C hp.objs.size)).get? n = some (PySem.HandSPX.excO C hp.objs.size) := by
    rw [← en]
    heap_get
  have more : ∀ b o, hp.get? b = some o → ((hp.push (PySem.W.kdv_tup args)).push (PySem.HandSPX.excO C hp.objs.size)).get? b = some o := fun b o z => Heap.get?_push_of_some _ (Heap.get?_push_of_some _ z)
  have J : Inv X pins σ (upd H1 n (exo n C none)) ⟨(hp.push (PySem.W.kdv_tup args)).push (PySem.HandSPX.excO C hp.objs.size), g, drw, tk, os⟩ := I1.laid (t' := tk) (a := n) (o := exo n C none) more le (exo_ok obj)
  have vals : Vals (V.ref n :: vs) (Value.ref n :: args) := .cons rfl r1
  have cnt : (Value.ref n :: args ++ []).length = ps.length := by
    rw [List.append_nil, ← vals.length]
    exact F1.len _ _ _ _ hq
  have bds := bd _ (Value.ref n :: args) J.kIn cnt
  rw [List.append_nil] at bds
  have short : args.length ≤ sizeLine := by
    have := Paired.length r1
    rw [sizeLine_eq]
    omega
  have run := F1.run _ X.stack _ _ ⟨Value.ref n :: args, []⟩ (Value.ref n :: args) _ _ (fun _ _ _ => False) (room.make C args []) (J.env0.make C args []) bds vals hq
  subst en
  refine wpAny_call (PySem.HandSPX.call_own F.excBase_ValueError (fun Y => PySem.HandSPX.refsVE_contains Y rest refs) (I1.kIn _ _ look) (PySem.W.looks_findIn I1.kIn iC) (fun self => PySem.W.bind_fn I1.kIn self tI) short (codeAny_mono run ?_))
  rintro (er | (_ | _ | _ | u)) s2 got
  · exact px pins σ _ _ er s2 J got
  · exact got.elim
  · exact got.elim
  · exact got.elim
  · obtain ⟨v, H2, os2, bare2, un2, hok2, rv, ev, d, fs, ea, ed, hd1, q2⟩ := got
    subst ev
    obtain ⟨h2, g2, d2, t2, os'⟩ := s2
    obtain ⟨t0, G, J2, kG, ge, at_, na⟩ := mk_end0 (d2 := d2) (t2 := t2) I1 le more un2 hok2 os2 bare2 ea ed hd1
    exact ⟨rv, ⟨_, _, _, ⟨G, g2, d2, t2, os'⟩, _, .ref C, some d, rfl, J2, kG, ge, at_, ⟨rfl, rfl, fun ws hw => by cases hw; rfl⟩, rfl, rfl, na, rfl, bare2, raises_own T.exC T.tyC, q2⟩⟩
theorem passA0 {X : Cx} {σ : L2.St} : PassesAt CX0 X σ E0 := fun _ _ _ _ _ _ z => z.elim
theorem unitsH {k : Nat} {A : Around} (r : RoomH k A) : A.units + 64 < cLine := by
  have := r.un
  omega
/-- a def of the text that may raise, the error's context told -/
theorem okN {P : Program} {w : World} {K : PySem.W.Frag} {mg : Str → Option Value} {base : Heap} {x qual : Str} {st : Stmt} {f : Addr} {fd : FuncData} {N ps : List Str} {k : Nat} {sp : Sp} (F1 : Fun K x qual st f fd) (S : FnScope N ps (defScope st)) (len : ∀ vs H Q E, sp vs H Q E → vs.length = ps.length)
    (body : ∀ (cdv : Value) (A : Around) (outer : List Env) (s : Shared) (H : Hp) (vs : List V) (Q : VK) (E : XK), Room k (A.deeper (envOfC qual (defScope st) s.heap.objs.size f cdv)) → sp vs H Q E →
      ∃ t, PSs (cxOf (L2N.CX P w) P w K mg base N qual (defScope st) f cdv A outer s H E) (defBody st) t ∧ t { nx := fun _ H' => Q .non H', rt := Q } (start N vs) H) : FnOk P w K mg base (L2N.CX P w) (k + 1) f fd ps sp := by
  obtain ⟨_, _, _, _, _, _, cdv, _, _, e, look, code⟩ := F1.ex
  subst e
  exact fn_of look code S len fun A outer s H vs Q E => body cdv A outer s H vs Q E
/-- what a def promises where an error is handled -/
theorem okH {P : Program} {w : World} {K : PySem.W.Frag} {mg : Str → Option Value} {base : Heap} {x qual : Str} {st : Stmt} {f : Addr} {fd : FuncData} {N ps : List Str} {k : Nat} {sp : Sp} (F1 : Fun K x qual st f fd) (S : FnScope N ps (defScope st)) (len : ∀ vs H Q E, sp vs H Q E → vs.length = ps.length)
    (body : ∀ (cdv : Value) (A : Around) (outer : List Env) (s : Shared) (H : Hp) (vs : List V) (Q : VK) (E : XK) (p : Addr × Obj), Hot1 A p → RoomH k (A.deeper (envOfC qual (defScope st) s.heap.objs.size f cdv)) → sp vs H Q E →
      ∃ t, PSs (cxH CX0 P w K mg base N qual (defScope st) f cdv A outer s H E p) (defBody st) t ∧ t { nx := fun _ H' => Q .non H', rt := Q } (start N vs) H) : FnH P w K mg base CX0 (k + 1) f fd ps sp := by
  obtain ⟨_, _, _, _, _, _, cdv, _, _, e, look, code⟩ := F1.ex
  subst e
  exact fn_ofH look code S len fun A outer s H vs Q E p => body cdv A outer s H vs Q E p
end OwnHot

namespace M
open PySem PySem.Spec PyProof.Rows L2
def topS (i : Nat) : Stmt := PySem.Challenge.pw_mendedtree_k35_paths_and_places.main.body.getD i (.Pass ⟨0, 0, 0, 0⟩)
abbrev s_NoNode_init : Stmt := inClass (topS 7) 0
theorem sc_NoNode_init : FnScope ["self", "path"] ["self", "path"] (defScope s_NoNode_init) := ⟨rfl, rfl, rfl, by decide +kernel, rfl, by decide +kernel, by decide +kernel⟩
abbrev s_Node_init : Stmt := inClass (topS 17) 0
theorem sc_Node_init : FnScope ["self", "kind", "symbol", "state", "lead", "width", "look", "alternative", "nodes", "popped"] ["self", "kind", "symbol", "state", "lead", "width", "look", "alternative", "nodes", "popped"] (defScope s_Node_init) := ⟨rfl, rfl, rfl, by decide +kernel, rfl, by decide +kernel, by decide +kernel⟩
abbrev s_is_leaf : Stmt := topS 18
theorem sc_is_leaf : FnScope ["node"] ["node"] (defScope s_is_leaf) := ⟨rfl, rfl, rfl, by decide +kernel, rfl, by decide +kernel, by decide +kernel⟩
abbrev s_at_path : Stmt := topS 20
theorem sc_at_path : FnScope ["node", "path", "place", "index", "child"] ["node", "path", "place"] (defScope s_at_path) := ⟨rfl, rfl, rfl, by decide +kernel, rfl, by decide +kernel, by decide +kernel⟩
abbrev s_path_to : Stmt := topS 21
theorem sc_path_to : FnScope ["node", "place", "path", "index"] ["node", "place"] (defScope s_path_to) := ⟨rfl, rfl, rfl, by decide +kernel, rfl, by decide +kernel, by decide +kernel⟩
abbrev s_child_at : Stmt := topS 22
theorem sc_child_at : FnScope ["node", "offset", "index", "child"] ["node", "offset"] (defScope s_child_at) := ⟨rfl, rfl, rfl, by decide +kernel, rfl, by decide +kernel, by decide +kernel⟩
abbrev s_source : Stmt := topS 23
theorem sc_source : FnScope ["node", "place", "text"] ["node", "place", "text"] (defScope s_source) := ⟨rfl, rfl, rfl, by decide +kernel, rfl, by decide +kernel, by decide +kernel⟩
abbrev s_law_reel : Stmt := topS 25
theorem sc_law_reel : FnScope ["script", "reel", "k", "cell", "rest", "turn", "mixed"] ["script"] (defScope s_law_reel) := ⟨rfl, rfl, rfl, by decide +kernel, rfl, by decide +kernel, by decide +kernel⟩
abbrev s_law_draw : Stmt := topS 26
theorem sc_law_draw : FnScope ["reel", "size", "count", "at"] ["reel", "size"] (defScope s_law_draw) := ⟨rfl, rfl, rfl, by decide +kernel, rfl, by decide +kernel, by decide +kernel⟩
abbrev s_law_pick : Stmt := topS 27
theorem sc_law_pick : FnScope ["reel", "row"] ["reel", "row"] (defScope s_law_pick) := ⟨rfl, rfl, rfl, by decide +kernel, rfl, by decide +kernel, by decide +kernel⟩
abbrev s_law_word : Stmt := topS 28
theorem sc_law_word : FnScope ["reel", "letters", "least", "most", "k"] ["reel", "letters", "least", "most"] (defScope s_law_word) := ⟨rfl, rfl, rfl, by decide +kernel, rfl, by decide +kernel, by decide +kernel⟩
abbrev s_law_comb : Stmt := topS 29
theorem sc_law_comb : FnScope ["reel", "deep", "right", "levels", "k"] ["reel", "deep"] (defScope s_law_comb) := ⟨rfl, rfl, rfl, by decide +kernel, rfl, by decide +kernel, by decide +kernel⟩
abbrev s_law_levels : Stmt := topS 30
theorem sc_law_levels : FnScope ["reel", "levels", "size", "turn", "drop"] ["reel"] (defScope s_law_levels) := ⟨rfl, rfl, rfl, by decide +kernel, rfl, by decide +kernel, by decide +kernel⟩
abbrev s_law_shape : Stmt := topS 31
theorem sc_law_shape : FnScope ["reel", "rooted", "form", "levels", "level"] ["reel", "rooted"] (defScope s_law_shape) := ⟨rfl, rfl, rfl, by decide +kernel, rfl, by decide +kernel, by decide +kernel⟩
abbrev s_law_is_leaf : Stmt := topS 32
theorem sc_law_is_leaf : FnScope ["row"] ["row"] (defScope s_law_is_leaf) := ⟨rfl, rfl, rfl, by decide +kernel, rfl, by decide +kernel, by decide +kernel⟩
abbrev s_law_leaf_row : Stmt := topS 33
theorem sc_law_leaf_row : FnScope ["reel", "level", "skipped", "slim", "gap", "more", "name", "number"] ["reel", "level", "skipped", "slim"] (defScope s_law_leaf_row) := ⟨rfl, rfl, rfl, by decide +kernel, rfl, by decide +kernel, by decide +kernel⟩
abbrev s_law_flat : Stmt := topS 34
theorem sc_law_flat : FnScope ["levels", "at", "k"] ["levels", "at"] (defScope s_law_flat) := ⟨rfl, rfl, rfl, by decide +kernel, rfl, by decide +kernel, by decide +kernel⟩
abbrev s_law_bare_rows : Stmt := topS 35
theorem sc_law_bare_rows : FnScope ["reel", "levels", "rooted", "rows", "skipping", "k", "level", "bare", "skipped", "form", "name", "gap"] ["reel", "levels", "rooted"] (defScope s_law_bare_rows) := ⟨rfl, rfl, rfl, by decide +kernel, rfl, by decide +kernel, by decide +kernel⟩
abbrev s_law_proper : Stmt := topS 36
theorem sc_law_proper : FnScope ["rows", "fitted", "waiting", "k", "row", "size", "first", "count", "part"] ["rows"] (defScope s_law_proper) := ⟨rfl, rfl, rfl, by decide +kernel, rfl, by decide +kernel, by decide +kernel⟩
abbrev s_law_made : Stmt := topS 37
theorem sc_law_made : FnScope ["rows", "made", "waiting", "k", "row", "below"] ["rows"] (defScope s_law_made) := ⟨rfl, rfl, rfl, by decide +kernel, rfl, by decide +kernel, by decide +kernel⟩
abbrev s_law_kids : Stmt := topS 38
theorem sc_law_kids : FnScope ["rows", "kids", "row", "last", "k", "level"] ["rows"] (defScope s_law_kids) := ⟨rfl, rfl, rfl, by decide +kernel, rfl, by decide +kernel, by decide +kernel⟩
abbrev s_law_end : Stmt := topS 39
theorem sc_law_end : FnScope ["rows", "at", "end"] ["rows", "at"] (defScope s_law_end) := ⟨rfl, rfl, rfl, by decide +kernel, rfl, by decide +kernel, by decide +kernel⟩
abbrev s_law_places : Stmt := topS 40
theorem sc_law_places : FnScope ["rows", "start", "places", "place", "row"] ["rows", "start"] (defScope s_law_places) := ⟨rfl, rfl, rfl, by decide +kernel, rfl, by decide +kernel, by decide +kernel⟩
abbrev s_law_ups : Stmt := topS 41
theorem sc_law_ups : FnScope ["rows", "ups", "kids", "k", "index"] ["rows"] (defScope s_law_ups) := ⟨rfl, rfl, rfl, by decide +kernel, rfl, by decide +kernel, by decide +kernel⟩
abbrev s_law_path : Stmt := topS 42
theorem sc_law_path : FnScope ["ups", "at", "path", "here", "turn"] ["ups", "at"] (defScope s_law_path) := ⟨rfl, rfl, rfl, by decide +kernel, rfl, by decide +kernel, by decide +kernel⟩
abbrev s_law_found : Stmt := topS 43
theorem sc_law_found : FnScope ["told", "due"] ["told", "due"] (defScope s_law_found) := ⟨rfl, rfl, rfl, by decide +kernel, rfl, by decide +kernel, by decide +kernel⟩
abbrev s_law_is_path : Stmt := topS 44
theorem sc_law_is_path : FnScope ["told", "due", "index"] ["told", "due"] (defScope s_law_is_path) := ⟨rfl, rfl, rfl, by decide +kernel, rfl, by decide +kernel, by decide +kernel⟩
abbrev s_law_no_path : Stmt := topS 45
theorem sc_law_no_path : FnScope ["node", "path", "place", "e"] ["node", "path", "place"] (defScope s_law_no_path) := ⟨rfl, rfl, rfl, by decide +kernel, rfl, by decide +kernel, by decide +kernel⟩
abbrev s_law_no_leaf : Stmt := topS 46
theorem sc_law_no_leaf : FnScope ["node", "place", "e"] ["node", "place"] (defScope s_law_no_leaf) := ⟨rfl, rfl, rfl, by decide +kernel, rfl, by decide +kernel, by decide +kernel⟩
abbrev s_law_no_leaf_by_base : Stmt := topS 47
theorem sc_law_no_leaf_by_base : FnScope ["node", "place", "e"] ["node", "place"] (defScope s_law_no_leaf_by_base) := ⟨rfl, rfl, rfl, by decide +kernel, rfl, by decide +kernel, by decide +kernel⟩
abbrev s_law_nodes_found : Stmt := topS 48
theorem sc_law_nodes_found : FnScope ["rows", "made", "asked", "start", "reel", "places", "ups", "kids", "k", "path", "count", "index"] ["rows", "made", "asked", "start", "reel"] (defScope s_law_nodes_found) := ⟨rfl, rfl, rfl, by decide +kernel, rfl, by decide +kernel, by decide +kernel⟩
abbrev s_law_leaves_found : Stmt := topS 49
theorem sc_law_leaves_found : FnScope ["rows", "made", "asked", "at", "places", "ups", "skip", "end", "k", "path", "place", "step", "size"] ["rows", "made", "asked", "at"] (defScope s_law_leaves_found) := ⟨rfl, rfl, rfl, by decide +kernel, rfl, by decide +kernel, by decide +kernel⟩
abbrev s_law_sources : Stmt := topS 50
theorem sc_law_sources : FnScope ["rows", "made", "asked", "reel", "places", "signs", "shift", "text", "k", "told"] ["rows", "made", "asked", "reel"] (defScope s_law_sources) := ⟨rfl, rfl, rfl, by decide +kernel, rfl, by decide +kernel, by decide +kernel⟩
abbrev s_law_twice_found : Stmt := topS 51
theorem sc_law_twice_found : FnScope ["reel", "rows", "made", "start", "skip", "at", "part", "lifted", "row", "one", "two", "size", "others", "first", "second", "below", "top", "beside", "asked", "k"] ["reel", "rows", "made", "start", "skip"] (defScope s_law_twice_found) := ⟨rfl, rfl, rfl, by decide +kernel, rfl, by decide +kernel, by decide +kernel⟩
abbrev s_law : Stmt := topS 52
theorem sc_law : FnScope ["script", "reel", "rooted", "rows", "made", "start", "asked", "k", "turn", "below", "place"] ["script"] (defScope s_law) := ⟨rfl, rfl, rfl, by decide +kernel, rfl, by decide +kernel, by decide +kernel⟩
structure Txt (K : PySem.W.Frag) (mg : Str → Option Value) where
  a_NoNode_init : Addr
  fd_NoNode_init : FuncData
  F_NoNode_init : Fun K "__init__" "NoNode.__init__" s_NoNode_init a_NoNode_init fd_NoNode_init
  b_NoNode_init : Binds K fd_NoNode_init ["self", "path"] []
  a_Node_init : Addr
  fd_Node_init : FuncData
  F_Node_init : Fun K "__init__" "Node.__init__" s_Node_init a_Node_init fd_Node_init
  T0_Node : Addr
  t0_Node : ∃ (oc : Option Addr) (n : Nat) (sl : Array (Option Value)), K.lookup T0_Node = some ⟨.type "tuple", oc, .seq #[] n, sl⟩
  FD_Node_init : FunD K "__init__" "Node.__init__" (defArgs s_Node_init) (defBody s_Node_init) (defScope s_Node_init) [] [("alternative", V.int (-1)), ("nodes", V.ref T0_Node), ("popped", V.int (0))] a_Node_init fd_Node_init
  a_is_leaf : Addr
  fd_is_leaf : FuncData
  F_is_leaf : Fun K "is_leaf" "is_leaf" s_is_leaf a_is_leaf fd_is_leaf
  b_is_leaf : Binds K fd_is_leaf ["node"] []
  g_is_leaf : mg "is_leaf" = some (.ref a_is_leaf)
  a_at_path : Addr
  fd_at_path : FuncData
  FD_at_path : FunD K "at_path" "at_path" (defArgs s_at_path) (defBody s_at_path) (defScope s_at_path) [V.int (0)] [] a_at_path fd_at_path
  g_at_path : mg "at_path" = some (.ref a_at_path)
  a_path_to : Addr
  fd_path_to : FuncData
  F_path_to : Fun K "path_to" "path_to" s_path_to a_path_to fd_path_to
  b_path_to : Binds K fd_path_to ["node", "place"] []
  g_path_to : mg "path_to" = some (.ref a_path_to)
  a_child_at : Addr
  fd_child_at : FuncData
  F_child_at : Fun K "_child_at" "_child_at" s_child_at a_child_at fd_child_at
  b_child_at : Binds K fd_child_at ["node", "offset"] []
  g_child_at : mg "_child_at" = some (.ref a_child_at)
  a_source : Addr
  fd_source : FuncData
  F_source : Fun K "source" "source" s_source a_source fd_source
  b_source : Binds K fd_source ["node", "place", "text"] []
  g_source : mg "source" = some (.ref a_source)
  a_law_reel : Addr
  fd_law_reel : FuncData
  F_law_reel : Fun K "_law_reel" "_law_reel" s_law_reel a_law_reel fd_law_reel
  b_law_reel : Binds K fd_law_reel ["script"] []
  g_law_reel : mg "_law_reel" = some (.ref a_law_reel)
  a_law_draw : Addr
  fd_law_draw : FuncData
  F_law_draw : Fun K "_law_draw" "_law_draw" s_law_draw a_law_draw fd_law_draw
  b_law_draw : Binds K fd_law_draw ["reel", "size"] []
  g_law_draw : mg "_law_draw" = some (.ref a_law_draw)
  a_law_pick : Addr
  fd_law_pick : FuncData
  F_law_pick : Fun K "_law_pick" "_law_pick" s_law_pick a_law_pick fd_law_pick
  b_law_pick : Binds K fd_law_pick ["reel", "row"] []
  g_law_pick : mg "_law_pick" = some (.ref a_law_pick)
  a_law_word : Addr
  fd_law_word : FuncData
  F_law_word : Fun K "_law_word" "_law_word" s_law_word a_law_word fd_law_word
  b_law_word : Binds K fd_law_word ["reel", "letters", "least", "most"] []
  g_law_word : mg "_law_word" = some (.ref a_law_word)
  a_law_comb : Addr
  fd_law_comb : FuncData
  F_law_comb : Fun K "_law_comb" "_law_comb" s_law_comb a_law_comb fd_law_comb
  b_law_comb : Binds K fd_law_comb ["reel", "deep"] []
  g_law_comb : mg "_law_comb" = some (.ref a_law_comb)
  a_law_levels : Addr
  fd_law_levels : FuncData
  F_law_levels : Fun K "_law_levels" "_law_levels" s_law_levels a_law_levels fd_law_levels
  b_law_levels : Binds K fd_law_levels ["reel"] []
  g_law_levels : mg "_law_levels" = some (.ref a_law_levels)
  a_law_shape : Addr
  fd_law_shape : FuncData
  F_law_shape : Fun K "_law_shape" "_law_shape" s_law_shape a_law_shape fd_law_shape
  b_law_shape : Binds K fd_law_shape ["reel", "rooted"] []
  g_law_shape : mg "_law_shape" = some (.ref a_law_shape)
  a_law_is_leaf : Addr
  fd_law_is_leaf : FuncData
  F_law_is_leaf : Fun K "_law_is_leaf" "_law_is_leaf" s_law_is_leaf a_law_is_leaf fd_law_is_leaf
  b_law_is_leaf : Binds K fd_law_is_leaf ["row"] []
  g_law_is_leaf : mg "_law_is_leaf" = some (.ref a_law_is_leaf)
  a_law_leaf_row : Addr
  fd_law_leaf_row : FuncData
  F_law_leaf_row : Fun K "_law_leaf_row" "_law_leaf_row" s_law_leaf_row a_law_leaf_row fd_law_leaf_row
  b_law_leaf_row : Binds K fd_law_leaf_row ["reel", "level", "skipped", "slim"] []
  g_law_leaf_row : mg "_law_leaf_row" = some (.ref a_law_leaf_row)
  a_law_flat : Addr
  fd_law_flat : FuncData
  F_law_flat : Fun K "_law_flat" "_law_flat" s_law_flat a_law_flat fd_law_flat
  b_law_flat : Binds K fd_law_flat ["levels", "at"] []
  g_law_flat : mg "_law_flat" = some (.ref a_law_flat)
  a_law_bare_rows : Addr
  fd_law_bare_rows : FuncData
  F_law_bare_rows : Fun K "_law_bare_rows" "_law_bare_rows" s_law_bare_rows a_law_bare_rows fd_law_bare_rows
  b_law_bare_rows : Binds K fd_law_bare_rows ["reel", "levels", "rooted"] []
  g_law_bare_rows : mg "_law_bare_rows" = some (.ref a_law_bare_rows)
  a_law_proper : Addr
  fd_law_proper : FuncData
  F_law_proper : Fun K "_law_proper" "_law_proper" s_law_proper a_law_proper fd_law_proper
  b_law_proper : Binds K fd_law_proper ["rows"] []
  g_law_proper : mg "_law_proper" = some (.ref a_law_proper)
  a_law_made : Addr
  fd_law_made : FuncData
  F_law_made : Fun K "_law_made" "_law_made" s_law_made a_law_made fd_law_made
  b_law_made : Binds K fd_law_made ["rows"] []
  g_law_made : mg "_law_made" = some (.ref a_law_made)
  a_law_kids : Addr
  fd_law_kids : FuncData
  F_law_kids : Fun K "_law_kids" "_law_kids" s_law_kids a_law_kids fd_law_kids
  b_law_kids : Binds K fd_law_kids ["rows"] []
  g_law_kids : mg "_law_kids" = some (.ref a_law_kids)
  a_law_end : Addr
  fd_law_end : FuncData
  F_law_end : Fun K "_law_end" "_law_end" s_law_end a_law_end fd_law_end
  b_law_end : Binds K fd_law_end ["rows", "at"] []
  g_law_end : mg "_law_end" = some (.ref a_law_end)
  a_law_places : Addr
  fd_law_places : FuncData
  F_law_places : Fun K "_law_places" "_law_places" s_law_places a_law_places fd_law_places
  b_law_places : Binds K fd_law_places ["rows", "start"] []
  g_law_places : mg "_law_places" = some (.ref a_law_places)
  a_law_ups : Addr
  fd_law_ups : FuncData
  F_law_ups : Fun K "_law_ups" "_law_ups" s_law_ups a_law_ups fd_law_ups
  b_law_ups : Binds K fd_law_ups ["rows"] []
  g_law_ups : mg "_law_ups" = some (.ref a_law_ups)
  a_law_path : Addr
  fd_law_path : FuncData
  F_law_path : Fun K "_law_path" "_law_path" s_law_path a_law_path fd_law_path
  b_law_path : Binds K fd_law_path ["ups", "at"] []
  g_law_path : mg "_law_path" = some (.ref a_law_path)
  a_law_found : Addr
  fd_law_found : FuncData
  F_law_found : Fun K "_law_found" "_law_found" s_law_found a_law_found fd_law_found
  b_law_found : Binds K fd_law_found ["told", "due"] []
  g_law_found : mg "_law_found" = some (.ref a_law_found)
  a_law_is_path : Addr
  fd_law_is_path : FuncData
  F_law_is_path : Fun K "_law_is_path" "_law_is_path" s_law_is_path a_law_is_path fd_law_is_path
  b_law_is_path : Binds K fd_law_is_path ["told", "due"] []
  g_law_is_path : mg "_law_is_path" = some (.ref a_law_is_path)
  a_law_no_path : Addr
  fd_law_no_path : FuncData
  F_law_no_path : Fun K "_law_no_path" "_law_no_path" s_law_no_path a_law_no_path fd_law_no_path
  b_law_no_path : Binds K fd_law_no_path ["node", "path", "place"] []
  g_law_no_path : mg "_law_no_path" = some (.ref a_law_no_path)
  a_law_no_leaf : Addr
  fd_law_no_leaf : FuncData
  F_law_no_leaf : Fun K "_law_no_leaf" "_law_no_leaf" s_law_no_leaf a_law_no_leaf fd_law_no_leaf
  b_law_no_leaf : Binds K fd_law_no_leaf ["node", "place"] []
  g_law_no_leaf : mg "_law_no_leaf" = some (.ref a_law_no_leaf)
  a_law_no_leaf_by_base : Addr
  fd_law_no_leaf_by_base : FuncData
  F_law_no_leaf_by_base : Fun K "_law_no_leaf_by_base" "_law_no_leaf_by_base" s_law_no_leaf_by_base a_law_no_leaf_by_base fd_law_no_leaf_by_base
  b_law_no_leaf_by_base : Binds K fd_law_no_leaf_by_base ["node", "place"] []
  g_law_no_leaf_by_base : mg "_law_no_leaf_by_base" = some (.ref a_law_no_leaf_by_base)
  a_law_nodes_found : Addr
  fd_law_nodes_found : FuncData
  F_law_nodes_found : Fun K "_law_nodes_found" "_law_nodes_found" s_law_nodes_found a_law_nodes_found fd_law_nodes_found
  b_law_nodes_found : Binds K fd_law_nodes_found ["rows", "made", "asked", "start", "reel"] []
  g_law_nodes_found : mg "_law_nodes_found" = some (.ref a_law_nodes_found)
  a_law_leaves_found : Addr
  fd_law_leaves_found : FuncData
  F_law_leaves_found : Fun K "_law_leaves_found" "_law_leaves_found" s_law_leaves_found a_law_leaves_found fd_law_leaves_found
  b_law_leaves_found : Binds K fd_law_leaves_found ["rows", "made", "asked", "at"] []
  g_law_leaves_found : mg "_law_leaves_found" = some (.ref a_law_leaves_found)
  a_law_sources : Addr
  fd_law_sources : FuncData
  F_law_sources : Fun K "_law_sources" "_law_sources" s_law_sources a_law_sources fd_law_sources
  b_law_sources : Binds K fd_law_sources ["rows", "made", "asked", "reel"] []
  g_law_sources : mg "_law_sources" = some (.ref a_law_sources)
  a_law_twice_found : Addr
  fd_law_twice_found : FuncData
  F_law_twice_found : Fun K "_law_twice_found" "_law_twice_found" s_law_twice_found a_law_twice_found fd_law_twice_found
  b_law_twice_found : Binds K fd_law_twice_found ["reel", "rows", "made", "start", "skip"] []
  g_law_twice_found : mg "_law_twice_found" = some (.ref a_law_twice_found)
  a_law : Addr
  fd_law : FuncData
  F_law : Fun K "law" "law" s_law a_law fd_law
  b_law : Binds K fd_law ["script"] []
  g_law : mg "law" = some (.ref a_law)
  m_range : mg "range" = none
  m_min : mg "min" = none
  m_max : mg "max" = none
  m_len : mg "len" = none
  m_abs : mg "abs" = none
  m_int : mg "int" = none
  m_sum : mg "sum" = none
  m_isinstance : mg "isinstance" = none
  m_bool : mg "bool" = none
  m_list : mg "list" = none
  m_tuple : mg "tuple" = none
  m_str : mg "str" = none
  m_enumerate : mg "enumerate" = none
  m_ValueError : mg "ValueError" = none
  C_MendedError : Addr
  G_MendedError : mg "MendedError" = some (.ref C_MendedError)
  C_NoNode : Addr
  G_NoNode : mg "NoNode" = some (.ref C_NoNode)
  C_Node : Addr
  G_Node : mg "Node" = some (.ref C_Node)
  C_BadMark : Addr
  G_BadMark : mg "BadMark" = some (.ref C_BadMark)
  C_EditError : Addr
  G_EditError : mg "EditError" = some (.ref C_EditError)
  C_Entangled : Addr
  G_Entangled : mg "Entangled" = some (.ref C_Entangled)
  C_GrammarError : Addr
  G_GrammarError : mg "GrammarError" = some (.ref C_GrammarError)
  C_HistoryError : Addr
  G_HistoryError : mg "HistoryError" = some (.ref C_HistoryError)
  C_NoLayer : Addr
  G_NoLayer : mg "NoLayer" = some (.ref C_NoLayer)
  C_NoMark : Addr
  G_NoMark : mg "NoMark" = some (.ref C_NoMark)
  C_NoWitness : Addr
  G_NoWitness : mg "NoWitness" = some (.ref C_NoWitness)
  C_PatternError : Addr
  G_PatternError : mg "PatternError" = some (.ref C_PatternError)
  C_QueryError : Addr
  G_QueryError : mg "QueryError" = some (.ref C_QueryError)
  C_TableError : Addr
  G_TableError : mg "TableError" = some (.ref C_TableError)
  C_TreeError : Addr
  G_TreeError : mg "TreeError" = some (.ref C_TreeError)
  C_UnknownLanguage : Addr
  G_UnknownLanguage : mg "UnknownLanguage" = some (.ref C_UnknownLanguage)
  B_MendedError : BaseC K C_MendedError
  E_NoNode : ErrK K mg "NoNode" C_NoNode a_NoNode_init
  n_NoNode_path : PySem.W.findIn K (.ref C_NoNode) "path" = some none
  x_NoNode_MendedError : PySem.W.exmOne K (.ref C_NoNode) (.ref C_MendedError) = some true
  CL_Node : Cls K C_Node
  MK_Node : Mk K C_Node a_Node_init
  IC_Node : C8.InsC K C_Node
  NA_Node_kind : NoAttr K C_Node "kind"
  NA_Node_symbol : NoAttr K C_Node "symbol"
  NA_Node_state : NoAttr K C_Node "state"
  NA_Node_lead : NoAttr K C_Node "lead"
  NA_Node_width : NoAttr K C_Node "width"
  NA_Node_look : NoAttr K C_Node "look"
  NA_Node_alternative : NoAttr K C_Node "alternative"
  NA_Node_nodes : NoAttr K C_Node "nodes"
  NA_Node_popped : NoAttr K C_Node "popped"
  k_NoNode_MendedError : PySem.W.kitOne K (.ref C_NoNode) (.ref C_MendedError) = some true
  k_NoNode_ValueError : PySem.W.kitOne K (.ref C_NoNode) (.type "ValueError") = some true
  k_NoNode_NoNode : PySem.W.kitOne K (.ref C_NoNode) (.ref C_NoNode) = some true
  k_NoNode_BadMark : PySem.W.kitOne K (.ref C_NoNode) (.ref C_BadMark) = some false
  k_NoNode_EditError : PySem.W.kitOne K (.ref C_NoNode) (.ref C_EditError) = some false
  k_NoNode_Entangled : PySem.W.kitOne K (.ref C_NoNode) (.ref C_Entangled) = some false
  k_NoNode_GrammarError : PySem.W.kitOne K (.ref C_NoNode) (.ref C_GrammarError) = some false
  k_NoNode_HistoryError : PySem.W.kitOne K (.ref C_NoNode) (.ref C_HistoryError) = some false
  k_NoNode_NoLayer : PySem.W.kitOne K (.ref C_NoNode) (.ref C_NoLayer) = some false
  k_NoNode_NoMark : PySem.W.kitOne K (.ref C_NoNode) (.ref C_NoMark) = some false
  k_NoNode_NoWitness : PySem.W.kitOne K (.ref C_NoNode) (.ref C_NoWitness) = some false
  k_NoNode_PatternError : PySem.W.kitOne K (.ref C_NoNode) (.ref C_PatternError) = some false
  k_NoNode_QueryError : PySem.W.kitOne K (.ref C_NoNode) (.ref C_QueryError) = some false
  k_NoNode_TableError : PySem.W.kitOne K (.ref C_NoNode) (.ref C_TableError) = some false
  k_NoNode_TreeError : PySem.W.kitOne K (.ref C_NoNode) (.ref C_TreeError) = some false
  k_NoNode_UnknownLanguage : PySem.W.kitOne K (.ref C_NoNode) (.ref C_UnknownLanguage) = some false
/-! ### heaps: what a def leaves as it was -/
/-- all that was tracked but at r stands as it was -/
def But (r : Addr) (H H' : Hp) : Prop := ∀ b o, b ≠ r → H b = some o → H' b = some o
theorem But.refl (r : Addr) (H : Hp) : But r H H := fun _ _ _ h => h
theorem But.trans {r : Addr} {H H1 H2 : Hp} (a : But r H H1) (b : But r H1 H2) : But r H H2 := fun c o n h => b c o n (a c o n h)
theorem But.of {r : Addr} {H H' : Hp} (e : Same H H') : But r H H' := fun b o _ h => e b o h
theorem But.set {r : Addr} {H : Hp} {o : HO} : But r H (upd H r o) := fun b u n h => by rw [upd_ne n]; exact h
theorem But.new {r p : Addr} {H : Hp} {o : HO} (h : H p = none) : But r H (upd H p o) := fun b u _ e => by rw [upd_ne (ne_of_none e h)]; exact e
theorem same_upd {H : Hp} {p : Addr} {o : HO} (h : H p = none) : Same H (upd H p o) := fun b x e => by rw [upd_ne (ne_of_none e h)]; exact e
/-- the list that the drawing goes along: a place, then numbers -/
def ReelAt (H : Hp) (r : Addr) : Prop := ∃ (z : Int) (c : List Int), H r = some (.lst (.int z :: c.map V.int)) ∧ 1 ≤ c.length ∧ c.length ≤ 100000
theorem ReelAt.new {H : Hp} {r p : Addr} {o : HO} (h : ReelAt H r) (n : H p = none) : ReelAt (upd H p o) r := by
  obtain ⟨z, c, h1, h2⟩ := h
  exact ⟨z, c, by rw [upd_ne (ne_of_none h1 n)]; exact h1, h2⟩
theorem ReelAt.ne {H : Hp} {r p : Addr} (h : ReelAt H r) (n : H p = none) : r ≠ p := by
  obtain ⟨z, c, h1, h2⟩ := h
  exact ne_of_none h1 n
theorem atI_lt {xs : List V} {z : Int} (h0 : 0 ≤ z) (h : z.toNat < xs.length) : atI xs z = some (xs[z.toNat]'h) :=
  at_of (j := z.toNat) (by omega) (List.getElem?_eq_getElem h)
theorem at_of' {α : Type} {xs : List α} {z : Int} {c : α} (h0 : 0 ≤ z) (h : xs[z.toNat]? = some c) : atI xs z = some c := by
  have e : z = ((z.toNat : Nat) : Int) := by omega
  rw [e]
  exact atI_nat h
theorem fmod_range (a : Int) {n : Int} (h : 0 < n) : 0 ≤ a.fmod n ∧ a.fmod n < n := ⟨Int.fmod_nonneg_of_pos a h, Int.fmod_lt_of_pos a h⟩
theorem sz1 {n : Nat} (h : n ≤ 100000) : n ≤ sizeLine := Nat.le_trans h (by decide)
theorem sz2 {n : Nat} (h : n < 100000) : n < sizeLine := Nat.lt_of_lt_of_le h (by decide)
/-- a text's signs -/
abbrev cs (x : Str) : List Nat := x.cps.toList
theorem len_cs (x : Str) : x.length = (cs x).length := by
  show x.cps.size = x.cps.toList.length
  rw [Array.length_toList]
theorem cs_mk (l : List Nat) : cs ⟨l.toArray⟩ = l := rfl
theorem cs_inj {x y : Str} (h : cs x = cs y) : x = y := by
  cases x with
  | mk a =>
    cases y with
    | mk b =>
      have e : a = b := Array.toList_inj.mp h
      rw [e]
theorem cs_app (x y : Str) : cs (x ++ y) = cs x ++ cs y := by
  show (x.cps ++ y.cps).toList = _
  rw [Array.toList_append]
theorem cs_join {e : Str} (he : cs e = []) : ∀ ys : List Str, cs (Str.join e ys) = (ys.map cs).flatten
  | [] => rfl
  | [x] => by
    show cs x = ([x].map cs).flatten
    simp
  | x :: y :: r => by
    show cs (x ++ e ++ Str.join e (y :: r)) = _
    rw [cs_app, cs_app, he, List.append_nil, cs_join he (y :: r)]
    rfl
theorem cs_joinT {e : Str} (he : cs e = []) (ys : List Str) : cs (Txt.join e ys) = (ys.map cs).flatten := by rw [TL.join_eq]; exact cs_join he ys
/-- the text of one sign -/
abbrev sg (c : Nat) : Str := ⟨#[c]⟩
theorem sg_flat : ∀ l : List Nat, ((l.map sg).map cs).flatten = l
  | [] => rfl
  | c :: r => by
    show [c] ++ ((r.map sg).map cs).flatten = c :: r
    rw [sg_flat r]
    rfl
theorem sg_lens : ∀ l : List Nat, ((l.map sg).map (·.length)).sum = l.length
  | [] => rfl
  | c :: r => by
    show 1 + ((r.map sg).map (·.length)).sum = r.length + 1
    rw [sg_lens r]
    omega
theorem join_sg {e : Str} (he : cs e = []) (l : List Nat) : Txt.join e (l.map sg) = ⟨l.toArray⟩ := cs_inj (by rw [cs_joinT he, sg_flat])
theorem But.seq {r : Addr} {K : PySem.W.Frag} {H H' : Hp} {a : Addr} {xs : List V} (e : But r H H') (n : a ≠ r) (h : SqL K H a xs) : SqL K H' a xs := by
  rcases h with (h | ⟨o, h⟩) | h
  · exact .inl (.inl (e _ _ n h))
  · exact .inl (.inr ⟨o, e _ _ n h⟩)
  · exact .inr h
theorem But.free {r : Addr} {H H' : Hp} (e : But r H H') {l : Addr} (n : l ≠ r) (h : H' l = none) : H l = none := by
  cases q : H l with
  | none => rfl
  | some o =>
    rw [e l o n q] at h
    cases h
/-- a text whose signs are signs -/
def TOk (x : Str) : Prop := ∀ c ∈ cs x, c < 1114112
def tokB (x : Str) : Bool := x.cps.toList.all fun c => decide (c < 1114112)
theorem tok_of {x : Str} (h : tokB x = true) : TOk x := fun c hc => of_decide_eq_true (List.all_eq_true.mp h c hc)

section
variable {P : Program} {w : World} {K : PySem.W.Frag} {mg : Str → Option Value} {base : Heap}
theorem ix_tupK {X : Cx} {K : PySem.W.Frag} (h : X.K = K) : IxR X (rIxT K) := by
  subst h
  exact ix_tup
theorem ix_listK {X : Cx} {K : PySem.W.Frag} (h : X.K = K) : IxR X (rIxL K) := by
  subst h
  exact ix_list
theorem call_len_seqK {X : Cx} {K : PySem.W.Frag} (h : X.K = K) : CallR X (.builtin "len") (fun xs H Q => ∃ p ys, xs = [V.ref p] ∧ (SqL K H p ys ∨ SqT K H p ys) ∧ Q (.int (ys.length : Int)) H) := by
  subst h
  exact call_len_seq

/-! ### keyword-only defaults -/
theorem kwd_all3 {K : PySem.W.Frag} {D : Addr} {a b c : Str × V} (ha : ∃ u, PySem.W.nsIn K D a.1 = some (some u) ∧ RelV a.2 u) (hb : ∃ u, PySem.W.nsIn K D b.1 = some (some u) ∧ RelV b.2 u) (hc : ∃ u, PySem.W.nsIn K D c.1 = some (some u) ∧ RelV c.2 u) :
    ∀ q ∈ [a, b, c], ∃ u, PySem.W.nsIn K D q.1 = some (some u) ∧ RelV q.2 u := fun q hq => by
  rcases List.mem_cons.mp hq with rfl | hq
  · exact ha
  · rcases List.mem_cons.mp hq with rfl | hq
    · exact hb
    · rw [List.mem_singleton.mp hq]
      exact hc

/-! ### Node(.., k = v, ..) -/
abbrev psN : List Str := ["self", "kind", "symbol", "state", "lead", "width", "look", "alternative", "nodes", "popped"]
theorem kb_Node4 (T : Txt K mg) : ∃ mv, KBn K T.fd_Node_init psN 3 ["state", "lead", "width", "look"] (fun us ws => us ++ ws ++ mv) (fun vs zs => vs ++ zs ++ [.int (-1), .ref T.T0_Node, .int 0]) :=
  T.FD_Node_init.kbinds0 3 ["state", "lead", "width", "look"] [("alternative", .int (-1)), ("nodes", .ref T.T0_Node), ("popped", .int 0)] (fun a b c => a ++ c ++ b) (List.cons_ne_nil _ _) (fun _ h => h) (fun r1 r2 r3 => (r1.append r3).append r2) fun D doc pm an cdv ct us mv ws l1 l2 l3 => by
    match us, l1, mv, l2, ws, l3 with
    | [u1, u2, u3], _, [m1, m2, m3], _, [w1, w2, w3, w4], _ => exact ⟨_, _, _, _, _, _, rfl, rfl, _, _, _, _, _, _, rfl, rfl, _, _, _, _, _, _, rfl, rfl, rfl⟩
theorem kb_Node6 (T : Txt K mg) : ∃ mv, KBn K T.fd_Node_init psN 3 ["state", "lead", "width", "look", "alternative", "nodes"] (fun us ws => us ++ ws ++ mv) (fun vs zs => vs ++ zs ++ [.int 0]) :=
  T.FD_Node_init.kbinds0 3 ["state", "lead", "width", "look", "alternative", "nodes"] [("popped", .int 0)] (fun a b c => a ++ c ++ b) (List.cons_ne_nil _ _) (fun _ h => by rw [List.mem_singleton.mp h]; exact List.mem_cons_of_mem _ (List.mem_cons_of_mem _ List.mem_cons_self)) (fun r1 r2 r3 => (r1.append r3).append r2) fun D doc pm an cdv ct us mv ws l1 l2 l3 => by
    match us, l1, mv, l2, ws, l3 with
    | [u1, u2, u3], _, [m1], _, [w1, w2, w3, w4, w5, w6], _ => exact ⟨_, _, _, _, _, _, rfl, rfl, rfl⟩
theorem kb_Node7 (T : Txt K mg) : ∃ mv, KBn K T.fd_Node_init psN 3 ["state", "lead", "width", "look", "alternative", "nodes", "popped"] (fun us ws => us ++ ws ++ mv) (fun vs zs => vs ++ zs ++ []) :=
  T.FD_Node_init.kbinds0 3 ["state", "lead", "width", "look", "alternative", "nodes", "popped"] [] (fun a b c => a ++ c ++ b) (List.cons_ne_nil _ _) (fun _ h => absurd h List.not_mem_nil) (fun r1 r2 r3 => (r1.append r3).append r2) fun D doc pm an cdv ct us mv ws l1 l2 l3 => by
    match us, l1, mv, l2, ws, l3 with
    | [u1, u2, u3], _, [], _, [w1, w2, w3, w4, w5, w6, w7], _ => exact rfl

/-! ### the reel -/
def spReel (K : PySem.W.Frag) : Sp := fun vs H Q _ => ∃ (a : Addr) (ns : List Int), vs = [.ref a] ∧ SqL K H a (ns.map V.int) ∧
  ∀ H' p, Same H H' → H p = none → ReelAt H' p → Q (.ref p) H'
def spDraw : Sp := fun vs H Q _ => ∃ (r : Addr) (n : Int), vs = [.ref r, .int n] ∧ ReelAt H r ∧ 0 < n ∧
  ∀ (v : Int) H', 0 ≤ v → v < n → But r H H' → ReelAt H' r → Q (.int v) H'
theorem ok_draw (T : Txt K mg) : FnOk P w K mg base CX0 1 T.a_law_draw T.fd_law_draw ["reel", "size"] spDraw := by
  refine T.F_law_draw.ok sc_law_draw (fun vs H Q E h => ?_) (fun cdv A outer s H vs Q E hr h => ?_)
  · obtain ⟨r, n, rfl, _⟩ := h
    rfl
  · obtain ⟨r, n, rfl, ⟨z, c, hr0, hc, hc2⟩, hn, q⟩ := h
    refine ⟨_, (pss_cons (ps_set (i := 2) sc_law_draw.nd rfl (.inl rfl) (pe_op op_sub (pe_callB call_len_seq (by rfl) T.m_len PySem.boot_len (pa_cons (pv 0) pa_nil)) pe_int))
      (pss_cons (ps_set (i := 3) sc_law_draw.nd rfl (.inl rfl) (pe_ix ix_list (pv 0) pe_int (fun _ _ => rfl)))
      (pss_cons (ps_asg (pe_op op_add (pv 3) pe_int) (pg_sub (pv 0) pe_int set_list))
      (pss_one (ps_ret (pe_op op_modN (pe_callTy call_int1 (by rfl) T.m_int (by decide +kernel) (pa_cons (pe_op op_add (pe_ix ix_list (pv 0) (pe_op op_add pe_int (pe_op op_modN (pe_callTy call_int1 (by rfl) T.m_int (by decide +kernel) (pa_cons (pv 3) pa_nil)) (pv 2))) (fun _ _ => rfl)) (pe_op op_mul (pe_op op_fdivN (pv 3) (pv 2)) pe_int)) pa_nil)) (pv 1))))))), ?_⟩
    have hl : (V.int z :: c.map V.int).length = c.length + 1 := by rw [List.length_cons, List.length_map]
    -- count = len(reel) - 1
    refine ⟨.ref r, rfl, r, _, rfl, .inl (SqL.of hr0), _, _, rfl, rfl, ?_⟩
    -- at = reel[0]
    refine ⟨.ref r, rfl, r, _, 0, .int z, rfl, rfl, SqL.of hr0, atI_nat (j := 0) rfl, ?_⟩
    -- reel[0] = at + 1
    refine ⟨_, rfl, z, 1, rfl, rfl, .ref r, rfl, r, _, 0, 0, rfl, rfl, hr0, by rw [hl]; unfold ixN; rw [if_pos (by omega), if_pos (by omega)]; rfl, ?_⟩
    have e1 : (V.int z :: c.map V.int).set 0 (.int (z + 1)) = .int (z + 1) :: c.map V.int := rfl
    rw [e1]
    have hc0 : (0 : Int) < ((V.int z :: c.map V.int).length : Int) - 1 := by rw [hl]; omega
    have fm := fmod_range z hc0
    have hat : 0 ≤ 1 + z.fmod (((V.int z :: c.map V.int).length : Int) - 1) := by omega
    have hat2 : (1 + z.fmod (((V.int z :: c.map V.int).length : Int) - 1)).toNat < (V.int (z + 1) :: c.map V.int).length := by
      have e2 : (V.int (z + 1) :: c.map V.int).length = c.length + 1 := by rw [List.length_cons, List.length_map]
      rw [hl] at fm ⊢
      rw [e2]
      omega
    obtain ⟨y, hy⟩ : ∃ y, atI (V.int (z + 1) :: c.map V.int) (1 + z.fmod (((V.int z :: c.map V.int).length : Int) - 1)) = some (.int y) := by
      have e := atI_lt hat hat2
      have e2 : (V.int (z + 1) :: c.map V.int) = ((z + 1) :: c).map V.int := rfl
      refine ⟨((z + 1) :: c)[(1 + z.fmod (((V.int z :: c.map V.int).length : Int) - 1)).toNat]'(by rw [e2, List.length_map] at hat2; exact hat2), ?_⟩
      rw [e]
      congr 1
      simp only [e2, List.getElem_map]
    -- return int(reel[1 + int(at) % count] + at // count * 389) % size
    refine ⟨.ref r, rfl, _, rfl, .inl ⟨z, rfl, ?_⟩⟩
    refine ⟨_, rfl, z, _, rfl, rfl, by omega, 1, _, rfl, rfl, r, _, _, .int y, rfl, rfl, SqL.of upd_same, hy, ?_⟩
    refine ⟨_, rfl, _, rfl, z, _, rfl, rfl, ⟨by omega, by rw [hl]; omega⟩, _, 389, rfl, rfl, .inr ⟨by decide, by decide⟩, _, _, rfl, rfl, .inl ⟨_, rfl, ?_⟩⟩
    refine ⟨_, rfl, _, n, rfl, rfl, by omega, ?_⟩
    exact q _ _ (fmod_range _ hn).1 (fmod_range _ hn).2 But.set ⟨z + 1, c, upd_same, hc, hc2⟩
/-- the words in which a turn of the reel's making is told -/
def Making (a o : Addr) (H : Hp) (n : Nat) (σ : L2.St) (H' : Hp) : Prop := ∃ y2 y3 y4 y5 y6, σ = [some (.ref a), some (.ref o), y2, y3, y4, y5, y6] ∧ Same H H' ∧ ∃ c : List Int, H' o = some (.lst (.int 0 :: c.map V.int)) ∧ c.length ≤ n
theorem ints_snoc (c : List Int) (x : Int) : (V.int 0 :: c.map V.int) ++ [V.int x] = .int 0 :: (c ++ [x]).map V.int := by
  rw [List.map_append]
  rfl
theorem same_mut {H H' : Hp} {p : Addr} {o : HO} (e : Same H H') (h : H p = none) : Same H (upd H' p o) := fun b x q => by
  rw [upd_ne (ne_of_none q h)]
  exact e b x q
theorem ok_reel (T : Txt K mg) : FnOk P w K mg base CX0 1 T.a_law_reel T.fd_law_reel ["script"] (spReel K) := by
  refine T.F_law_reel.ok sc_law_reel (fun vs H Q E h => ?_) (fun cdv A outer s H vs Q E hr h => ?_)
  · obtain ⟨a, ns, rfl, _⟩ := h
    rfl
  · obtain ⟨a, ns, rfl, hS, q⟩ := h
    refine ⟨_, (pss_cons (ps_set (i := 1) sc_law_reel.nd rfl (.inl rfl) (pe_lst (pa_cons pe_int pa_nil)))
      (pss_cons (ps_for PassesOwn.never rfl (pi_range1 (by rfl) T.m_range (pa_cons (pe_callB (call_min2 rfl) (by rfl) T.m_min (by decide +kernel) (pa_cons (pe_callB call_len_seq (by rfl) T.m_len PySem.boot_len (pa_cons (pv 0) pa_nil)) (pa_cons pe_int pa_nil))) pa_nil)) (pg_name (i := 2) sc_law_reel.nd rfl (.inl rfl)) (pss_cons (ps_set (i := 3) sc_law_reel.nd rfl (.inl rfl) (pe_ix ix_list (pv 0) (pv 2) (fun _ _ => rfl)))
      (pss_one (ps_if (pt_cmpR op_ge (pe_callB call_abs (by rfl) T.m_abs (by decide +kernel) (pa_cons (pv 3) pa_nil)) (pe_op op_pow pe_int pe_int) (nomark _)) (pss_cons (ps_set (i := 4) sc_law_reel.nd rfl (.inl rfl) (pe_callB call_abs (by rfl) T.m_abs (by decide +kernel) (pa_cons (pv 3) pa_nil)))
      (pss_one (ps_for PassesOwn.never rfl (pi_range1 (by rfl) T.m_range (pa_cons pe_int pa_nil)) (pg_name (i := 5) sc_law_reel.nd rfl (.inl rfl)) (pss_one (ps_if (pt_cmpR op_gt (pv 4) pe_int (nomark _)) (pss_cons (ps_expr (pe_bm PySem.F.plainAttrs_list PySem.F.slot_list_append PySem.F.type_list_append mt_append (pv 1) (pa_cons (pe_op op_mod (pe_callTy call_int1 (by rfl) T.m_int (by decide +kernel) (pa_cons (pv 4) pa_nil)) pe_int) pa_nil)))
      (pss_one (ps_set (i := 4) sc_law_reel.nd rfl (.inl rfl) (pe_op op_fdiv (pv 4) pe_int)))) pss_nil))))) (pss_cons (ps_set (i := 6) sc_law_reel.nd rfl (.inl rfl) (pe_op op_mod (pe_callTy call_int1 (by rfl) T.m_int (by decide +kernel) (pa_cons (pe_op op_add (pe_op op_add (pe_op op_mul (pv 3) pe_int) (pe_op op_mul (pv 2) pe_int)) pe_int) pa_nil)) pe_int))
      (pss_one (ps_for PassesOwn.never rfl (pi_range1 (by rfl) T.m_range (pa_cons pe_int pa_nil)) (pg_name (i := 5) sc_law_reel.nd rfl (.inl rfl)) (pss_cons (ps_set (i := 6) sc_law_reel.nd rfl (.inl rfl) (pe_op op_mod (pe_callTy call_int1 (by rfl) T.m_int (by decide +kernel) (pa_cons (pe_op op_add (pe_op op_add (pe_op op_mul (pv 6) pe_int) (pe_op op_mul (pv 5) pe_int)) pe_int) pa_nil)) pe_int))
      (pss_one (ps_expr (pe_bm PySem.F.plainAttrs_list PySem.F.slot_list_append PySem.F.type_list_append mt_append (pv 1) (pa_cons (pe_op op_mod (pe_callTy call_int1 (by rfl) T.m_int (by decide +kernel) (pa_cons (pe_op op_fdiv (pv 6) pe_int) pa_nil)) pe_int) pa_nil))))))))))))
      (pss_cons (ps_set (i := 6) sc_law_reel.nd rfl (.inl rfl) (pe_op op_mod (pe_callTy call_int1 (by rfl) T.m_int (by decide +kernel) (pa_cons (pe_op op_add (pe_op op_add (pe_op op_mul (pe_callB (cr_sum rfl) (by rfl) T.m_sum (by decide +kernel) (pa_cons (pv 1) pa_nil)) pe_int) (pe_op op_mul (pe_callB call_len_seq (by rfl) T.m_len PySem.boot_len (pa_cons (pv 1) pa_nil)) pe_int)) pe_int) pa_nil)) pe_int))
      (pss_cons (ps_for PassesOwn.never rfl (pi_range1 (by rfl) T.m_range (pa_cons pe_int pa_nil)) (pg_name (i := 5) sc_law_reel.nd rfl (.inl rfl)) (pss_cons (ps_set (i := 6) sc_law_reel.nd rfl (.inl rfl) (pe_op op_mod (pe_callTy call_int1 (by rfl) T.m_int (by decide +kernel) (pa_cons (pe_op op_add (pe_op op_add (pe_op op_mul (pv 6) pe_int) (pe_op op_mul (pv 5) pe_int)) pe_int) pa_nil)) pe_int))
      (pss_one (ps_expr (pe_bm PySem.F.plainAttrs_list PySem.F.slot_list_append PySem.F.type_list_append mt_append (pv 1) (pa_cons (pe_op op_mod (pe_callTy call_int1 (by rfl) T.m_int (by decide +kernel) (pa_cons (pe_op op_fdiv (pv 6) pe_int) pa_nil)) pe_int) pa_nil))))))
      (pss_one (ps_ret (pv 1))))))), ?_⟩
    -- reel = [0]
    refine ⟨by show 1 ≤ sizeLine; decide, fun o no => ?_⟩
    have s1 : Same H (upd H o (.lst [.int 0])) := same_upd no
    -- for k in range(min(len(script), 63))
    refine ⟨.ref a, rfl, a, _, rfl, .inl (s1.seq hS), _, _, rfl, _, rfl, by split <;> omega, by split <;> omega, ?_⟩
    refine for_range (lo := 0) (fun i σ H' => Making a o H (60 * i) σ H' ∧ i ≤ 63) ⟨⟨none, none, none, none, none, rfl, s1, [], upd_same, Nat.zero_le _⟩, Nat.zero_le _⟩ ?_ ?_
    · rintro i σ H3 hi ⟨⟨y2, y3, y4, y5, y6, rfl, s3, c, ho, hc⟩, hi63⟩
      have hi' : i < ns.length ∧ i < 63 := by
        rw [List.length_map] at hi
        split at hi <;> omega
      obtain ⟨x, hx⟩ : ∃ x, ns[i]? = some x := ⟨_, List.getElem?_eq_getElem hi'.1⟩
      -- cell = script[k]
      refine ⟨.ref a, rfl, _, rfl, a, _, _, .int x, rfl, rfl, s3.seq hS, at_of (j := i) (by omega) (by rw [List.getElem?_map, hx]; rfl), ?_⟩
      -- if abs(cell) >= 10 ** 18
      refine ⟨_, rfl, x, rfl, 10, 18, rfl, rfl, ⟨by decide, by decide, by decide⟩, _, _, rfl, rfl, _, rfl, ite2 (fun e => ?_) (fun e => ?_)⟩
      · -- rest = abs(cell); for turn in range(60)
        refine ⟨_, rfl, x, rfl, 60, rfl, by decide, by decide, ?_⟩
        refine for_range (lo := 0) (n := 60) (fun j σ H' => (∃ z : Int, σ[4]? = some (some (.int z))) ∧ Making a o H (60 * i + j) σ H') ⟨⟨_, rfl⟩, _, _, _, _, _, rfl, s3, c, ho, hc⟩ ?_ ?_
        · rintro j σ H4 hj ⟨⟨z, hz⟩, y2, y3, y4, y5, y6, rfl, s4, c, ho, hc⟩
          have hz' : y4 = some (.int z) := Option.some.inj hz
          subst hz'
          refine ⟨_, rfl, z, 0, rfl, rfl, _, rfl, ite2 (fun e => ?_) (fun e => ?_)⟩
          · refine ⟨.ref o, rfl, .inl ⟨rfl, _, SqL.of ho⟩, _, rfl, .inl ⟨z, rfl, z, 1009, rfl, rfl, (by show (0 : Int) < 1009; decide), o, _, _, rfl, rfl, ho, ?_, ?_⟩⟩
            · rw [List.length_cons, List.length_map]
              exact sz2 (by omega)
            · refine ⟨_, rfl, z, 1009, rfl, rfl, ⟨by decide, by decide⟩, ⟨_, rfl⟩, _, _, _, _, _, rfl, same_mut s4 no, c ++ [z % 1009], ?_, ?_⟩
              · rw [upd_same, ints_snoc]
              · rw [List.length_append]
                show c.length + 1 ≤ _
                omega
          · exact ⟨⟨z, rfl⟩, _, _, _, _, _, rfl, s4, c, ho, by omega⟩
        · rintro σ H4 ⟨_, y2, y3, y4, y5, y6, rfl, s4, c, ho, hc⟩
          exact ⟨⟨_, _, _, _, _, rfl, s4, c, ho, by omega⟩, by omega⟩
      · -- mixed = ..; for turn in range(4)
        refine ⟨_, rfl, x, 48271, rfl, rfl, .inr ⟨by decide, by decide⟩, _, rfl, _, 69621, rfl, rfl, .inr ⟨by decide, by decide⟩, _, _, rfl, rfl, _, 4099, rfl, rfl, .inl ⟨_, rfl, _, _, rfl, rfl, (by show (0 : Int) < 2147483647; decide), ?_⟩⟩
        refine ⟨4, rfl, by decide, by decide, ?_⟩
        refine for_range (lo := 0) (n := 4) (fun j σ H' => (∃ z : Int, σ[6]? = some (some (.int z))) ∧ Making a o H (60 * i + j) σ H') ⟨⟨_, rfl⟩, _, _, _, _, _, rfl, s3, c, ho, hc⟩ ?_ ?_
        · rintro j σ H4 hj ⟨⟨z, hz⟩, y2, y3, y4, y5, y6, rfl, s4, c, ho, hc⟩
          have hz' : y6 = some (.int z) := Option.some.inj hz
          subst hz'
          refine ⟨_, rfl, z, 16807, rfl, rfl, .inr ⟨by decide, by decide⟩, _, rfl, _, 7919, rfl, rfl, .inr ⟨by decide, by decide⟩, _, _, rfl, rfl, _, 101, rfl, rfl, .inl ⟨_, rfl, _, _, rfl, rfl, (by show (0 : Int) < 2147483629; decide), ?_⟩⟩
          refine ⟨.ref o, rfl, .inl ⟨rfl, _, SqL.of ho⟩, _, rfl, _, 2111, rfl, rfl, ⟨by decide, by decide⟩, .inl ⟨_, rfl, _, 1009, rfl, rfl, (by show (0 : Int) < 1009; decide), o, _, _, rfl, rfl, ho, ?_, ?_⟩⟩
          · rw [List.length_cons, List.length_map]
            exact sz2 (by omega)
          · refine ⟨⟨_, rfl⟩, _, _, _, _, _, rfl, same_mut s4 no, c ++ [((z * 16807 + (0 + (j : Int)) * 7919 + 101) % 2147483629 / 2111) % 1009], ?_, ?_⟩
            · rw [upd_same]
              exact congrArg (fun l => some (HO.lst l)) (ints_snoc c _)
            · rw [List.length_append]
              show c.length + 1 ≤ _
              omega
        · rintro σ H4 ⟨_, y2, y3, y4, y5, y6, rfl, s4, c, ho, hc⟩
          exact ⟨⟨_, _, _, _, _, rfl, s4, c, ho, by omega⟩, by omega⟩
    · rintro σ H3 ⟨⟨y2, y3, y4, y5, y6, rfl, s3, c, ho, hc⟩, hi63⟩
      have e0 : (V.int 0 :: c.map V.int) = ((0 : Int) :: c).map V.int := rfl
      have ho' : SqL K H3 o (((0 : Int) :: c).map V.int) := SqL.of ho
      refine ⟨.ref o, rfl, o, (0 : Int) :: c, rfl, ho', _, 69621, rfl, rfl, .inr ⟨by decide, by decide⟩, .ref o, rfl, o, _, rfl, .inl ho', _, 48271, rfl, rfl, .inr ⟨by decide, by decide⟩, _, _, rfl, rfl, _, 977, rfl, rfl, .inl ⟨_, rfl, _, _, rfl, rfl, (by show (0 : Int) < 2147483647; decide), ?_⟩⟩
      refine ⟨40, rfl, by decide, by decide, ?_⟩
      refine for_range (lo := 0) (n := 40) (fun j σ H' => (∃ z : Int, σ[6]? = some (some (.int z))) ∧ ∃ y2 y3 y4 y5 y6, σ = [some (.ref a), some (.ref o), y2, y3, y4, y5, y6] ∧ Same H H' ∧ ∃ c : List Int, H' o = some (.lst (.int 0 :: c.map V.int)) ∧ j ≤ c.length ∧ c.length ≤ 4000 + j) ⟨⟨_, rfl⟩, _, _, _, _, _, rfl, s3, c, ho, Nat.zero_le _, ?_⟩ ?_ ?_
      · have : (min' : Nat) → min' ≤ 63 → c.length ≤ 60 * min' → c.length ≤ 4000 + 0 := fun m h1 h2 => by omega
        exact this _ hi63 hc
      · rintro j σ H4 hj ⟨⟨z, hz⟩, y2, y3, y4, y5, y6, rfl, s4, c, ho, hc1, hc⟩
        have hz' : y6 = some (.int z) := Option.some.inj hz
        subst hz'
        refine ⟨_, rfl, z, 16807, rfl, rfl, .inr ⟨by decide, by decide⟩, _, rfl, _, 7919, rfl, rfl, .inr ⟨by decide, by decide⟩, _, _, rfl, rfl, _, 101, rfl, rfl, .inl ⟨_, rfl, _, _, rfl, rfl, (by show (0 : Int) < 2147483629; decide), ?_⟩⟩
        refine ⟨.ref o, rfl, .inl ⟨rfl, _, SqL.of ho⟩, _, rfl, _, 2111, rfl, rfl, ⟨by decide, by decide⟩, .inl ⟨_, rfl, _, 1009, rfl, rfl, (by show (0 : Int) < 1009; decide), o, _, _, rfl, rfl, ho, ?_, ?_⟩⟩
        · rw [List.length_cons, List.length_map]
          exact sz2 (by omega)
        · refine ⟨⟨_, rfl⟩, _, _, _, _, _, rfl, same_mut s4 no, c ++ [((z * 16807 + (0 + (j : Int)) * 7919 + 101) % 2147483629 / 2111) % 1009], ?_, ?_, ?_⟩
          · rw [upd_same]
            exact congrArg (fun l => some (HO.lst l)) (ints_snoc c _)
          · rw [List.length_append]
            show _ ≤ c.length + 1
            omega
          · rw [List.length_append]
            show c.length + 1 ≤ _
            omega
      · rintro σ H4 ⟨_, y2, y3, y4, y5, y6, rfl, s4, c, ho, hc1, hc⟩
        refine ⟨.ref o, rfl, q H4 o s4 no ⟨0, c, ho, by omega, by omega⟩⟩

/-! ### a drawn item, a drawn word -/
theorem But.seqT {r : Addr} {K : PySem.W.Frag} {H H' : Hp} {a : Addr} {xs : List V} (e : But r H H') (n : a ≠ r) (h : SqT K H a xs) : SqT K H' a xs := by
  rcases h with (h | ⟨o, h⟩) | h
  · exact .inl (.inl (e _ _ n h))
  · exact .inl (.inr ⟨o, e _ _ n h⟩)
  · exact .inr h
def spPick (K : PySem.W.Frag) : Sp := fun vs H Q _ => ∃ (r : Addr) (row : V), vs = [.ref r, row] ∧ ReelAt H r ∧
  ((∃ z, row = .str z ∧ 0 < (cs z).length ∧ (cs z).length ≤ 100000 ∧ ∀ c H', c ∈ cs z → But r H H' → ReelAt H' r → Q (.str (sg c)) H') ∨
   (∃ p xs, row = .ref p ∧ p ≠ r ∧ SqL K H p xs ∧ 0 < xs.length ∧ ∀ v H', v ∈ xs → But r H H' → ReelAt H' r → Q v H'))
theorem ok_pick (T : Txt K mg) : FnOk P w K mg base CX0 2 T.a_law_pick T.fd_law_pick ["reel", "row"] (spPick K) := by
  have G_law_draw : FnOk P w K mg base CX0 1 T.a_law_draw T.fd_law_draw ["reel", "size"] spDraw := ok_draw T
  refine T.F_law_pick.ok sc_law_pick (fun vs H Q E h => ?_) (fun cdv A outer s H vs Q E hr h => ?_)
  · obtain ⟨r, n, rfl, _⟩ := h
    rfl
  · have hr_law_draw : Room 1 _ := hr
    obtain ⟨r, row, rfl, hr0, ⟨z, rfl, hz, hz2, q⟩ | ⟨p, xs, rfl, hp, hS, hx, q⟩⟩ := h
    · refine ⟨_, (pss_one (ps_ret (pe_ix ix_seq (pv 1) (pe_call G_law_draw hr_law_draw (by rfl) T.g_law_draw T.F_law_draw.kp T.b_law_draw .nil pass0 (pa_cons (pv 0) (pa_cons (pe_callB call_len (by rfl) T.m_len PySem.boot_len (pa_cons (pv 1) pa_nil)) pa_nil))) (fun _ _ => rfl)))), ?_⟩
      have hl := len_cs z
      refine ⟨_, rfl, _, rfl, _, rfl, _, z.length, rfl, ⟨sz1 (by omega), rfl⟩, r, _, rfl, hr0, by omega, fun v H' h0 h1 hb hR => ?_⟩
      have hv : v.toNat < (cs z).length := by omega
      exact .inr (.inr ⟨z, v, (cs z)[v.toNat], rfl, rfl, sz1 (by omega), at_of' h0 (List.getElem?_eq_getElem hv), q _ _ (List.getElem_mem hv) hb hR⟩)
    · refine ⟨_, (pss_one (ps_ret (pe_ix ix_seq (pv 1) (pe_call G_law_draw hr_law_draw (by rfl) T.g_law_draw T.F_law_draw.kp T.b_law_draw .nil pass0 (pa_cons (pv 0) (pa_cons (pe_callB call_len (by rfl) T.m_len PySem.boot_len (pa_cons (pv 1) pa_nil)) pa_nil))) (fun _ _ => rfl)))), ?_⟩
      refine ⟨_, rfl, _, rfl, _, rfl, _, xs.length, rfl, .inl ⟨xs, hS, rfl⟩, r, _, rfl, hr0, by omega, fun v H' h0 h1 hb hR => ?_⟩
      have hv : v.toNat < xs.length := by omega
      exact .inl ⟨p, xs, v, xs[v.toNat], rfl, rfl, hb.seq hp hS, at_of (j := v.toNat) (by omega) (List.getElem?_eq_getElem hv), q _ _ (List.getElem_mem hv) hb hR⟩
def spWord : Sp := fun vs H Q _ => ∃ (r : Addr) (z : Str) (a b : Int), vs = [.ref r, .str z, .int a, .int b] ∧ ReelAt H r ∧ 0 < (cs z).length ∧ (cs z).length ≤ 100000 ∧ 0 ≤ a ∧ a ≤ b ∧ b ≤ 50000 ∧
  ∀ (x : Str) H', a ≤ ((cs x).length : Int) → ((cs x).length : Int) ≤ b → (∀ c ∈ cs x, c ∈ cs z) → But r H H' → ReelAt H' r → Q (.str x) H'
theorem map_snoc (l : List Nat) (c : Nat) : ((l.map sg).map V.str) ++ [V.str (sg c)] = ((l ++ [c]).map sg).map V.str := by
  rw [List.map_append, List.map_append]
  rfl
theorem ok_word (T : Txt K mg) : FnOk P w K mg base CX0 3 T.a_law_word T.fd_law_word ["reel", "letters", "least", "most"] spWord := by
  have G_law_draw : FnOk P w K mg base CX0 1 T.a_law_draw T.fd_law_draw ["reel", "size"] spDraw := ok_draw T
  have G_law_pick : FnOk P w K mg base CX0 2 T.a_law_pick T.fd_law_pick ["reel", "row"] (spPick K) := ok_pick T
  refine T.F_law_word.ok sc_law_word (fun vs H Q E h => ?_) (fun cdv A outer s H vs Q E hr h => ?_)
  · obtain ⟨r, z, a, b, rfl, _⟩ := h
    rfl
  · have hr_law_draw : Room 1 _ := hr.mono (by decide)
    have hr_law_pick : Room 2 _ := hr
    obtain ⟨r, z, a, b, rfl, hr0, hz, hz2, h0, h1, h2, q⟩ := h
    refine ⟨_, (pss_one (ps_ret (pe_join pe_str (pe_lc (own := [("k", 4)]) (g := gName 4) (by rfl) sc_law_word.nd (pi_range1 (by rfl) T.m_range (pa_cons (pe_op op_add (pv 2) (pe_call G_law_draw hr_law_draw (by rfl) T.g_law_draw T.F_law_draw.kp T.b_law_draw .nil pass0 (pa_cons (pv 0) (pa_cons (pe_op op_add (pe_op op_sub (pv 3) (pv 2)) pe_int) pa_nil)))) pa_nil)) (blkOk_by (own := [("k", 4)]) (N := ["reel", "letters", "least", "most", "k"]) (sc := defScope s_law_word) (by decide +kernel)) (fun _ _ _ _ _ => pg_name (i := 4) sc_law_word.nd rfl (Or.inl rfl)) (fun _ _ _ _ _ => pts_nil) (fun _ _ _ _ _ => (pe_call G_law_pick hr_law_pick (by rfl) T.g_law_pick T.F_law_pick.kp T.b_law_pick .nil pass0 (pa_cons (pv 0) (pa_cons (pv 1) pa_nil)))))))), ?_⟩
    refine ⟨⟨_, rfl⟩, _, rfl, _, rfl, _, rfl, _, rfl, _, _, rfl, rfl, _, 1, rfl, rfl, r, _, rfl, hr0, by omega, fun v H1 v0 v1 hb1 hR1 => ?_⟩
    refine ⟨_, _, rfl, rfl, _, rfl, by omega, by omega, fun D nD => ?_⟩
    refine lc_range (lo := 0) (n := (a + v).toNat) (fun i H' => ∃ l : List Nat, H' D = some (.lst ((l.map sg).map V.str)) ∧ l.length = i ∧ (∀ c ∈ l, c ∈ cs z) ∧ But r H1 H' ∧ ReelAt H' r)
      ⟨[], upd_same, rfl, (fun c hc => absurd hc List.not_mem_nil), But.new nD, hR1.new nD⟩ ?_ ?_
    · rintro i H' hi ⟨l, hD, hl, hm, hb, hR⟩
      refine ⟨rfl, _, rfl, _, rfl, r, _, rfl, hR, .inl ⟨z, rfl, hz, hz2, fun c H2 hc hb2 hR2 => ?_⟩⟩
      have hDr : D ≠ r := (hR1.ne nD).symm
      have hD2 := hb2 D _ hDr hD
      refine ⟨_, hD2, sz2 (by rw [List.length_map, List.length_map]; omega), l ++ [c], ?_, ?_, ?_, ?_, ?_⟩
      · rw [upd_same, map_snoc]
      · rw [List.length_append, hl]
        rfl
      · intro x hx
        rcases List.mem_append.mp hx with hx | hx
        · exact hm x hx
        · rw [List.mem_singleton.mp hx]
          exact hc
      · exact fun b o n e => by
          rw [upd_ne (ne_of_none e nD)]
          exact hb2 b o n (hb b o n e)
      · obtain ⟨z1, c1, e1, e2⟩ := hR2
        exact ⟨z1, c1, by rw [upd_ne hDr.symm]; exact e1, e2⟩
    · rintro H' ⟨l, hD, hl, hm, hb, hR⟩
      refine ⟨_, _, _, rfl, rfl, .inl (SqL.of hD), ?_, ?_⟩
      · rw [sg_lens, List.length_map]
        show l.length + l.length * 0 ≤ _
        omega
      · rw [join_sg rfl]
        exact q _ _ (by show a ≤ (l.length : Int); omega) (by show (l.length : Int) ≤ b; omega) hm (hb1.trans hb) hR

/-! ### walks over texts -/
theorem for_strS {x : Str} {g : L2.TG} {tb : L2.TS} {D : L2.Ends} {σ : L2.St} {H : Hp} (Pv : Nat → L2.St → Hp → Prop) (h0 : Pv 0 σ H)
    (hs : ∀ i c σ H, x.cps[i]? = some c → Pv i σ H → g (.str ⟨#[c]⟩) σ H fun σ2 H2 => tb { D with nx := Pv (i + 1), ct := Pv (i + 1), bk := D.nx } σ2 H2) (hd : ∀ σ H, Pv x.cps.size σ H → D.nx σ H) :
    ∃ Wk : Nat → Nat → L2.St → Hp → Prop, (∃ mm, Wk 0 mm σ H) ∧ ∀ i mm σ H, Wk i mm σ H →
      ((Its x).stop i H ∧ D.nx σ H) ∨ ((Its x).go i H ∧ ∃ N : L2.St → Hp → Prop, (∀ σ' H', N σ' H' → ∃ mm', mm' < mm ∧ Wk (i + 1) mm' σ' H') ∧ ∀ y H', (Its x).yld i H y H' → g y σ H' fun σ2 H2 => tb { D with nx := N, ct := N, bk := D.nx } σ2 H2) := by
  refine ⟨fun i mm σ H => mm = x.cps.size - i ∧ i ≤ x.cps.size ∧ Pv i σ H, ⟨x.cps.size, by simp, Nat.zero_le _, h0⟩, ?_⟩
  rintro i mm σ H ⟨rfl, hi, pz⟩
  by_cases hlt : i < x.cps.size
  · refine .inr ⟨hlt, Pv (i + 1), fun σ' H' pz' => ⟨x.cps.size - (i + 1), by omega, rfl, hlt, pz'⟩, fun y H' hy => ?_⟩
    obtain ⟨rfl, c, hc, rfl⟩ := hy
    exact hs i c σ H' hc pz
  · have ee : i = x.cps.size := by omega
    subst ee
    exact .inl ⟨Nat.le_refl _, hd σ H pz⟩
theorem lc_strS {x : Str} {g : L2.TG} {tt : L2.TT} {te : L2.TE} {vs : List Nat} {σ : L2.St} {H1 : Hp} {D : Addr} {Qd : Hp → Prop} (Pv : Nat → Hp → Prop) (h0 : Pv 0 (upd H1 D (.lst [])))
    (hs : ∀ i c H, x.cps[i]? = some c → Pv i H → g (.str ⟨#[c]⟩) (wipe σ vs) H fun σ2 H2 => wipe σ2 vs = wipe σ vs ∧ tt σ2 H2 fun b H3 =>
      if b = true then te σ2 H3 fun y H4 => ∃ acc, H4 D = some (.lst acc) ∧ acc.length < sizeLine ∧ Pv (i + 1) (upd H4 D (.lst (acc ++ [y]))) else Pv (i + 1) H3) (hd : ∀ H, Pv x.cps.size H → Qd H) :
    ∃ Wk : Nat → Nat → Hp → Prop, (∃ mm, Wk 0 mm (upd H1 D (.lst []))) ∧ ∀ i mm H, Wk i mm H →
      ((Its x).stop i H ∧ Qd H) ∨ ((Its x).go i H ∧ ∃ Nx : Hp → Prop, (∀ H', Nx H' → ∃ mm', mm' < mm ∧ Wk (i + 1) mm' H') ∧ ∀ y H', (Its x).yld i H y H' → g y (wipe σ vs) H' fun σ2 H2 => wipe σ2 vs = wipe σ vs ∧ tt σ2 H2 fun b H3 =>
        if b = true then te σ2 H3 fun y H4 => ∃ acc, H4 D = some (.lst acc) ∧ acc.length < sizeLine ∧ Nx (upd H4 D (.lst (acc ++ [y]))) else Nx H3) := by
  refine ⟨fun i mm H => mm = x.cps.size - i ∧ i ≤ x.cps.size ∧ Pv i H, ⟨x.cps.size, by simp, Nat.zero_le _, h0⟩, ?_⟩
  rintro i mm H ⟨rfl, hi, pz⟩
  by_cases hlt : i < x.cps.size
  · refine .inr ⟨hlt, Pv (i + 1), fun H' pz' => ⟨x.cps.size - (i + 1), by omega, rfl, hlt, pz'⟩, fun y H' hy => ?_⟩
    obtain ⟨rfl, c, hc, rfl⟩ := hy
    exact hs i c H' hc pz
  · have ee : i = x.cps.size := by omega
    subst ee
    exact .inl ⟨Nat.le_refl _, hd H pz⟩
/-- a walk over enumerate(xs) -/
theorem for_enumS {K : PySem.W.Frag} {a : Addr} {xs : List V} {g : L2.TG} {tb : L2.TS} {D : L2.Ends} {σ : L2.St} {H : Hp} (Pv : Nat → L2.St → Hp → Prop) (h0 : Pv 0 σ H) (hl : ∀ i σ H, i ≤ xs.length → Pv i σ H → SqL K H a xs)
    (hs : ∀ i x t σ H, xs[i]? = some x → Pv i σ H → H t = none → g (.ref t) σ (upd H t (.tup [.int (i : Nat), x])) fun σ2 H2 => tb { D with nx := Pv (i + 1), ct := Pv (i + 1), bk := D.nx } σ2 H2) (hd : ∀ σ H, Pv xs.length σ H → D.nx σ H) :
    ∃ Wk : Nat → Nat → L2.St → Hp → Prop, (∃ mm, Wk 0 mm σ H) ∧ ∀ i mm σ H, Wk i mm σ H →
      ((Ite K a).stop i H ∧ D.nx σ H) ∨ ((Ite K a).go i H ∧ ∃ N : L2.St → Hp → Prop, (∀ σ' H', N σ' H' → ∃ mm', mm' < mm ∧ Wk (i + 1) mm' σ' H') ∧ ∀ y H', (Ite K a).yld i H y H' → g y σ H' fun σ2 H2 => tb { D with nx := N, ct := N, bk := D.nx } σ2 H2) := by
  refine ⟨fun i mm σ H => mm = xs.length - i ∧ i ≤ xs.length ∧ Pv i σ H, ⟨xs.length, by simp, Nat.zero_le _, h0⟩, ?_⟩
  rintro i mm σ H ⟨rfl, hi, pz⟩
  have q := hl i σ H hi pz
  by_cases hlt : i < xs.length
  · have hx : xs[i]? = some (xs[i]) := List.getElem?_eq_getElem hlt
    refine .inr ⟨⟨xs, xs[i], q, hx⟩, Pv (i + 1), fun σ' H' pz' => ⟨xs.length - (i + 1), by omega, rfl, hlt, pz'⟩, fun y H' hy => ?_⟩
    obtain ⟨t, x, rfl, ht, rfl, hall⟩ := hy
    exact hs i x t σ H (hall xs q) pz ht
  · have ee : i = xs.length := by omega
    subst ee
    exact .inl ⟨⟨xs, q, Nat.le_refl _⟩, hd σ H pz⟩

/-! ### tuples, pairs -/
def Tups (H H' : Hp) : Prop := ∀ b xs, H b = some (.tup xs) → H' b = some (.tup xs)
theorem Tups.refl (H : Hp) : Tups H H := fun _ _ h => h
theorem Tups.trans {H H1 H2 : Hp} (a : Tups H H1) (b : Tups H1 H2) : Tups H H2 := fun c xs h => b c xs (a c xs h)
theorem But.tups {r : Addr} {H H' : Hp} (b : But r H H') (h : ReelAt H r) : Tups H H' := fun c xs e => b c _ (fun z => by
  obtain ⟨z1, c1, e1, _⟩ := h
  rw [z, e1] at e
  cases e) e
theorem Tups.new {H : Hp} {p : Addr} {o : HO} (h : H p = none) : Tups H (upd H p o) := fun c xs e => by rw [upd_ne (ne_of_none e h)]; exact e
theorem Tups.mut {H : Hp} {p : Addr} {xs : List V} {o : HO} (h : H p = some (.lst xs)) : Tups H (upd H p o) := fun c ys e => by
  rw [upd_ne (ne_of e h (fun z => by cases z))]
  exact e
theorem paired_len {α β : Type} {F : α → β → Prop} : ∀ {xs : List α} {ys : List β}, Paired F xs ys → xs.length = ys.length
  | _, _, .nil => rfl
  | _, _, .cons _ t => congrArg (· + 1) (paired_len t)
theorem paired_app {α β : Type} {F : α → β → Prop} : ∀ {xs xs' : List α} {ys ys' : List β}, Paired F xs ys → Paired F xs' ys' → Paired F (xs ++ xs') (ys ++ ys')
  | _, _, _, _, .nil, h => h
  | _, _, _, _, .cons r t, h => .cons r (paired_app t h)
theorem paired_get {α β : Type} {F : α → β → Prop} : ∀ {xs : List α} {ys : List β} {i : Nat} {y : β}, Paired F xs ys → ys[i]? = some y → ∃ x, xs[i]? = some x ∧ F x y
  | _, _, _, _, .nil, h => by simp at h
  | _, _, 0, y, .cons r t, h => by
    have e := Option.some.inj h
    subst e
    exact ⟨_, rfl, r⟩
  | _, _, i + 1, y, .cons r t, h => by
    obtain ⟨x, h1, h2⟩ := paired_get (i := i) (y := y) t (by simpa using h)
    exact ⟨x, by simpa using h1, h2⟩
theorem paired_take {α β : Type} {F : α → β → Prop} : ∀ {xs : List α} {ys : List β} (n : Nat), Paired F xs ys → Paired F (xs.take n) (ys.take n)
  | _, _, 0, _ => .nil
  | _, _, _ + 1, .nil => .nil
  | _, _, n + 1, .cons r t => .cons r (paired_take n t)
theorem paired_drop {α β : Type} {F : α → β → Prop} : ∀ {xs : List α} {ys : List β} (n : Nat), Paired F xs ys → Paired F (xs.drop n) (ys.drop n)
  | _, _, 0, h => h
  | _, _, _ + 1, .nil => .nil
  | _, _, n + 1, .cons r t => paired_drop n t

/-! ### an if told once -/
theorem if_ev {tt : L2.TT} {a b : L2.TS} {D : L2.Ends} {σ : L2.St} {H : Hp} (R : Hp → Prop) (h : ∀ Qb : Bool → Hp → Prop, (∀ c H2, R H2 → Qb c H2) → tt σ H Qb) (ha : ∀ H2, R H2 → a D σ H2) (hb : ∀ H2, R H2 → b D σ H2) : tIfS tt a b D σ H := h _ (fun c H2 r => by
  cases c
  · exact iteF (hb H2 r)
  · exact iteT (ha H2 r))
theorem if_2 {tt : L2.TT} {a b : L2.TS} {D : L2.Ends} {σ : L2.St} {H : Hp} (R : Hp → Prop) (A : Prop) (h : ∀ Qb : Bool → Hp → Prop, (∀ c H2, R H2 → (c = true ↔ A) → Qb c H2) → tt σ H Qb) (ha : A → ∀ H2, R H2 → a D σ H2) (hb : ¬ A → ∀ H2, R H2 → b D σ H2) : tIfS tt a b D σ H := h _ (fun c H2 r i => by
  cases c
  · exact iteF (hb (fun z => absurd (i.mpr z) (by decide)) H2 r)
  · exact iteT (ha (i.mp rfl) H2 r))
theorem g_if {i : Nat} {x : V} {σ : L2.St} {H : Hp} {tt : L2.TT} {a b : L2.TS} {D : L2.Ends} {r : VK} {k c : L2.St → Hp → Prop} (h : tIfS tt a b D (σ.set i (some x)) H) : gName i x σ H (Ends.nx ⟨tIfS tt a b D, r, k, c⟩) := h
theorem g_seq {i : Nat} {x : V} {σ : L2.St} {H : Hp} {t u : L2.TS} {D : L2.Ends} {r : VK} {k c : L2.St → Hp → Prop} (h : tSeq t u D (σ.set i (some x)) H) : gName i x σ H (Ends.nx ⟨tSeq t u D, r, k, c⟩) := h
/-- if ..: a (and it ends here); the rest is told once -/
theorem sif {tt : L2.TT} {a c : L2.TS} {D : L2.Ends} {σ : L2.St} {H : Hp} (R : Hp → Prop) (A : Prop) (h : ∀ Qb : Bool → Hp → Prop, (∀ c H2, R H2 → (c = true ↔ A) → Qb c H2) → tt σ H Qb) (ha : A → ∀ H2, R H2 → a { D with nx := fun σ2 H2 => c D σ2 H2 } σ H2) (hb : ¬ A → ∀ H2, R H2 → c D σ H2) :
    tSeq (tIfS tt a tNext) c D σ H := if_2 (D := { D with nx := fun σ2 H2 => c D σ2 H2 }) R A h ha hb
theorem itF {c : Bool} {A B : Prop} (h : c = false) (b : B) : if c = true then A else B := by
  rw [h]
  exact iteF b

/-! ### slices -/
theorem cut_pre (z : Str) (a : Nat) : cs (cutS z none (some (a : Int))) = (cs z).take a := by
  show ((cs z).drop 0).take _ = _
  rw [HT.sIx_nat, HT.sIx_none, List.drop_zero, Nat.sub_zero, len_cs, ← List.take_eq_take_min]
theorem cut_suf (z : Str) (a : Nat) : cs (cutS z (some (a : Int)) none) = (cs z).drop a := by
  show ((cs z).drop _).take _ = _
  rw [HT.sIx_nat, HT.sIx_none, len_cs, List.take_of_length_le (by rw [List.length_drop]; exact Nat.le_refl _)]
  by_cases h : a ≤ (cs z).length
  · rw [Nat.min_eq_left h]
  · rw [Nat.min_eq_right (by omega), List.drop_eq_nil_of_le (Nat.le_refl _), List.drop_eq_nil_of_le (by omega)]
theorem cut_mid (z : Str) (a b : Nat) : cs (cutS z (some (a : Int)) (some (b : Int))) = ((cs z).take b).drop a := by
  show ((cs z).drop _).take _ = _
  rw [HT.sIx_nat, HT.sIx_nat, len_cs]
  by_cases h : a ≤ (cs z).length
  · rw [Nat.min_eq_left h, List.drop_take]
    by_cases h2 : b ≤ (cs z).length
    · rw [Nat.min_eq_left h2]
    · rw [Nat.min_eq_right (by omega), List.take_of_length_le (by rw [List.length_drop]; exact Nat.le_refl _), List.take_of_length_le (by rw [List.length_drop]; omega)]
  · rw [Nat.min_eq_right (show (cs z).length ≤ a by omega), List.drop_eq_nil_of_le (Nat.le_refl _), List.take_nil, List.drop_eq_nil_of_le (by rw [List.length_take]; omega)]

/-! ### trees, in plain Lean -/
structure Nd where
  kind : Str
  sym : Str
  st : Int
  lead : Int
  wid : Int
  look : Int
  alt : Int
  pop : Int
inductive Tr where
  | mk (p : Addr) (d : Nd) (ks : List Tr)
def Tr.at : Tr → Addr
  | .mk p _ _ => p
def Tr.d : Tr → Nd
  | .mk _ d _ => d
def Tr.ks : Tr → List Tr
  | .mk _ _ ks => ks
/-- a tree's rows, in their order -/
abbrev Rw := Int × Nd
mutual
def Tr.rows (l : Int) : Tr → List Rw
  | .mk _ d ks => (l, d) :: rowsL (l + 1) ks
def rowsL (l : Int) : List Tr → List Rw
  | [] => []
  | t :: ts => t.rows l ++ rowsL l ts
end
mutual
/-- a tree's nodes, in their order -/
def Tr.ats : Tr → List Addr
  | .mk p _ ks => p :: atsL ks
def atsL : List Tr → List Addr
  | [] => []
  | t :: ts => t.ats ++ atsL ts
end
/-- a row with its node -/
abbrev Ra := Int × Nd × Addr
mutual
def Tr.ras (l : Int) : Tr → List Ra
  | .mk p d ks => (l, d, p) :: rasL (l + 1) ks
def rasL (l : Int) : List Tr → List Ra
  | [] => []
  | t :: ts => t.ras l ++ rasL l ts
end
abbrev Lt := Int × Tr
def flatL (ps : List Lt) : List Ra := (ps.map fun p => p.2.ras p.1).flatten
/-- from the right: each row takes the trees in front that stand one level below it -/
def grow : List Ra → List Lt
  | [] => []
  | r :: rs => (r.1, .mk r.2.2 r.2.1 (((grow rs).takeWhile fun p => p.1 == r.1 + 1).map Prod.snd)) :: (grow rs).dropWhile fun p => p.1 == r.1 + 1
theorem rasL_same {l : Int} : ∀ ps : List Lt, (∀ p ∈ ps, p.1 = l) → rasL l (ps.map Prod.snd) = flatL ps
  | [], _ => rfl
  | p :: ps, h => by
    have ih := rasL_same ps fun q hq => h q (List.mem_cons_of_mem _ hq)
    show p.2.ras l ++ rasL l (ps.map Prod.snd) = p.2.ras p.1 ++ flatL ps
    rw [ih, h p List.mem_cons_self]
theorem mem_takeW {α : Type} {f : α → Bool} {x : α} : ∀ {l : List α}, x ∈ l.takeWhile f → f x = true ∧ x ∈ l
  | [], h => absurd h List.not_mem_nil
  | y :: l, h => by
    rw [List.takeWhile_cons] at h
    split at h
    · rename_i c
      rcases List.mem_cons.mp h with rfl | h
      · exact ⟨c, List.mem_cons_self⟩
      · have := mem_takeW h
        exact ⟨this.1, List.mem_cons_of_mem _ this.2⟩
    · exact absurd h List.not_mem_nil
theorem mem_dropW {α : Type} {f : α → Bool} {x : α} {l : List α} (h : x ∈ l.dropWhile f) : x ∈ l := by
  rw [← List.takeWhile_append_dropWhile (p := f) (l := l)]
  exact List.mem_append_right _ h
theorem flat_app (ps qs : List Lt) : flatL (ps ++ qs) = flatL ps ++ flatL qs := by
  unfold flatL
  rw [List.map_append, List.flatten_append]
theorem grow_flat : ∀ rs : List Ra, flatL (grow rs) = rs
  | [] => rfl
  | r :: rs => by
    have ih := grow_flat rs
    have h1 := rasL_same (l := r.1 + 1) ((grow rs).takeWhile fun p => p.1 == r.1 + 1) fun p hp => by simpa using (mem_takeW hp).1
    have h2 : flatL ((grow rs).takeWhile fun p => p.1 == r.1 + 1) ++ flatL ((grow rs).dropWhile fun p => p.1 == r.1 + 1) = rs := by
      rw [← flat_app, List.takeWhile_append_dropWhile]
      exact ih
    show (((r.1, r.2.1, r.2.2) : Ra) :: rasL (r.1 + 1) (((grow rs).takeWhile fun p => p.1 == r.1 + 1).map Prod.snd)) ++ flatL ((grow rs).dropWhile fun p => p.1 == r.1 + 1) = r :: rs
    rw [h1, List.cons_append, h2]
/-- levels that climb by one at most -/
def Lad : List Int → Prop
  | [] => True
  | [_] => True
  | a :: b :: ls => b ≤ a + 1 ∧ Lad (b :: ls)
theorem Lad.tail {a : Int} {ls : List Int} (h : Lad (a :: ls)) : Lad ls := by
  cases ls with
  | nil => exact True.intro
  | cons b ls => exact h.2
theorem grow_mem {p : Lt} : ∀ {rs : List Ra}, p ∈ grow rs → ∃ r ∈ rs, r.1 = p.1
  | [], h => absurd h List.not_mem_nil
  | r :: rs, h => by
    rcases List.mem_cons.mp h with rfl | h
    · exact ⟨r, List.mem_cons_self, rfl⟩
    · obtain ⟨x, hx, e⟩ := grow_mem (mem_dropW h)
      exact ⟨x, List.mem_cons_of_mem _ hx, e⟩
theorem grow_head : ∀ {r : Ra} {rs : List Ra}, ∃ t ps, grow (r :: rs) = (r.1, t) :: ps := ⟨_, _, rfl⟩
/-- along grow the levels fall -/
theorem grow_desc : ∀ {rs : List Ra}, Lad (rs.map Prod.fst) → (grow rs).Pairwise fun p q => q.1 ≤ p.1
  | [], _ => .nil
  | r :: rs, h => by
    have ih := grow_desc (rs := rs) h.tail
    have ihd : ((grow rs).dropWhile fun p => p.1 == r.1 + 1).Pairwise fun p q => q.1 ≤ p.1 := ih.sublist (List.dropWhile_sublist _)
    refine List.pairwise_cons.mpr ⟨fun q hq => ?_, ihd⟩
    have top : ∀ q ∈ grow rs, q.1 ≤ r.1 + 1 := fun q hq => by
      cases rs with
      | nil => exact absurd hq List.not_mem_nil
      | cons s rs =>
        have hs : s.1 ≤ r.1 + 1 := h.1
        obtain ⟨t, ps, e⟩ := grow_head (r := s) (rs := rs)
        rw [e] at hq ih
        rcases List.mem_cons.mp hq with rfl | hq
        · exact hs
        · have := (List.pairwise_cons.mp ih).1 q hq
          simp only at this
          omega
    show q.1 ≤ r.1
    cases hd : (grow rs).dropWhile fun p => p.1 == r.1 + 1 with
    | nil =>
      rw [hd] at hq
      exact absurd hq List.not_mem_nil
    | cons x xs =>
      have hx : ¬ x.1 = r.1 + 1 := by
        have := List.head?_dropWhile_not (fun p : Lt => p.1 == r.1 + 1) (grow rs)
        rw [hd] at this
        simpa using this
      have hx2 := top x (mem_dropW (by rw [hd]; exact List.mem_cons_self))
      rw [hd] at hq ihd
      rcases List.mem_cons.mp hq with rfl | hq
      · omega
      · have := (List.pairwise_cons.mp ihd).1 q hq
        omega
/-- rows that begin at the level 0 and stand above it from then on are one tree -/
theorem grow_one {r : Ra} {rs : List Ra} (h : Lad ((r :: rs).map Prod.fst)) (hr : r.1 = 0) (hs : ∀ x ∈ rs, 1 ≤ x.1) : ∃ t, grow (r :: rs) = [(0, t)] := by
  obtain ⟨t, ps, e⟩ := grow_head (r := r) (rs := rs)
  have hd := grow_desc h
  rw [e] at hd
  cases ps with
  | nil => exact ⟨t, by rw [e, hr]⟩
  | cons p ps =>
    exfalso
    have h1 := (List.pairwise_cons.mp hd).1 p List.mem_cons_self
    have h2 : p ∈ (grow rs).dropWhile fun p => p.1 == r.1 + 1 := by
      have e2 : grow (r :: rs) = _ :: (grow rs).dropWhile fun p => p.1 == r.1 + 1 := rfl
      rw [e] at e2
      have := (List.cons.inj e2).2
      rw [← this]
      exact List.mem_cons_self
    obtain ⟨x, hx, ex⟩ := grow_mem (mem_dropW h2)
    have := hs x hx
    simp only at h1
    omega

/-! ### nodes in the heap -/
theorem putF_le (f : Str) (v : V) : ∀ fs : List (Str × V), (putF f v fs).length ≤ fs.length + 1
  | [] => Nat.le_refl _
  | (g, u) :: r => by
    have ih := putF_le f v r
    show (if g = f then _ else _ : List (Str × V)).length ≤ _
    split
    · rw [List.length_cons, List.length_cons]
      omega
    · rw [List.length_cons, List.length_cons]
      omega
def nfl (d : Nd) (tp : Addr) : List (Str × V) := putF "popped" (.int d.pop) (putF "nodes" (.ref tp) (putF "alternative" (.int d.alt) (putF "look" (.int d.look) (putF "width" (.int d.wid) (putF "lead" (.int d.lead) (putF "state" (.int d.st) (putF "symbol" (.str d.sym) (putF "kind" (.str d.kind) []))))))))
theorem nf_kind (d : Nd) (tp : Addr) : (nfl d tp).lookup ("kind" : Str) = some (.str d.kind) := by
  unfold nfl
  rw [lookup_putF, if_neg (by decide +kernel), lookup_putF, if_neg (by decide +kernel), lookup_putF, if_neg (by decide +kernel), lookup_putF, if_neg (by decide +kernel), lookup_putF, if_neg (by decide +kernel), lookup_putF, if_neg (by decide +kernel), lookup_putF, if_neg (by decide +kernel), lookup_putF, if_neg (by decide +kernel), lookup_putF, if_pos rfl]
theorem nf_symbol (d : Nd) (tp : Addr) : (nfl d tp).lookup ("symbol" : Str) = some (.str d.sym) := by
  unfold nfl
  rw [lookup_putF, if_neg (by decide +kernel), lookup_putF, if_neg (by decide +kernel), lookup_putF, if_neg (by decide +kernel), lookup_putF, if_neg (by decide +kernel), lookup_putF, if_neg (by decide +kernel), lookup_putF, if_neg (by decide +kernel), lookup_putF, if_neg (by decide +kernel), lookup_putF, if_pos rfl]
theorem nf_state (d : Nd) (tp : Addr) : (nfl d tp).lookup ("state" : Str) = some (.int d.st) := by
  unfold nfl
  rw [lookup_putF, if_neg (by decide +kernel), lookup_putF, if_neg (by decide +kernel), lookup_putF, if_neg (by decide +kernel), lookup_putF, if_neg (by decide +kernel), lookup_putF, if_neg (by decide +kernel), lookup_putF, if_neg (by decide +kernel), lookup_putF, if_pos rfl]
theorem nf_lead (d : Nd) (tp : Addr) : (nfl d tp).lookup ("lead" : Str) = some (.int d.lead) := by
  unfold nfl
  rw [lookup_putF, if_neg (by decide +kernel), lookup_putF, if_neg (by decide +kernel), lookup_putF, if_neg (by decide +kernel), lookup_putF, if_neg (by decide +kernel), lookup_putF, if_neg (by decide +kernel), lookup_putF, if_pos rfl]
theorem nf_width (d : Nd) (tp : Addr) : (nfl d tp).lookup ("width" : Str) = some (.int d.wid) := by
  unfold nfl
  rw [lookup_putF, if_neg (by decide +kernel), lookup_putF, if_neg (by decide +kernel), lookup_putF, if_neg (by decide +kernel), lookup_putF, if_neg (by decide +kernel), lookup_putF, if_pos rfl]
theorem nf_look (d : Nd) (tp : Addr) : (nfl d tp).lookup ("look" : Str) = some (.int d.look) := by
  unfold nfl
  rw [lookup_putF, if_neg (by decide +kernel), lookup_putF, if_neg (by decide +kernel), lookup_putF, if_neg (by decide +kernel), lookup_putF, if_pos rfl]
theorem nf_alternative (d : Nd) (tp : Addr) : (nfl d tp).lookup ("alternative" : Str) = some (.int d.alt) := by
  unfold nfl
  rw [lookup_putF, if_neg (by decide +kernel), lookup_putF, if_neg (by decide +kernel), lookup_putF, if_pos rfl]
theorem nf_nodes (d : Nd) (tp : Addr) : (nfl d tp).lookup ("nodes" : Str) = some (.ref tp) := by
  unfold nfl
  rw [lookup_putF, if_neg (by decide +kernel), lookup_putF, if_pos rfl]
theorem nf_popped (d : Nd) (tp : Addr) : (nfl d tp).lookup ("popped" : Str) = some (.int d.pop) := by
  unfold nfl
  rw [lookup_putF, if_pos rfl]
theorem szM {n : Nat} (h : n ≤ 4000000) : n ≤ sizeLine := Nat.le_trans h (by decide)
mutual
def NodeAt (K : PySem.W.Frag) (C : Addr) (H : Hp) : Tr → Prop
  | .mk p d ks => (∃ dx tp, H p = some (.ins C dx (nfl d tp)) ∧ SqT K H tp (ks.map fun t => V.ref t.at)) ∧ NodesAt K C H ks
def NodesAt (K : PySem.W.Frag) (C : Addr) (H : Hp) : List Tr → Prop
  | [] => True
  | t :: ts => NodeAt K C H t ∧ NodesAt K C H ts
end
/-- what a heap keeps of nodes and tuples -/
structure Keeps (K : PySem.W.Frag) (C : Addr) (H H' : Hp) : Prop where
  ins : ∀ p dx d tp, H p = some (.ins C dx (nfl d tp)) → H' p = some (.ins C dx (nfl d tp))
  tup : ∀ tp us, SqT K H tp us → SqT K H' tp us
theorem Keeps.of {K : PySem.W.Frag} {C : Addr} {H H' : Hp} (s : Same H H') : Keeps K C H H' :=
  ⟨fun _ _ _ _ h => s _ _ h, fun tp us h => by
    rcases h with (h | ⟨o, h⟩) | h
    · exact .inl (.inl (s _ _ h))
    · exact .inl (.inr ⟨o, s _ _ h⟩)
    · exact .inr h⟩
theorem Keeps.trans {K : PySem.W.Frag} {C : Addr} {H H1 H2 : Hp} (a : Keeps K C H H1) (b : Keeps K C H1 H2) : Keeps K C H H2 := ⟨fun p dx d tp h => b.ins p dx d tp (a.ins p dx d tp h), fun tp us h => b.tup tp us (a.tup tp us h)⟩
mutual
theorem NodeAt.keep {K : PySem.W.Frag} {C : Addr} {H H' : Hp} (s : Keeps K C H H') : ∀ {t : Tr}, NodeAt K C H t → NodeAt K C H' t
  | .mk _ _ _, ⟨⟨dx, tp, h1, h2⟩, h3⟩ => ⟨⟨dx, tp, s.ins _ _ _ _ h1, s.tup _ _ h2⟩, NodesAt.keep s h3⟩
theorem NodesAt.keep {K : PySem.W.Frag} {C : Addr} {H H' : Hp} (s : Keeps K C H H') : ∀ {ts : List Tr}, NodesAt K C H ts → NodesAt K C H' ts
  | [], _ => True.intro
  | _ :: _, ⟨h1, h2⟩ => ⟨NodeAt.keep s h1, NodesAt.keep s h2⟩
end
theorem NodesAt.mem {K : PySem.W.Frag} {C : Addr} {H : Hp} : ∀ {ts : List Tr} {t : Tr}, NodesAt K C H ts → t ∈ ts → NodeAt K C H t
  | _ :: _, _, ⟨h1, h2⟩, hm => by
    rcases List.mem_cons.mp hm with rfl | hm
    · exact h1
    · exact NodesAt.mem h2 hm
theorem NodesAt.of {K : PySem.W.Frag} {C : Addr} {H : Hp} : ∀ {ts : List Tr}, (∀ t ∈ ts, NodeAt K C H t) → NodesAt K C H ts
  | [], _ => True.intro
  | _ :: _, h => ⟨h _ List.mem_cons_self, NodesAt.of fun t ht => h t (List.mem_cons_of_mem _ ht)⟩
theorem NodeAt.it {K : PySem.W.Frag} {C : Addr} {H : Hp} : ∀ {t : Tr}, NodeAt K C H t → ∃ dx tp, H t.at = some (.ins C dx (nfl t.d tp)) ∧ SqT K H tp (t.ks.map fun t => V.ref t.at)
  | .mk _ _ _, h => h.1
theorem NodeAt.kids {K : PySem.W.Frag} {C : Addr} {H : Hp} : ∀ {t : Tr}, NodeAt K C H t → NodesAt K C H t.ks
  | .mk _ _ _, h => h.2
/-! ### Node(..) -/
def spNInit (K : PySem.W.Frag) (C : Addr) : Sp := fun vs H Q _ => ∃ (p dx tn : Addr) (d : Nd) (us : List V), H p = some (.ins C dx []) ∧ vs = [.ref p, .str d.kind, .str d.sym, .int d.st, .int d.lead, .int d.wid, .int d.look, .int d.alt, .ref tn, .int d.pop] ∧
  ((SqT K H tn us ∧ Q .non (upd H p (.ins C dx (nfl d tn)))) ∨ (SqL K H tn us ∧ ∀ tp, tp ≠ p → H tp = none → Q .non (upd (upd H tp (.tup us)) p (.ins C dx (nfl d tp)))))
theorem upd_swap {H : Hp} {a b : Addr} {x y : HO} (h : a ≠ b) : upd (upd H a x) b y = upd (upd H b y) a x := by
  funext c
  unfold upd
  by_cases c1 : c = a
  · by_cases c2 : c = b
    · exact absurd (c1.symm.trans c2) h
    · rw [if_neg c2, if_pos c1, if_pos c1]
  · rw [if_neg c1]
    by_cases c2 : c = b
    · rw [if_pos c2, if_neg c1]
    · rw [if_neg c2, if_neg c1]
theorem sqT_updI {K : PySem.W.Frag} {H : Hp} {t p C dx : Addr} {us : List V} {fs : List (Str × V)} {o : HO} (h : SqT K H t us) (hp : H p = some (.ins C dx fs)) : SqT K (upd H p o) t us := by
  rcases h with (h | ⟨x, h⟩) | h
  · exact .inl (.inl (by rw [upd_ne (fun e => by rw [e, hp] at h; cases h)]; exact h))
  · exact .inl (.inr ⟨x, by rw [upd_ne (fun e => by rw [e, hp] at h; cases h)]; exact h⟩)
  · exact .inr h
theorem sqL_updI {K : PySem.W.Frag} {H : Hp} {t p C dx : Addr} {us : List V} {fs : List (Str × V)} {o : HO} (h : SqL K H t us) (hp : H p = some (.ins C dx fs)) : SqL K (upd H p o) t us := by
  rcases h with (h | ⟨x, h⟩) | h
  · exact .inl (.inl (by rw [upd_ne (fun e => by rw [e, hp] at h; cases h)]; exact h))
  · exact .inl (.inr ⟨x, by rw [upd_ne (fun e => by rw [e, hp] at h; cases h)]; exact h⟩)
  · exact .inr h
theorem ok_Node_init (T : Txt K mg) : FnOk P w K mg base CX0 1 T.a_Node_init T.fd_Node_init psN (spNInit K T.C_Node) := by
  refine T.F_Node_init.ok sc_Node_init (fun vs H Q E h => ?_) (fun cdv A outer s H vs Q E hr h => ?_)
  · obtain ⟨p, dx, tn, d, us, _, rfl, _⟩ := h
    rfl
  · obtain ⟨p, dx, tn, d, us, hp, rfl, h⟩ := h
    refine ⟨_, (pss_cons (ps_fld (pv 0) (pv 1) rfl)
      (pss_cons (ps_fld (pv 0) (pv 2) rfl)
      (pss_cons (ps_fld (pv 0) (pv 3) rfl)
      (pss_cons (ps_fld (pv 0) (pv 4) rfl)
      (pss_cons (ps_fld (pv 0) (pv 5) rfl)
      (pss_cons (ps_fld (pv 0) (pv 6) rfl)
      (pss_cons (ps_fld (pv 0) (pv 7) rfl)
      (pss_cons (ps_fld (pv 0) (pe_callTy call_tuple_of (by rfl) T.m_tuple (by decide +kernel) (pa_cons (pv 8) pa_nil)) rfl)
      (pss_one (ps_fld (pv 0) (pv 9) rfl)))))))))), ?_⟩
    have ln0 : ([] : List (Str × V)).length = 0 := rfl
    have l1 := putF_le "kind" (.str d.kind) []
    have l2 := putF_le "symbol" (.str d.sym) (putF "kind" (.str d.kind) [])
    have l3 := putF_le "state" (.int d.st) (putF "symbol" (.str d.sym) (putF "kind" (.str d.kind) []))
    have l4 := putF_le "lead" (.int d.lead) (putF "state" (.int d.st) (putF "symbol" (.str d.sym) (putF "kind" (.str d.kind) [])))
    have l5 := putF_le "width" (.int d.wid) (putF "lead" (.int d.lead) (putF "state" (.int d.st) (putF "symbol" (.str d.sym) (putF "kind" (.str d.kind) []))))
    have l6 := putF_le "look" (.int d.look) (putF "width" (.int d.wid) (putF "lead" (.int d.lead) (putF "state" (.int d.st) (putF "symbol" (.str d.sym) (putF "kind" (.str d.kind) [])))))
    have l7 := putF_le "alternative" (.int d.alt) (putF "look" (.int d.look) (putF "width" (.int d.wid) (putF "lead" (.int d.lead) (putF "state" (.int d.st) (putF "symbol" (.str d.sym) (putF "kind" (.str d.kind) []))))))
    refine ⟨_, rfl, _, rfl, p, _, dx, _, rfl, hp, T.CL_Node, T.NA_Node_kind, by omega, ?_⟩
    refine ⟨_, rfl, _, rfl, p, _, dx, _, rfl, upd_same, T.CL_Node, T.NA_Node_symbol, by omega, ?_⟩
    refine ⟨_, rfl, _, rfl, p, _, dx, _, rfl, upd_same, T.CL_Node, T.NA_Node_state, by omega, ?_⟩
    refine ⟨_, rfl, _, rfl, p, _, dx, _, rfl, upd_same, T.CL_Node, T.NA_Node_lead, by omega, ?_⟩
    refine ⟨_, rfl, _, rfl, p, _, dx, _, rfl, upd_same, T.CL_Node, T.NA_Node_width, by omega, ?_⟩
    refine ⟨_, rfl, _, rfl, p, _, dx, _, rfl, upd_same, T.CL_Node, T.NA_Node_look, by omega, ?_⟩
    refine ⟨_, rfl, _, rfl, p, _, dx, _, rfl, upd_same, T.CL_Node, T.NA_Node_alternative, by omega, ?_⟩
    rw [upd_upd, upd_upd, upd_upd, upd_upd, upd_upd, upd_upd]
    have l8 := fun tp : Addr => putF_le "nodes" (.ref tp) (putF "alternative" (.int d.alt) (putF "look" (.int d.look) (putF "width" (.int d.wid) (putF "lead" (.int d.lead) (putF "state" (.int d.st) (putF "symbol" (.str d.sym) (putF "kind" (.str d.kind) [])))))))
    rcases h with ⟨ht, q⟩ | ⟨ht, q⟩
    · refine ⟨_, rfl, tn, us, rfl, .inr ⟨sqT_updI ht hp, ?_⟩⟩
      refine ⟨_, rfl, p, _, dx, _, rfl, upd_same, T.CL_Node, T.NA_Node_nodes, by omega, ?_⟩
      have := l8 tn
      refine ⟨_, rfl, _, rfl, p, _, dx, _, rfl, upd_same, T.CL_Node, T.NA_Node_popped, by omega, ?_⟩
      rw [upd_upd, upd_upd]
      exact q
    · refine ⟨_, rfl, tn, us, rfl, .inl ⟨sqL_updI ht hp, fun tp ntp => ?_⟩⟩
      have hne : tp ≠ p := fun e => by rw [e, upd_same] at ntp; cases ntp
      refine ⟨_, rfl, p, _, dx, _, rfl, by rw [upd_ne hne.symm]; exact upd_same, T.CL_Node, T.NA_Node_nodes, by omega, ?_⟩
      have := l8 tp
      refine ⟨_, rfl, _, rfl, p, _, dx, _, rfl, upd_same, T.CL_Node, T.NA_Node_popped, by omega, ?_⟩
      rw [upd_upd, upd_swap hne.symm, upd_upd]
      exact q tp hne (by rw [upd_ne hne] at ntp; exact ntp)

theorem takeN {α : Type} {xs : List α} {k : Nat} {x : α} (h : xs[k]? = some x) : xs.take (k + 1) = xs.take k ++ [x] := by
  rw [List.take_add_one, h, Option.toList_some]

/-! ### levels -/
def intsIn (lo hi : Int) : List V → Bool
  | [] => true
  | .int i :: r => decide (lo ≤ i) && decide (i ≤ hi) && intsIn lo hi r
  | _ :: _ => false
theorem intsIn_mem {lo hi : Int} : ∀ {vs : List V}, intsIn lo hi vs = true → ∀ v ∈ vs, ∃ i, v = V.int i ∧ lo ≤ i ∧ i ≤ hi
  | [], _, v, m => absurd m List.not_mem_nil
  | .int i :: r, h, v, m => by
    unfold intsIn at h
    simp only [Bool.and_eq_true, decide_eq_true_eq] at h
    rcases List.mem_cons.mp m with rfl | m
    · exact ⟨i, rfl, h.1.1, h.1.2⟩
    · exact intsIn_mem h.2 v m
  | .non :: _, h, _, _ => by cases h
  | .bl _ :: _, h, _, _ => by cases h
  | .str _ :: _, h, _, _ => by cases h
  | .byt _ :: _, h, _, _ => by cases h
  | .flt _ :: _, h, _, _ => by cases h
  | .ref _ :: _, h, _, _ => by cases h
  | .ty _ :: _, h, _, _ => by cases h
def Lev (L : List Int) : Prop := ∃ ls, L = 0 :: ls ∧ (∀ x ∈ ls, 1 ≤ x) ∧ Lad L
theorem Lad.snoc {a x : Int} : ∀ {L : List Int}, Lad (L ++ [a]) → x ≤ a + 1 → Lad (L ++ [a] ++ [x])
  | [], _, h => ⟨h, True.intro⟩
  | [b], h1, h => ⟨h1.1, h, True.intro⟩
  | b :: c :: L, h1, h => ⟨h1.1, Lad.snoc (L := c :: L) h1.2 h⟩
/-- levels, the last of them -/
def LevE (L : List Int) (a : Int) : Prop := Lev L ∧ ∃ L', L = L' ++ [a]
theorem LevE.more {L : List Int} {a x : Int} (h : LevE L a) (h1 : 1 ≤ x) (h2 : x ≤ a + 1) : LevE (L ++ [x]) x := by
  obtain ⟨⟨ls, e, hs, hl⟩, L', e2⟩ := h
  refine ⟨⟨ls ++ [x], by rw [e]; rfl, fun y hy => ?_, ?_⟩, L, rfl⟩
  · rcases List.mem_append.mp hy with h | h
    · exact hs y h
    · rw [List.mem_singleton.mp h]
      exact h1
  · rw [e2] at hl ⊢
    exact hl.snoc h2
theorem LevE.zero : LevE [0] 0 := ⟨⟨[], rfl, fun x hx => absurd hx List.not_mem_nil, True.intro⟩, [], rfl⟩
theorem LevE.ge {L : List Int} {a : Int} (h : LevE L a) : 0 ≤ a := by
  obtain ⟨⟨ls, e, hs, _⟩, L', e2⟩ := h
  have hm : a ∈ L := by rw [e2]; exact List.mem_append_right _ List.mem_cons_self
  rw [e] at hm
  rcases List.mem_cons.mp hm with rfl | hm
  · exact Int.le_refl _
  · have := hs _ hm
    omega
def LevsAt (H : Hp) (l : Addr) (L : List Int) : Prop := H l = some (.lst (L.map V.int))
def spLevs (n : Nat) : Sp := fun vs H Q _ => ∃ r : Addr, vs = [.ref r] ∧ ReelAt H r ∧ ∀ l L H', LevsAt H' l L → Lev L → L.length ≤ n → H l = none → But r H H' → ReelAt H' r → Q (.ref l) H'
def spComb : Sp := fun vs H Q _ => ∃ (r : Addr) (n : Nat), vs = [.ref r, .int (n : Int)] ∧ ReelAt H r ∧ n ≤ 2000 ∧ ∀ l L H', LevsAt H' l L → Lev L → L.length = 2 * n + 1 → H l = none → But r H H' → ReelAt H' r → Q (.ref l) H'
theorem But.updN {r l : Addr} {H H' : Hp} {o : HO} (b : But r H H') (nl : H l = none) : But r H (upd H' l o) := fun c u n e => by
  rw [upd_ne (ne_of_none e nl)]
  exact b c u n e
theorem ReelAt.updN {H : Hp} {r p : Addr} {o : HO} (h : ReelAt H r) (n : p ≠ r) : ReelAt (upd H p o) r := by
  obtain ⟨z, c, h1, h2⟩ := h
  exact ⟨z, c, by rw [upd_ne n.symm]; exact h1, h2⟩
theorem ok_comb (T : Txt K mg) : FnOk P w K mg base CX0 2 T.a_law_comb T.fd_law_comb ["reel", "deep"] spComb := by
  have G_law_draw : FnOk P w K mg base CX0 1 T.a_law_draw T.fd_law_draw ["reel", "size"] spDraw := ok_draw T
  refine T.F_law_comb.ok sc_law_comb (fun vs H Q E h => ?_) (fun cdv A outer s H vs Q E hr h => ?_)
  · obtain ⟨r, n, rfl, _⟩ := h
    rfl
  · have hr_law_draw : Room 1 _ := hr
    obtain ⟨r, n, rfl, hR, hn, q⟩ := h
    refine ⟨_, (pss_cons (ps_set (i := 2) sc_law_comb.nd rfl (.inl rfl) (pe_cmpR op_eq (pe_call G_law_draw hr_law_draw (by rfl) T.g_law_draw T.F_law_draw.kp T.b_law_draw .nil pass0 (pa_cons (pv 0) (pa_cons pe_int pa_nil))) pe_int (nomark _)))
      (pss_cons (ps_set (i := 3) sc_law_comb.nd rfl (.inl rfl) (pe_lst (pa_cons pe_int pa_nil)))
      (pss_cons (ps_for PassesOwn.never rfl (pi_range1 (by rfl) T.m_range (pa_cons (pv 1) pa_nil)) (pg_name (i := 4) sc_law_comb.nd rfl (.inl rfl)) (pss_cons (ps_expr (pe_bm PySem.F.plainAttrs_list PySem.F.slot_list_append PySem.F.type_list_append mt_append (pv 3) (pa_cons (pe_op op_add (pv 4) pe_int) pa_nil)))
      (pss_one (ps_if (pt_val (pv 2)) (pss_one (ps_expr (pe_bm PySem.F.plainAttrs_list PySem.F.slot_list_append PySem.F.type_list_append mt_append (pv 3) (pa_cons (pe_op op_add (pv 4) pe_int) pa_nil)))) pss_nil))))
      (pss_cons (ps_if (pt_not (pt_val (pv 2))) (pss_one (ps_for PassesOwn.never rfl (pi_range1 (by rfl) T.m_range (pa_cons (pv 1) pa_nil)) (pg_name (i := 4) sc_law_comb.nd rfl (.inl rfl)) (pss_one (ps_expr (pe_bm PySem.F.plainAttrs_list PySem.F.slot_list_append PySem.F.type_list_append mt_append (pv 3) (pa_cons (pe_op op_sub (pv 1) (pv 4)) pa_nil)))))) pss_nil)
      (pss_one (ps_ret (pv 3))))))), ?_⟩
    refine ⟨_, rfl, r, 2, rfl, hR, by decide, fun v H1 v0 v1 b1 R1 => ⟨rfl, ?_⟩⟩
    refine ⟨by show 1 ≤ sizeLine; decide, fun l nl => ?_⟩
    have hlr : l ≠ r := (R1.ne nl).symm
    have nl0 : H l = none := b1.free hlr nl
    obtain ⟨b, hb⟩ : ∃ b, b = decide (V.int v = V.int 1) := ⟨_, rfl⟩
    rw [← hb]
    have app : ∀ {H' : Hp} {L : List Int} {x : Int}, LevsAt H' l L → LevsAt (upd H' l (.lst (L.map V.int ++ [V.int x]))) l (L ++ [x]) := fun _ => by
      unfold LevsAt
      rw [upd_same, List.map_append]
      rfl
    refine ⟨_, rfl, _, rfl, by omega, by omega, ?_⟩
    refine for_range (lo := 0) (n := (n : Int).toNat) (fun i σ H' => But r H H' ∧ ReelAt H' r ∧ ∃ (L : List Int) (y4 : Option V), σ = [some (.ref r), some (.int (n : Int)), some (.bl b), some (.ref l), y4] ∧ LevsAt H' l L ∧ LevE L (i : Int) ∧ L.length = (if b = true then 2 * i + 1 else i + 1))
      ⟨b1.updN nl0, R1.updN hlr, [0], none, rfl, upd_same, LevE.zero, by split <;> decide⟩ ?_ ?_
    · rintro i σ H' hi ⟨b2, R2, L, y4, rfl, hl, hL, lL⟩
      have lb : L.length ≤ 5000 := by
        split at lL <;> omega
      have ei : (0 : Int) + (i : Int) + 1 = ((i + 1 : Nat) : Int) := by omega
      have h1 : LevE (L ++ [((i + 1 : Nat) : Int)]) ((i + 1 : Nat) : Int) := hL.more (by omega) (by omega)
      refine ⟨_, rfl, .inl ⟨rfl, _, SqL.of hl⟩, _, rfl, _, _, rfl, rfl, l, _, _, rfl, rfl, hl, sz2 (by rw [List.length_map]; omega), ?_⟩
      have e1 : (fun i j : Int => V.int (i + j)) (0 + (i : Int)) 1 = V.int ((i + 1 : Nat) : Int) := congrArg V.int ei
      rw [e1]
      have l1 := app (x := ((i + 1 : Nat) : Int)) hl
      refine ⟨_, rfl, b, rfl, ?_⟩
      cases b with
      | true =>
        refine iteT ?_
        have h2 : LevE (L ++ [((i + 1 : Nat) : Int)] ++ [((i + 1 : Nat) : Int)]) ((i + 1 : Nat) : Int) := h1.more (by omega) (by omega)
        refine ⟨_, rfl, .inl ⟨rfl, _, SqL.of l1⟩, _, rfl, _, _, rfl, rfl, l, _, _, rfl, rfl, l1, sz2 (by rw [List.length_map, List.length_append]; have : ([((i + 1 : Nat) : Int)] : List Int).length = 1 := rfl; omega), ?_⟩
        rw [e1]
        refine ⟨(b2.updN nl0).updN nl0, (R2.updN hlr).updN hlr, _, _, rfl, app l1, h2, ?_⟩
        rw [if_pos rfl] at lL ⊢
        rw [List.length_append, List.length_append]
        have : ([((i + 1 : Nat) : Int)] : List Int).length = 1 := rfl
        omega
      | false =>
        refine iteF ?_
        refine ⟨b2.updN nl0, R2.updN hlr, _, _, rfl, l1, h1, ?_⟩
        rw [if_neg (by decide)] at lL ⊢
        rw [List.length_append]
        have : ([((i + 1 : Nat) : Int)] : List Int).length = 1 := rfl
        omega
    · rintro σ H' ⟨b2, R2, L, y4, rfl, hl, hL, lL⟩
      rw [show (n : Int).toNat = n by omega] at hL lL
      refine ⟨_, rfl, b, rfl, ?_⟩
      cases b with
      | true =>
        rw [if_pos rfl] at lL
        refine iteF ?_
        exact ⟨_, rfl, q l L H' hl hL.1 lL nl0 b2 R2⟩
      | false =>
        rw [if_neg (by decide)] at lL
        refine iteT ?_
        refine ⟨_, rfl, _, rfl, by omega, by omega, ?_⟩
        refine for_range (lo := 0) (n := (n : Int).toNat) (fun i σ H' => But r H H' ∧ ReelAt H' r ∧ ∃ (L : List Int) (y4 : Option V) (a : Int), σ = [some (.ref r), some (.int (n : Int)), some (.bl false), some (.ref l), y4] ∧ LevsAt H' l L ∧ LevE L a ∧ (n : Int) - (i : Int) ≤ a + 1 ∧ L.length = n + 1 + i)
          ⟨b2, R2, L, y4, _, rfl, hl, hL, by omega, by omega⟩ ?_ ?_
        · rintro i σ H' hi ⟨b2, R2, L, y4, a, rfl, hl, hL, ha, lL⟩
          have e1 : (fun i j : Int => V.int (i - j)) (n : Int) (0 + (i : Int)) = V.int ((n : Int) - (i : Int)) := congrArg V.int (by omega)
          refine ⟨_, rfl, .inl ⟨rfl, _, SqL.of hl⟩, _, rfl, _, rfl, _, _, rfl, rfl, l, _, _, rfl, rfl, hl, sz2 (by rw [List.length_map]; omega), ?_⟩
          rw [e1]
          refine ⟨b2.updN nl0, R2.updN hlr, _, _, _, rfl, app hl, hL.more (by omega) ha, by omega, ?_⟩
          rw [List.length_append]
          have : ([(n : Int) - (i : Int)] : List Int).length = 1 := rfl
          omega
        · rintro σ H' ⟨b2, R2, L, y4, a, rfl, hl, hL, ha, lL⟩
          exact ⟨_, rfl, q l L H' hl hL.1 (by omega) nl0 b2 R2⟩
theorem ok_levels (T : Txt K mg) : FnOk P w K mg base CX0 3 T.a_law_levels T.fd_law_levels ["reel"] (spLevs 50) := by
  have G_law_pick : FnOk P w K mg base CX0 2 T.a_law_pick T.fd_law_pick ["reel", "row"] (spPick K) := ok_pick T
  refine T.F_law_levels.ok sc_law_levels (fun vs H Q E h => ?_) (fun cdv A outer s H vs Q E hr h => ?_)
  · obtain ⟨r, rfl, _⟩ := h
    rfl
  · have hr_law_pick : Room 2 _ := hr
    obtain ⟨r, rfl, hR, q⟩ := h
    refine ⟨_, (pss_cons (ps_set (i := 1) sc_law_levels.nd rfl (.inl rfl) (pe_lst (pa_cons pe_int pa_nil)))
      (pss_cons (ps_set (i := 2) sc_law_levels.nd rfl (.inl rfl) (pe_call G_law_pick hr_law_pick (by rfl) T.g_law_pick T.F_law_pick.kp T.b_law_pick .nil pass0 (pa_cons (pv 0) (pa_cons (pe_lst (pa_cons pe_int (pa_cons pe_int (pa_cons pe_int (pa_cons pe_int (pa_cons pe_int (pa_cons pe_int (pa_cons pe_int (pa_cons pe_int (pa_cons pe_int (pa_cons pe_int (pa_cons pe_int (pa_cons pe_int (pa_cons pe_int pa_nil)))))))))))))) pa_nil))))
      (pss_cons (ps_for PassesOwn.never rfl (pi_range1 (by rfl) T.m_range (pa_cons (pv 2) pa_nil)) (pg_name (i := 3) sc_law_levels.nd rfl (.inl rfl)) (pss_cons (ps_set (i := 4) sc_law_levels.nd rfl (.inl rfl) (pe_call G_law_pick hr_law_pick (by rfl) T.g_law_pick T.F_law_pick.kp T.b_law_pick .nil pass0 (pa_cons (pv 0) (pa_cons (pe_lst (pa_cons pe_int (pa_cons pe_int (pa_cons pe_int (pa_cons pe_int (pa_cons pe_int (pa_cons pe_int (pa_cons pe_int (pa_cons pe_int pa_nil))))))))) pa_nil))))
      (pss_one (ps_expr (pe_bm PySem.F.plainAttrs_list PySem.F.slot_list_append PySem.F.type_list_append mt_append (pv 1) (pa_cons (pe_callB (call_max2 rfl) (by rfl) T.m_max (by decide +kernel) (pa_cons pe_int (pa_cons (pe_callB (call_min2 rfl) (by rfl) T.m_min (by decide +kernel) (pa_cons pe_int (pa_cons (pe_op op_sub (pe_op op_add (pe_ix ix_list (pv 1) (pv 3) (fun _ _ => rfl)) pe_int) (pv 4)) pa_nil))) pa_nil))) pa_nil))))))
      (pss_one (ps_ret (pv 1)))))), ?_⟩
    refine ⟨by show 1 ≤ sizeLine; decide, fun l nl => ?_⟩
    have hlr : l ≠ r := (hR.ne nl).symm
    refine ⟨_, rfl, by show 13 ≤ sizeLine; decide, fun p np => ?_⟩
    have hpr : p ≠ r := ((hR.new nl).ne np).symm
    have hl0 : (upd H l (.lst [.int 0])) l = some (.lst [.int 0]) := upd_same
    have hpl : l ≠ p := ne_of_none hl0 np
    refine ⟨r, _, rfl, (hR.new nl).new np, .inr ⟨p, _, rfl, hpr, SqL.of upd_same, by show 0 < 13; decide, fun v H1 hv b1 R1 => ?_⟩⟩
    obtain ⟨n, rfl, n0, n1⟩ := intsIn_mem (lo := 0) (hi := 39) (by decide +kernel) v hv
    have bb : But r H H1 := ((But.new nl).trans (But.new np)).trans b1
    have hl1 : LevsAt H1 l [0] := b1 _ _ hlr (by rw [upd_ne hpl]; exact upd_same)
    refine ⟨_, rfl, _, rfl, by omega, by omega, ?_⟩
    refine for_range (lo := 0) (n := n.toNat) (fun i σ H' => But r H H' ∧ ReelAt H' r ∧ ∃ (L : List Int) (y3 y4 : Option V) (a : Int), σ = [some (.ref r), some (.ref l), some (.int n), y3, y4] ∧ LevsAt H' l L ∧ LevE L a ∧ a ≤ 12 ∧ L.length = i + 1)
      ⟨bb, R1, [0], none, none, 0, rfl, hl1, LevE.zero, by decide, rfl⟩ ?_ ?_
    · rintro i σ H2 hi ⟨b2, R2, L, y3, y4, a, rfl, hl, hL, ha, lL⟩
      refine ⟨_, rfl, by show 8 ≤ sizeLine; decide, fun p2 np2 => ?_⟩
      have hpr2 : p2 ≠ r := (R2.ne np2).symm
      have hpl2 : l ≠ p2 := ne_of_none hl np2
      refine ⟨r, _, rfl, R2.new np2, .inr ⟨p2, _, rfl, hpr2, SqL.of upd_same, by show 0 < 8; decide, fun v H3 hv b3 R3 => ?_⟩⟩
      obtain ⟨d, rfl, d0, d1⟩ := intsIn_mem (lo := 0) (hi := 12) (by decide +kernel) v hv
      have hl3 : LevsAt H3 l L := b3 _ _ hlr (by rw [upd_ne hpl2]; exact hl)
      have b03 : But r H H3 := b2.trans ((But.new np2).trans b3)
      obtain ⟨L', eL⟩ := hL.2
      have ga := hL.ge
      have at1 : atI (L.map V.int) (0 + (i : Int)) = some (.int a) := by
        rw [show (0 : Int) + (i : Int) = (i : Int) by omega]
        refine atI_nat ?_
        rw [List.getElem?_map, eL, List.getElem?_append_right (by rw [eL, List.length_append, List.length_singleton] at lL; omega)]
        rw [eL, List.length_append, List.length_singleton] at lL
        rw [show i - L'.length = 0 by omega]
        rfl
      refine ⟨_, rfl, .inl ⟨rfl, _, SqL.of hl3⟩, ?_⟩
      refine ⟨_, rfl, _, rfl, l, _, _, _, rfl, rfl, SqL.of hl3, at1, _, _, rfl, rfl, _, rfl, _, _, rfl, rfl, _, _, rfl, _, _, rfl, l, _, _, rfl, rfl, hl3, sz2 (by rw [List.length_map]; omega), ?_⟩
      obtain ⟨x, hx⟩ : ∃ x : Int, x = (if (if a + 1 - d < 12 then a + 1 - d else 12) > 1 then (if a + 1 - d < 12 then a + 1 - d else 12) else 1) := ⟨_, rfl⟩
      have h1 : 1 ≤ x := by
        rw [hx]
        split <;> omega
      have h2 : x ≤ a + 1 := by
        rw [hx]
        split
        · split <;> omega
        · omega
      have h3 : x ≤ 12 := by
        rw [hx]
        split
        · split <;> omega
        · omega
      rw [← hx]
      refine ⟨b03.updN nl, R3.updN hlr, L ++ [x], _, _, x, rfl, ?_, hL.more h1 h2, h3, ?_⟩
      · unfold LevsAt
        rw [upd_same, List.map_append]
        rfl
      · rw [List.length_append, lL]
        rfl
    · rintro σ H2 ⟨b2, R2, L, y3, y4, a, rfl, hl, hL, ha, lL⟩
      exact ⟨_, rfl, q l L H2 hl hL.1 (by omega) (by exact nl) b2 R2⟩

def numsV (d : Nd) : List V := [.int d.st, .int d.lead, .int d.wid, .int d.look, .int d.alt, .int d.pop]
def rwV (r : Rw) : List V := .int r.1 :: .str r.2.kind :: .str r.2.sym :: numsV r.2
def RwAt (H : Hp) (v : V) (r : Rw) : Prop := ∃ g, v = .ref g ∧ H g = some (.tup (rwV r))
theorem RwAt.tups {H H' : Hp} (t : Tups H H') {v : V} {r : Rw} (h : RwAt H v r) : RwAt H' v r := by
  obtain ⟨g, e, k⟩ := h
  exact ⟨g, e, t _ _ k⟩

def Ts (tt : L2.TT) (σ : L2.St) (H : Hp) (A : Prop) : Prop := ∀ Q : Bool → Hp → Prop, (∀ c, (c = true ↔ A) → Q c H) → tt σ H Q
theorem Ts.imp {tt : L2.TT} {σ : L2.St} {H : Hp} {A B : Prop} (h : Ts tt σ H A) (e : A ↔ B) : Ts tt σ H B := fun Q q => h Q fun c i => q c (i.trans e)
theorem Ts.and {t u : L2.TT} {σ : L2.St} {H : Hp} {A B : Prop} (a : Ts t σ H A) (b : A → Ts u σ H B) : Ts (tAnd t u) σ H (A ∧ B) := fun Q q => a _ fun c i => by
  cases c
  · exact iteF (q false ⟨fun h => (by cases h), fun h => i.mpr h.1⟩)
  · exact iteT (b (i.mp rfl) _ fun d j => q d ⟨fun h => ⟨i.mp rfl, j.mp h⟩, fun h => j.mpr h.2⟩)
theorem Ts.or {t u : L2.TT} {σ : L2.St} {H : Hp} {A B : Prop} (a : Ts t σ H A) (b : ¬ A → Ts u σ H B) : Ts (tOr t u) σ H (A ∨ B) := fun Q q => a _ fun c i => by
  cases c
  · exact iteF (b (fun h => by cases i.mpr h) _ fun d j => q d ⟨fun h => .inr (j.mp h), fun h => j.mpr (h.resolve_left fun h => by cases i.mpr h)⟩)
  · exact iteT (q true ⟨fun _ => .inl (i.mp rfl), fun _ => rfl⟩)
theorem Ts.not {t : L2.TT} {σ : L2.St} {H : Hp} {A : Prop} (a : Ts t σ H A) : Ts (tNot t) σ H (¬ A) := fun Q q => a _ fun c i => q (!c) (by
  cases c
  · exact ⟨fun _ h => (by cases i.mpr h), fun _ => rfl⟩
  · exact ⟨fun h => (by cases h), fun h => absurd (i.mp rfl) h⟩)
theorem ts_if {tt : L2.TT} {a c : L2.TS} {D : L2.Ends} {σ : L2.St} {H : Hp} {A : Prop} (h : Ts tt σ H A) (ha : A → a { D with nx := fun σ2 H2 => c D σ2 H2 } σ H) (hb : ¬ A → c D σ H) : tSeq (tIfS tt a tNext) c D σ H := h _ fun b i => by
  cases b
  · exact iteF (hb fun h => by cases i.mpr h)
  · exact iteT (ha (i.mp rfl))
theorem ts_ite {tt : L2.TT} {a b : L2.TS} {D : L2.Ends} {σ : L2.St} {H : Hp} {A : Prop} (h : Ts tt σ H A) (ha : A → a D σ H) (hb : ¬ A → b D σ H) : tIfS tt a b D σ H := h _ fun b i => by
  cases b
  · exact iteF (hb fun h => by cases i.mpr h)
  · exact iteT (ha (i.mp rfl))
theorem ts_eqI {i : Nat} {m z : Int} {σ : L2.St} {H : Hp} (h : σ[i]? = some (some (.int m))) : Ts (tTest (tOp rEq (tVar i) (tC (V.int z)))) σ H (m = z) := fun Q q => ⟨_, h, rfl, _, rfl, q _ (by
  rw [decide_eq_true_eq]
  exact ⟨fun e => by injection e, fun e => by rw [e]⟩)⟩
theorem ts_ltI {i : Nat} {m z : Int} {σ : L2.St} {H : Hp} (h : σ[i]? = some (some (.int m))) : Ts (tTest (tOp (rI0 fun i j => .bl (decide (i < j))) (tVar i) (tC (V.int z)))) σ H (m < z) := fun Q q => ⟨_, h, _, _, rfl, rfl, _, rfl, q _ decide_eq_true_iff⟩
theorem ts_gtI {i : Nat} {m z : Int} {σ : L2.St} {H : Hp} (h : σ[i]? = some (some (.int m))) : Ts (tTest (tOp (rI0 fun i j => .bl (decide (j < i))) (tVar i) (tC (V.int z)))) σ H (z < m) := fun Q q => ⟨_, h, _, _, rfl, rfl, _, rfl, q _ decide_eq_true_iff⟩

theorem pe_fldK {X : Cx} {K : PySem.W.Frag} {e : Expr} {ta : TE} {f : Str} {pos : Pos} (h : X.K = K) (he : PE X e ta) (hb : attributeBase e f X.env (eval e X.env) = eval e X.env) : PE X (.Attribute e f pos) (tFld K ta f) := by
  subst h
  exact pe_fld he hb

/-! ### rows, with no more told of them than their levels -/
structure RowsAt (H : Hp) (l : Addr) (rows : List Rw) : Prop where
  ex : ∃ us, H l = some (.lst us) ∧ Paired (RwAt H) us rows
  lev : Lev (rows.map Prod.fst)
  any : True

/-! ### the tree of rows -/
theorem while_nat {c : L2.TT} {tb : L2.TS} {D : L2.Ends} {σ : L2.St} {H : Hp} (Pv : Nat → L2.St → Hp → Prop) (Ex : L2.St → Hp → Prop) {m0 : Nat} (h0 : Pv m0 σ H)
    (hs : ∀ m σ H, Pv m σ H → ∃ b : Bool, (∀ Q : Bool → Hp → Prop, Q b H → c σ H Q) ∧ (b = true → tb { D with nx := fun σ' H' => ∃ m', m' < m ∧ Pv m' σ' H', ct := fun σ' H' => ∃ m', m' < m ∧ Pv m' σ' H', bk := D.nx } σ H) ∧ (b = false → Ex σ H)) (hd : ∀ σ H, Ex σ H → D.nx σ H) : tWhile c tb D σ H := by
  refine ⟨fun m σ H => Pv m σ H, ⟨_, h0⟩, ?_⟩
  rintro m σ H p
  obtain ⟨b, h1, h2, h3⟩ := hs m σ H p
  refine h1 _ ?_
  cases b with
  | true => exact ⟨_, fun σ' H' h => h, h2 rfl⟩
  | false => exact hd _ _ (h3 rfl)
theorem d_if {v : V} {σ : L2.St} {H : Hp} {tt : L2.TT} {a b : L2.TS} {D : L2.Ends} {r : VK} {k c : L2.St → Hp → Prop} (h : tIfS tt a b D σ H) : (fun (_ : V) H1 => Ends.nx ⟨tIfS tt a b D, r, k, c⟩ σ H1) v H := h
theorem Keeps.lst {K : PySem.W.Frag} {C : Addr} {H : Hp} {p : Addr} {xs : List V} {o : HO} (h : H p = some (.lst xs)) : Keeps K C H (upd H p o) :=
  ⟨fun q dx d tp e => by rw [upd_ne (fun z => by rw [z, h] at e; cases e)]; exact e, fun tp us e => by
    rcases e with (e | ⟨x, e⟩) | e
    · exact .inl (.inl (by rw [upd_ne (fun z => by rw [z, h] at e; cases e)]; exact e))
    · exact .inl (.inr ⟨x, by rw [upd_ne (fun z => by rw [z, h] at e; cases e)]; exact e⟩)
    · exact .inr e⟩
theorem take_while_is {α : Type} {f : α → Bool} : ∀ {a b : List α}, (∀ x ∈ a, f x = true) → (∀ x, b.head? = some x → f x = false) → (a ++ b).takeWhile f = a ∧ (a ++ b).dropWhile f = b
  | [], [], _, _ => ⟨rfl, rfl⟩
  | [], y :: b, _, h => by
    have hy := h y rfl
    exact ⟨by rw [List.nil_append, List.takeWhile_cons, hy]; rfl, by rw [List.nil_append, List.dropWhile_cons, hy]; rfl⟩
  | x :: a, b, h1, h2 => by
    have ih := take_while_is (a := a) (b := b) (fun y hy => h1 y (List.mem_cons_of_mem _ hy)) h2
    have hx := h1 x List.mem_cons_self
    exact ⟨by rw [List.cons_append, List.takeWhile_cons, hx, if_pos rfl, ih.1], by rw [List.cons_append, List.dropWhile_cons, hx, if_pos rfl, ih.2]⟩
theorem drop_at {α : Type} {x : α} : ∀ {xs : List α} {k : Nat}, xs[k]? = some x → xs.drop k = x :: xs.drop (k + 1)
  | y :: xs, 0, h => by
    obtain rfl : y = x := by simpa using h
    rfl
  | y :: xs, k + 1, h => drop_at (xs := xs) (k := k) (by simpa using h)
theorem set_rep {α : Type} {a x : α} : ∀ (k : Nat) (xs ys : List α), (List.replicate (k + 1) a ++ xs).set k x = List.replicate k a ++ x :: xs
  | 0, _, _ => rfl
  | k + 1, xs, ys => by
    have ih := set_rep (a := a) (x := x) k xs ys
    show a :: (List.replicate (k + 1) a ++ xs).set k x = a :: (List.replicate k a ++ x :: xs)
    rw [ih]
def rasOf (rows : List Rw) (as : List Addr) : List Ra := (rows.zip as).map fun x => (x.1.1, x.1.2, x.2)
theorem rg_down {n : Nat} (h : n ≤ 4000000) : RgC ((n : Int) - 1) (-1) (-1) n := by
  have e := RgC.neg (i := (n : Int) - 1) (j := -1) (by omega) (by omega) (by omega) (by omega)
  rwa [show ((n : Int) - 1 - -1).toNat = n by omega] at e
/-- the state of the loop that makes the nodes -/
structure MadeSt (K : PySem.W.Frag) (C : Addr) (rows : List Rw) (H0 : Hp) (m w : Addr) (i : Nat) (as : List Addr) (js : List Nat) (H' : Hp) : Prop where
  same : Same H0 H'
  len : as.length = i
  hm : H' m = some (.lst (List.replicate (rows.length - i) V.non ++ as.map V.ref))
  hw : H' w = some (.lst (js.reverse.map fun (j : Nat) => V.int j))
  pr : Paired (fun (j : Nat) (p : Lt) => (∃ d, rows[j]? = some (p.1, d)) ∧ (List.replicate (rows.length - i) V.non ++ as.map V.ref)[j]? = some (.ref p.2.at)) js (grow (rasOf (rows.drop (rows.length - i)) as))
  nd : ∀ p ∈ grow (rasOf (rows.drop (rows.length - i)) as), NodeAt K C H' p.2
theorem grow_len : ∀ rs : List Ra, (grow rs).length ≤ rs.length
  | [] => Nat.le_refl _
  | r :: rs => by
    have ih := grow_len rs
    have e : ((grow rs).dropWhile fun p => p.1 == r.1 + 1).length ≤ (grow rs).length := (List.dropWhile_sublist _).length_le
    show ((grow rs).dropWhile fun p => p.1 == r.1 + 1).length + 1 ≤ rs.length + 1
    omega
def spMade (K : PySem.W.Frag) (C : Addr) : Sp := fun vs H Q _ => ∃ (l : Addr) (rows : List Rw), vs = [.ref l] ∧ RowsAt H l rows ∧ rows.length ≤ 5000 ∧
  ∀ m as t H', Same H H' → H m = none → H' m = some (.lst (as.map V.ref)) → as.length = rows.length → t.ras 0 = rasOf rows as → NodeAt K C H' t → Q (.ref m) H'
theorem ok_made (T : Txt K mg) : FnOk P w K mg base CX0 3 T.a_law_made T.fd_law_made ["rows"] (spMade K T.C_Node) := by
  have G_Node_init : FnOk P w K mg base CX0 1 T.a_Node_init T.fd_Node_init psN (spNInit K T.C_Node) := ok_Node_init T
  refine T.F_law_made.ok sc_law_made (fun vs H Q E h => ?_) (fun cdv A outer s H vs Q E hr h => ?_)
  · obtain ⟨l, rows, rfl, _⟩ := h
    rfl
  · obtain ⟨l, rows, rfl, ⟨⟨us, hl, hu⟩, lev, ok⟩, ln, q⟩ := h
    have hr_Node_init : Room 2 _ := hr
    refine ⟨_, (pss_cons (ps_set (i := 1) sc_law_made.nd rfl (.inl rfl) (pe_op op_rep (pe_lst (pa_cons pe_non pa_nil)) (pe_callB call_len_seq (by rfl) T.m_len PySem.boot_len (pa_cons (pv 0) pa_nil))))
      (pss_cons (ps_set (i := 2) sc_law_made.nd rfl (.inl rfl) (pe_lst pa_nil))
      (pss_cons (ps_for PassesOwn.never rfl (pi_range3 (by rfl) T.m_range (pa_cons (pe_op op_sub (pe_callB call_len_seq (by rfl) T.m_len PySem.boot_len (pa_cons (pv 0) pa_nil)) pe_int) (pa_cons (pe_un un_neg pe_int) (pa_cons (pe_un un_neg pe_int) pa_nil)))) (pg_name (i := 3) sc_law_made.nd rfl (.inl rfl)) (pss_cons (ps_set (i := 4) sc_law_made.nd rfl (.inl rfl) (pe_ix ix_list (pv 0) (pv 3) (fun _ _ => rfl)))
      (pss_cons (ps_set (i := 5) sc_law_made.nd rfl (.inl rfl) (pe_lst pa_nil))
      (pss_cons (ps_while PassesOwn.never (PW.pt (pw_and (pt_truth (pv 2) (by intro _; rfl)) (pw_and1 (pt_cmpR op_eq (pe_ix ix_tup (pe_ix ix_list (pv 0) (pe_ix ix_list (pv 2) (pe_op op_sub (pe_callB call_len_seq (by rfl) T.m_len PySem.boot_len (pa_cons (pv 2) pa_nil)) pe_int) (fun _ _ => rfl)) (fun _ _ => rfl)) pe_int (fun _ _ => rfl)) (pe_op op_add (pe_ix ix_tup (pv 4) pe_int (fun _ _ => rfl)) pe_int) (nomark _))))) (pss_one (ps_expr (pe_bm PySem.F.plainAttrs_list PySem.F.slot_list_append PySem.F.type_list_append mt_append (pv 5) (pa_cons (pe_ix ix_list (pv 1) (pe_bm0 PySem.F.plainAttrs_list PySem.F.slot_list_pop PySem.F.type_list_pop mt_pop (pv 2)) (fun _ _ => rfl)) pa_nil)))))
      (pss_cons (ps_expr (pe_bm PySem.F.plainAttrs_list PySem.F.slot_list_append PySem.F.type_list_append mt_append (pv 2) (pa_cons (pv 3) pa_nil)))
      (pss_one (ps_if (PW.pt (pw_and (pt_cmpR op_eq (pe_op op_mod (pv 3) pe_int) pe_int (nomark _)) (pw_and (pt_cmpR op_eq (pe_ix ix_tup (pv 4) pe_int (fun _ _ => rfl)) (pe_un un_neg pe_int) (nomark _)) (pw_and (pt_cmpR op_eq (pe_ix ix_tup (pv 4) pe_int (fun _ _ => rfl)) pe_int (nomark _)) (pw_and1 (pt_not (pt_truth (pv 5) (by intro _; rfl)))))))) (pss_one (ps_asg (pe_makeK (n := 2) T.MK_Node G_Node_init hr_Node_init (by rfl) T.G_Node (kb_Node4 T).choose_spec pass0 (pa_cons (pe_ix ix_tup (pv 4) pe_int (fun _ _ => rfl)) (pa_cons (pe_ix ix_tup (pv 4) pe_int (fun _ _ => rfl)) pa_nil)) (pk_cons (pe_ix ix_tup (pv 4) pe_int (fun _ _ => rfl)) (pk_cons (pe_ix ix_tup (pv 4) pe_int (fun _ _ => rfl)) (pk_cons (pe_ix ix_tup (pv 4) pe_int (fun _ _ => rfl)) (pk_cons (pe_ix ix_tup (pv 4) pe_int (fun _ _ => rfl)) pk_nil))))) (pg_sub (pv 1) (pv 3) set_list))) (pss_cons (ps_set (i := 5) sc_law_made.nd rfl (.inl rfl) (pe_callTy call_tuple_of (by rfl) T.m_tuple (by decide +kernel) (pa_cons (pv 5) pa_nil)))
      (pss_one (ps_asg (pe_makeK (n := 2) T.MK_Node G_Node_init hr_Node_init (by rfl) T.G_Node (kb_Node7 T).choose_spec pass0 (pa_cons (pe_ix ix_tup (pv 4) pe_int (fun _ _ => rfl)) (pa_cons (pe_ix ix_tup (pv 4) pe_int (fun _ _ => rfl)) pa_nil)) (pk_cons (pe_ix ix_tup (pv 4) pe_int (fun _ _ => rfl)) (pk_cons (pe_ix ix_tup (pv 4) pe_int (fun _ _ => rfl)) (pk_cons (pe_ix ix_tup (pv 4) pe_int (fun _ _ => rfl)) (pk_cons (pe_ix ix_tup (pv 4) pe_int (fun _ _ => rfl)) (pk_cons (pe_ix ix_tup (pv 4) pe_int (fun _ _ => rfl)) (pk_cons (pv 5) (pk_cons (pe_ix ix_tup (pv 4) pe_int (fun _ _ => rfl)) pk_nil)))))))) (pg_sub (pv 1) (pv 3) set_list)))))))))))
      (pss_one (ps_ret (pv 1)))))), ?_⟩
    have lus := paired_len hu
    refine ⟨by show 1 ≤ sizeLine; decide, fun p np => ?_⟩
    refine ⟨_, rfl, l, us, rfl, .inl (SqL.of ((same_upd np) _ _ hl)), ?_⟩
    rw [lus]
    have en : (List.replicate ((rows.length : Nat) : Int).toNat [V.non]).flatten = List.replicate rows.length V.non := by
      rw [show ((rows.length : Nat) : Int).toNat = rows.length by omega]
      induction rows.length with
      | zero => rfl
      | succ m ih => rw [List.replicate_succ, List.replicate_succ, List.flatten_cons, ih]; rfl
    refine ⟨p, _, _, rfl, rfl, upd_same, by omega, by omega, by show 1 * _ ≤ _; exact Nat.le_trans (show 1 * ((rows.length : Nat) : Int).toNat ≤ 5000 by omega) (by decide), fun m nm => ?_⟩
    rw [en]
    refine ⟨by show 0 ≤ sizeLine; decide, fun w nw => ?_⟩
    have s1 := same_upd (o := .lst [V.non]) np
    have s2 := same_upd (o := .lst (List.replicate rows.length V.non)) nm
    have nm0 : H m = none := s1.free nm
    have nw0 : H w = none := (s1.trans s2).free nw
    have hm0 : (upd (upd H p (.lst [V.non])) m (.lst (List.replicate rows.length V.non))) m = some (.lst (List.replicate rows.length V.non)) := upd_same
    have hmw : m ≠ w := ne_of_none hm0 nw
    have s3 := same_upd (o := .lst []) nw
    have s03 := (s1.trans s2).trans s3
    refine ⟨_, rfl, l, us, rfl, .inl (SqL.of (s03 _ _ hl)), ?_⟩
    rw [lus]
    refine ⟨_, _, rfl, rfl, 1, rfl, 1, rfl, _, _, _, rows.length, rfl, rg_down (by omega), ?_⟩
    refine for_it (walk_rangeC (lo := ((rows.length : Nat) : Int) - 1) (c := -1) (n := rows.length)) (fun i σ H' => i ≤ rows.length ∧ ∃ (as : List Addr) (js : List Nat) (y3 y4 y5 : Option V), σ = [some (.ref l), some (.ref m), some (.ref w), y3, y4, y5] ∧ MadeSt K T.C_Node rows H m w i as js H')
      ⟨Nat.zero_le _, [], [], none, none, none, rfl, s03, rfl, by rw [Nat.sub_zero, List.map_nil, List.append_nil]; exact s3 _ _ hm0, upd_same, ?_, ?_⟩ (fun _ _ _ _ _ => True.intro) ?_ ?_
    · have e : rasOf (rows.drop (rows.length - 0)) [] = [] := by
        unfold rasOf
        rw [List.zip_nil_right]
        rfl
      rw [e]
      exact .nil
    · have e : rasOf (rows.drop (rows.length - 0)) [] = [] := by
        unfold rasOf
        rw [List.zip_nil_right]
        rfl
      rw [e]
      exact fun p hp => absurd hp List.not_mem_nil
    · rintro i x σ H1 H2 hi ⟨_, as, js, y3, y4, y5, rfl, S⟩ ⟨rfl, hxe⟩
      obtain ⟨k, hk⟩ : ∃ k, k = rows.length - 1 - i := ⟨_, rfl⟩
      have ek : ((rows.length : Nat) : Int) - 1 + ((i : Nat) : Int) * -1 = (k : Int) := by omega
      have kn : k < rows.length := by omega
      obtain ⟨rk, hrk⟩ : ∃ r, rows[k]? = some r := ⟨_, List.getElem?_eq_getElem kn⟩
      obtain ⟨x', hx', g, rfl, hg0⟩ := paired_get hu hrk
      have hl2 := S.same _ _ hl
      obtain rfl : x = V.int (k : Int) := hxe.trans (congrArg V.int ek)
      refine ⟨_, rfl, _, rfl, l, us, _, _, rfl, rfl, SqL.of hl2, atI_nat hx', ?_⟩
      refine ⟨by show 0 ≤ sizeLine; decide, fun b nb => ?_⟩
      obtain ⟨G, hG⟩ : ∃ G, G = grow (rasOf (rows.drop (rows.length - i)) as) := ⟨_, rfl⟩
      obtain ⟨M, hM⟩ : ∃ M, M = List.replicate (rows.length - i) V.non ++ as.map V.ref := ⟨_, rfl⟩
      have pr0 := S.pr
      have nd0 := S.nd
      have hm2 := S.hm
      rw [← hG, ← hM] at pr0
      rw [← hG] at nd0
      rw [← hM] at hm2
      have ljs : js.length ≤ 5000 := by
        rw [paired_len pr0, hG]
        have e := grow_len (rasOf (rows.drop (rows.length - i)) as)
        have e2 : (rasOf (rows.drop (rows.length - i)) as).length ≤ rows.length := by
          unfold rasOf
          rw [List.length_map, List.length_zip, List.length_drop]
          omega
        omega
      have sb : Same H2 (upd H2 b (.lst [])) := same_upd nb
      have nb0 : H b = none := S.same.free nb
      have hmb : m ≠ b := ne_of_none hm2 nb
      have hwb : w ≠ b := ne_of_none S.hw nb
      refine while_nat (m0 := G.length) (fun mm σ H' => ∃ (bt rest : List Lt) (js2 : List Nat), σ = [some (.ref l), some (.ref m), some (.ref w), some (.int (k : Int)), some (.ref g), some (.ref b)] ∧ mm = rest.length ∧ G = bt ++ rest ∧ (∀ p ∈ bt, p.1 = rk.1 + 1) ∧
          Same H H' ∧ Keeps K T.C_Node H2 H' ∧ H' m = some (.lst M) ∧ H' w = some (.lst (js2.reverse.map fun (j : Nat) => V.int j)) ∧ H' b = some (.lst (bt.map fun p => V.ref p.2.at)) ∧
          Paired (fun (j : Nat) (p : Lt) => (∃ d, rows[j]? = some (p.1, d)) ∧ M[j]? = some (.ref p.2.at)) js2 rest)
        (fun σ H' => ∃ (bt rest : List Lt) (js2 : List Nat), σ = [some (.ref l), some (.ref m), some (.ref w), some (.int (k : Int)), some (.ref g), some (.ref b)] ∧ G = bt ++ rest ∧ (∀ p ∈ bt, p.1 = rk.1 + 1) ∧ (∀ x, rest.head? = some x → ¬ x.1 = rk.1 + 1) ∧
          Same H H' ∧ Keeps K T.C_Node H2 H' ∧ H' m = some (.lst M) ∧ H' w = some (.lst (js2.reverse.map fun (j : Nat) => V.int j)) ∧ H' b = some (.lst (bt.map fun p => V.ref p.2.at)) ∧
          Paired (fun (j : Nat) (p : Lt) => (∃ d, rows[j]? = some (p.1, d)) ∧ M[j]? = some (.ref p.2.at)) js2 rest)
        ⟨[], G, js, rfl, rfl, rfl, fun p hp => absurd hp List.not_mem_nil, S.same.trans sb, Keeps.of sb, sb _ _ hm2, sb _ _ S.hw, upd_same, pr0⟩ ?_ ?_
      · rintro mm σ H3 ⟨bt, rest, js2, rfl, rfl, eG, hbt, sm3, kp3, hm3, hw3, hb3, pr3⟩
        have hl3 := sm3 _ _ hl
        have hg3 := sm3 _ _ hg0
        have lpr := paired_len pr3
        have lj2 : js2.length ≤ js.length := by
          have e1 := paired_len pr0
          rw [eG, List.length_append] at e1
          omega
        have hk0 : atI (rwV rk) 0 = some (.int rk.1) := rfl
        cases rest with
        | nil =>
          obtain rfl : js2 = [] := List.eq_nil_of_length_eq_zero (by rw [lpr]; rfl)
          refine ⟨false, fun Q hQ => ?_, fun z => (by cases z), fun _ => ?_⟩
          · exact ⟨_, rfl, false, .inl ⟨_, SqL.of hw3, rfl⟩, iteF hQ⟩
          · exact ⟨bt, [], [], rfl, eG, hbt, fun x hx => (by cases hx), sm3, kp3, hm3, hw3, hb3, .nil⟩
        | cons pt rest =>
          obtain ⟨j, js2, rfl⟩ : ∃ j js', js2 = j :: js' := by
            cases js2 with
            | nil => cases lpr
            | cons j js' => exact ⟨j, js', rfl⟩
          obtain ⟨⟨d, hrj⟩, hMj⟩ : (∃ d, rows[j]? = some (pt.1, d)) ∧ M[j]? = some (.ref pt.2.at) := by
            cases pr3 with
            | cons h t => exact h
          obtain ⟨xj, hxj, gj, rfl, hgj0⟩ := paired_get hu hrj
          have hgj := sm3 _ _ hgj0
          have wl : ((j :: js2).reverse.map fun (j : Nat) => V.int j).length = js2.length + 1 := by
            rw [List.length_map, List.length_reverse, List.length_cons]
          have wlast : atI ((j :: js2).reverse.map fun (j : Nat) => V.int j) ((js2.length + 1 : Nat) - 1 : Int) = some (.int (j : Int)) := by
            rw [show ((js2.length + 1 : Nat) : Int) - 1 = (js2.length : Int) by omega]
            refine atI_nat ?_
            rw [List.getElem?_map, List.reverse_cons, List.getElem?_append_right (by rw [List.length_reverse]; exact Nat.le_refl _), List.length_reverse, Nat.sub_self]
            rfl
          refine ⟨decide (pt.1 = rk.1 + 1), fun Q hQ => ?_, fun c => ?_, fun c => ?_⟩
          · refine ⟨_, rfl, true, .inl ⟨_, SqL.of hw3, ?_⟩, iteT ?_⟩
            · rw [List.reverse_cons, List.map_append]
              simp
            refine ⟨_, rfl, _, rfl, _, rfl, w, _, rfl, .inl (SqL.of hw3), ?_⟩
            rw [wl]
            refine ⟨_, _, rfl, rfl, w, _, _, _, rfl, rfl, SqL.of hw3, wlast, l, us, _, _, rfl, rfl, SqL.of hl3, atI_nat hxj, gj, _, 0, .int pt.1, rfl, rfl, SqT.of hgj, rfl, ?_⟩
            refine ⟨_, rfl, g, _, 0, .int rk.1, rfl, rfl, SqT.of hg3, rfl, _, _, rfl, rfl, rfl, ?_⟩
            have e : decide (V.int pt.1 = (fun i j : Int => V.int (i + j)) rk.1 1) = decide (pt.1 = rk.1 + 1) := decide_eq_decide.mpr ⟨fun h => by injection h, fun h => by rw [h]⟩
            refine ⟨_, rfl, ?_⟩
            rw [e]
            exact hQ
          · have c := of_decide_eq_true c
            have bl : bt.length + (pt :: rest).length = G.length := by rw [eG, List.length_append]
            have lG := paired_len pr0
            have b1 : (bt.map fun p => V.ref p.2.at).length ≤ 5000 := by
              rw [List.length_map]
              omega
            have wrev : ((j :: js2).reverse.map fun (j : Nat) => V.int j) = (js2.reverse.map fun (j : Nat) => V.int j) ++ [V.int j] := by
              rw [List.reverse_cons, List.map_append]
              rfl
            have hb3' := hb3
            rw [wrev] at hw3
            have gl : ((js2.reverse.map fun (j : Nat) => V.int j) ++ [V.int (j : Int)])[((js2.reverse.map fun (j : Nat) => V.int j) ++ [V.int (j : Int)]).length - 1]? = some (V.int (j : Int)) := by
              rw [List.length_append, List.length_singleton, Nat.add_sub_cancel, List.getElem?_append_right (Nat.le_refl _), Nat.sub_self]
              rfl
            refine ⟨_, rfl, .inl ⟨rfl, _, SqL.of hb3⟩, _, rfl, _, rfl, .inl ⟨rfl, _, SqL.of hw3⟩, w, _, .int (j : Int), rfl, rfl, hw3, gl, ?_⟩
            rw [List.dropLast_concat]
            have hm4 : (upd H3 w (.lst (js2.reverse.map fun (j : Nat) => V.int j))) m = some (.lst M) := by rw [upd_ne hmw]; exact hm3
            have hb4 : (upd H3 w (.lst (js2.reverse.map fun (j : Nat) => V.int j))) b = some (.lst (bt.map fun p => V.ref p.2.at)) := by rw [upd_ne hwb.symm]; exact hb3
            refine ⟨m, M, _, _, rfl, rfl, SqL.of hm4, atI_nat hMj, b, _, _, rfl, rfl, hb4, sz2 (by omega), ?_⟩
            refine ⟨rest.length, Nat.lt_succ_self _, bt ++ [pt], rest, js2, rfl, rfl, by rw [eG, List.append_assoc]; rfl, fun p hp => ?_, same_mut (same_mut sm3 nw0) nb0, kp3.trans ((Keeps.lst hw3).trans (Keeps.lst hb4)), ?_, ?_, ?_, ?_⟩
            · rcases List.mem_append.mp hp with h | h
              · exact hbt p h
              · rw [List.mem_singleton.mp h]
                exact c
            · rw [upd_ne hmb]
              exact hm4
            · rw [upd_ne hwb]
              exact upd_same
            · rw [upd_same, List.map_append]
              rfl
            · cases pr3 with
              | cons h t => exact t
          · exact ⟨bt, pt :: rest, j :: js2, rfl, eG, hbt, fun x hx => by obtain rfl : pt = x := Option.some.inj hx; exact of_decide_eq_false c, sm3, kp3, hm3, hw3, hb3, pr3⟩
      · rintro σ H3 ⟨bt, rest, js2, rfl, eG, hbt, hrest, sm3, kp3, hm3, hw3, hb3, pr3⟩
        have lpr := paired_len pr3
        have l2 : js2.length ≤ 5000 := by
          have e1 := paired_len pr0
          rw [eG, List.length_append] at e1
          omega
        obtain ⟨lk, d⟩ := rk
        refine ⟨_, rfl, .inl ⟨rfl, _, SqL.of hw3⟩, _, rfl, w, _, _, rfl, rfl, hw3, sz2 (by rw [List.length_map, List.length_reverse]; omega), ?_⟩
        have wk : ((js2.reverse.map fun (j : Nat) => V.int j) ++ [V.int (k : Int)]) = ((k :: js2).reverse.map fun (j : Nat) => V.int j) := by
          rw [List.reverse_cons, List.map_append]
          rfl
        rw [wk]
        obtain ⟨H4, hH4⟩ : ∃ H4, H4 = upd H3 w (.lst ((k :: js2).reverse.map fun (j : Nat) => V.int j)) := ⟨_, rfl⟩
        rw [← hH4]
        have hm4 : H4 m = some (.lst M) := by rw [hH4, upd_ne hmw]; exact hm3
        have hw4 : H4 w = some (.lst ((k :: js2).reverse.map fun (j : Nat) => V.int j)) := by rw [hH4]; exact upd_same
        have hb4 : H4 b = some (.lst (bt.map fun p => V.ref p.2.at)) := by rw [hH4, upd_ne hwb.symm]; exact hb3
        have sm4 : Same H H4 := by rw [hH4]; exact same_mut sm3 nw0
        have kp4 : Keeps K T.C_Node H2 H4 := by rw [hH4]; exact kp3.trans (Keeps.lst hw3)
        have hg4 := sm4 _ _ hg0
        have at_ : ∀ (n : Nat) (v : V), (rwV (lk, d))[n]? = some v → atI (rwV (lk, d)) (n : Int) = some v := fun n v h => atI_nat h
        have tail : ∀ (x : Addr) (H5 : Hp), Same H4 H5 → NodeAt K T.C_Node H5 (.mk x d (bt.map Prod.snd)) → MadeSt K T.C_Node rows H m w (i + 1) (x :: as) (k :: js2) (upd H5 m (.lst (M.set k (.ref x)))) := fun x H5 s5 nx => by
          have hm5 := s5 _ _ hm4
          have kp5 : Keeps K T.C_Node H2 (upd H5 m (.lst (M.set k (.ref x)))) := kp4.trans ((Keeps.of s5).trans (Keeps.lst hm5))
          have edrop : rows.drop (rows.length - (i + 1)) = (lk, d) :: rows.drop (rows.length - i) := by
            rw [show rows.length - (i + 1) = k by omega, show rows.length - i = k + 1 by omega]
            exact drop_at hrk
          have eras : rasOf (rows.drop (rows.length - (i + 1))) (x :: as) = (lk, d, x) :: rasOf (rows.drop (rows.length - i)) as := by
            rw [edrop]
            rfl
          have tw := take_while_is (f := fun p : Lt => p.1 == lk + 1) (a := bt) (b := rest) (fun p hp => by simpa using hbt p hp) (fun p hp => by simpa using hrest p hp)
          have eg : grow (rasOf (rows.drop (rows.length - (i + 1))) (x :: as)) = (lk, .mk x d (bt.map Prod.snd)) :: rest := by
            rw [eras]
            show (lk, Tr.mk x d (((grow (rasOf (rows.drop (rows.length - i)) as)).takeWhile fun p => p.1 == lk + 1).map Prod.snd)) :: ((grow (rasOf (rows.drop (rows.length - i)) as)).dropWhile fun p => p.1 == lk + 1) = _
            rw [← hG, eG, tw.1, tw.2]
          have eM : M.set k (.ref x) = List.replicate (rows.length - (i + 1)) V.non ++ (x :: as).map V.ref := by
            rw [hM, show rows.length - i = k + 1 by omega, show rows.length - (i + 1) = k by omega]
            exact set_rep k _ []
          have Mk : M[k]? = some V.non := by
            rw [hM, show rows.length - i = k + 1 by omega, List.getElem?_append_left (by rw [List.length_replicate]; omega), List.getElem?_replicate, if_pos (Nat.lt_succ_self _)]
          have lM : k < M.length := by
            rw [List.getElem?_eq_some_iff] at Mk
            exact Mk.1
          refine ⟨same_mut (sm4.trans s5) nm0, by rw [List.length_cons, S.len], by rw [upd_same, eM], by rw [upd_ne hmw.symm]; exact s5 _ _ hw4, ?_, ?_⟩
          · rw [eg, ← eM]
            refine .cons ⟨⟨d, hrk⟩, ?_⟩ (Paired.mapP pr3 fun j p h => ⟨h.1, ?_⟩)
            · rw [List.getElem?_set_self lM]
              rfl
            · rw [List.getElem?_set_ne]
              · exact h.2
              · rintro rfl
                have := h.2
                rw [Mk] at this
                cases this
          · rw [eg]
            intro p hp
            rcases List.mem_cons.mp hp with rfl | hp
            · exact nx.keep (Keeps.lst hm5)
            · exact (nd0 p (by rw [eG]; exact List.mem_append_right _ hp)).keep kp5
        have ixM : ixN M.length (k : Int) = some k := by
          have lM : M.length = rows.length := by
            rw [hM, List.length_append, List.length_replicate, List.length_map, S.len]
            omega
          unfold ixN
          rw [if_pos (by omega), if_pos (by omega)]
          rfl
        refine d_if (v := .non) ?_
        refine if_2 (fun H' => H' = H4) (d.alt = -1 ∧ d.pop = 0 ∧ bt = [] ∧ k % 2 = 0) (fun Qb qb => ?_) (fun c H' e => ?_) (fun c H' e => ?_)
        · have ff : ∀ {A : Prop}, ¬ A → ((false = true) ↔ A) := fun n => ⟨fun z => (by cases z), fun a => absurd a n⟩
          refine ⟨_, rfl, _, _, rfl, rfl, by show (0 : Int) < 2; decide, rfl, _, rfl, ite2 (fun c1 => ?_) (fun c1 => qb false _ rfl (ff fun h => c1 (decide_eq_true (congrArg V.int (show (k : Int) % 2 = 0 by omega)))))⟩
          have c1' : V.int ((k : Int) % 2) = V.int 0 := of_decide_eq_true c1
          injection c1' with c1'
          refine ⟨_, rfl, g, _, 7, _, rfl, rfl, SqT.of hg4, at_ 7 _ rfl, 1, rfl, rfl, _, rfl, ite2 (fun c2 => ?_) (fun c2 => qb false _ rfl (ff fun h => c2 (decide_eq_true (congrArg V.int h.1))))⟩
          have c2' : V.int d.alt = V.int (-1) := of_decide_eq_true c2
          injection c2' with c2'
          refine ⟨_, rfl, g, _, 8, _, rfl, rfl, SqT.of hg4, at_ 8 _ rfl, rfl, _, rfl, ite2 (fun c3 => ?_) (fun c3 => qb false _ rfl (ff fun h => c3 (decide_eq_true (congrArg V.int h.2.1))))⟩
          have c3' : V.int d.pop = V.int 0 := of_decide_eq_true c3
          injection c3' with c3'
          refine ⟨_, rfl, _, .inl ⟨_, SqL.of hb4, rfl⟩, qb _ _ rfl ?_⟩
          cases bt with
          | nil => exact ⟨fun _ => ⟨c2', c3', rfl, by omega⟩, fun _ => rfl⟩
          | cons x bt => exact ⟨fun z => (by cases z), fun h => absurd h.2.2.1 (by simp)⟩
        · cases e
          obtain ⟨ca, cp, rfl, _⟩ := c
          refine ⟨_, rfl, g, _, 1, _, rfl, rfl, SqT.of hg4, at_ 1 _ rfl, _, rfl, g, _, 2, _, rfl, rfl, SqT.of hg4, at_ 2 _ rfl, _, rfl, g, _, 3, _, rfl, rfl, SqT.of hg4, at_ 3 _ rfl, _, rfl, g, _, 4, _, rfl, rfl, SqT.of hg4, at_ 4 _ rfl, _, rfl, g, _, 5, _, rfl, rfl, SqT.of hg4, at_ 5 _ rfl, _, rfl, g, _, 6, _, rfl, rfl, SqT.of hg4, at_ 6 _ rfl, rfl, rfl, fun x dx nx ndx hne => ?_⟩
          obtain ⟨oc, n0, sl, ht0⟩ := T.t0_Node
          have sq : ∀ H', SqT K H' T.T0_Node [] := fun H' => .inr ⟨_, #[], n0, ht0, rfl, rfl, Nat.zero_le _, .nil⟩
          refine ⟨x, dx, T.T0_Node, d, [], upd_same, by rw [ca, cp]; rfl, .inl ⟨sq _, rfl, ?_⟩⟩
          have s5 : Same H4 (upd (upd H4 dx (.own x)) x (.ins T.C_Node dx (nfl d T.T0_Node))) := (same_upd ndx).trans (same_upd (by rw [upd_ne hne.symm]; exact nx))
          have hm5 := s5 _ _ hm4
          rw [upd_upd]
          refine ⟨_, rfl, _, rfl, m, M, _, k, rfl, rfl, hm5, ixM, ?_⟩
          exact ⟨by omega, _, _, _, _, _, rfl, tail x _ s5 ⟨⟨dx, T.T0_Node, upd_same, sq _⟩, True.intro⟩⟩
        · cases e
          refine ⟨_, rfl, b, _, rfl, .inl ⟨SqL.of hb4, fun tp ntp => ?_⟩⟩
          have st := same_upd (o := .tup (bt.map fun p => V.ref p.2.at)) ntp
          have hg5 := st _ _ hg4
          refine ⟨_, rfl, g, _, 1, _, rfl, rfl, SqT.of hg5, at_ 1 _ rfl, _, rfl, g, _, 2, _, rfl, rfl, SqT.of hg5, at_ 2 _ rfl, _, rfl, g, _, 3, _, rfl, rfl, SqT.of hg5, at_ 3 _ rfl, _, rfl, g, _, 4, _, rfl, rfl, SqT.of hg5, at_ 4 _ rfl, _, rfl, g, _, 5, _, rfl, rfl, SqT.of hg5, at_ 5 _ rfl, _, rfl, g, _, 6, _, rfl, rfl, SqT.of hg5, at_ 6 _ rfl, _, rfl, g, _, 7, _, rfl, rfl, SqT.of hg5, at_ 7 _ rfl, _, rfl, _, rfl, g, _, 8, _, rfl, rfl, SqT.of hg5, at_ 8 _ rfl, rfl, rfl, fun x dx nx ndx hne => ?_⟩
          have s4 : Same (upd H4 tp (.tup (bt.map fun p => V.ref p.2.at))) (upd (upd (upd H4 tp (.tup (bt.map fun p => V.ref p.2.at))) dx (.own x)) x (.ins T.C_Node dx [])) := (same_upd ndx).trans (same_upd (by rw [upd_ne hne.symm]; exact nx))
          have s5 : Same H4 (upd (upd (upd H4 tp (.tup (bt.map fun p => V.ref p.2.at))) dx (.own x)) x (.ins T.C_Node dx (nfl d tp))) := st.trans ((same_upd (o := .own x) ndx).trans (same_upd (by rw [upd_ne hne.symm]; exact nx)))
          have htp : (upd H4 tp (.tup (bt.map fun p => V.ref p.2.at))) tp = some (.tup (bt.map fun p => V.ref p.2.at)) := upd_same
          refine ⟨x, dx, tp, d, _, upd_same, rfl, .inl ⟨SqT.of (s4 _ _ htp), rfl, ?_⟩⟩
          have hm5 := s5 _ _ hm4
          rw [upd_upd]
          refine ⟨_, rfl, _, rfl, m, M, _, k, rfl, rfl, hm5, ixM, ?_⟩
          refine ⟨by omega, _, _, _, _, _, rfl, tail x _ s5 ⟨⟨dx, tp, upd_same, ?_⟩, ?_⟩⟩
          · rw [List.map_map]
            refine SqT.of ?_
            have e1 := ((same_upd (o := .own x) ndx).trans (same_upd (o := .ins T.C_Node dx (nfl d tp)) (by rw [upd_ne hne.symm]; exact nx))) _ _ htp
            exact e1
          · refine NodesAt.of fun t ht => ?_
            obtain ⟨p, hp, rfl⟩ := List.mem_map.mp ht
            exact (nd0 p (by rw [eG]; exact List.mem_append_left _ hp)).keep (kp4.trans (Keeps.of s5))
    · rintro σ H1 ⟨_, as, js, y3, y4, y5, rfl, S⟩
      have hm9 := S.hm
      have nd9 := S.nd
      rw [Nat.sub_self, List.replicate_zero, List.nil_append] at hm9
      rw [Nat.sub_self, List.drop_zero] at nd9
      have lras : (rasOf rows as).map Prod.fst = rows.map Prod.fst := by
        unfold rasOf
        rw [List.map_map]
        have key : ∀ (rs : List Rw) (bs : List Addr), rs.length ≤ bs.length → (rs.zip bs).map (Prod.fst ∘ fun x : Rw × Addr => ((x.1.1, x.1.2, x.2) : Ra)) = rs.map Prod.fst := fun rs => by
          induction rs with
          | nil => exact fun _ _ => rfl
          | cons r rs ih =>
            intro bs hb
            cases bs with
            | nil => exact absurd hb (by simp)
            | cons b bs =>
              exact congrArg (r.1 :: ·) (ih bs (by simpa using hb))
        exact key rows as (by rw [S.len]; exact Nat.le_refl _)
      obtain ⟨ls, e0, h1, h2⟩ := lev
      obtain ⟨r0, rs0, er⟩ : ∃ r rs, rasOf rows as = r :: rs := by
        cases h : rasOf rows as with
        | nil =>
          rw [h, e0] at lras
          cases lras
        | cons r rs => exact ⟨r, rs, rfl⟩
      have lras2 := lras
      rw [er, e0] at lras2
      have lras2 : r0.1 :: rs0.map Prod.fst = 0 :: ls := lras2
      injection lras2 with k1 k2
      obtain ⟨t, ht⟩ := grow_one (r := r0) (rs := rs0) (by show Lad (r0.1 :: rs0.map Prod.fst); rw [k1, k2, ← e0]; exact h2) k1 (fun x hx => h1 _ (by rw [← k2]; exact List.mem_map_of_mem hx))
      rw [← er] at ht
      have fl := grow_flat (rasOf rows as)
      rw [ht] at fl nd9
      have ft : t.ras 0 = rasOf rows as := by
        rw [← fl]
        show _ = t.ras 0 ++ []
        rw [List.append_nil]
      exact ⟨_, rfl, q m as t H1 S.same nm0 hm9 S.len ft (nd9 _ List.mem_cons_self)⟩

/-! ### the drawn shape -/
theorem lev_ones (n : Nat) : Lev (0 :: List.replicate n 1) := by
  refine ⟨_, rfl, fun x hx => by rw [List.eq_of_mem_replicate hx]; decide, ?_⟩
  have key : ∀ m, Lad (List.replicate m (1 : Int)) := fun m => by
    induction m with
    | zero => exact True.intro
    | succ m ih =>
      cases m with
      | zero => exact True.intro
      | succ m => exact ⟨by decide, ih⟩
  cases n with
  | zero => exact True.intro
  | succ n => exact ⟨by decide, key (n + 1)⟩
theorem lad_up : ∀ {L : List Int}, Lad L → Lad (L.map (· + 1))
  | [], _ => True.intro
  | [_], _ => True.intro
  | a :: b :: L, h => ⟨by show b + 1 ≤ a + 1 + 1; have := h.1; omega, lad_up (L := b :: L) h.2⟩
/-- levels; under a root, with an end leaf: two rows stand right below the first -/
def Shape (b : Bool) (L : List Int) : Prop := Lev L ∧ (b = true → ∃ M, L = 0 :: 1 :: (M ++ [1]) ∧ ∀ x ∈ M, 2 ≤ x)
theorem shape_root {L : List Int} (h : Lev L) : Shape true (0 :: (L.map (· + 1) ++ [1])) := by
  obtain ⟨ls, e, h1, h2⟩ := h
  have hl : Lev (0 :: L.map (· + 1)) := by
    refine ⟨_, rfl, fun x hx => ?_, ?_⟩
    · obtain ⟨y, hy, rfl⟩ := List.mem_map.mp hx
      rw [e] at hy
      rcases List.mem_cons.mp hy with rfl | hy
      · decide
      · have := h1 y hy
        show 1 ≤ y + 1
        omega
    · have := lad_up h2
      rw [e] at this ⊢
      exact ⟨by decide, this⟩
  obtain ⟨a, L', e2⟩ : ∃ a L', (0 :: L.map (· + 1) : List Int) = L' ++ [a] := by
    rcases List.eq_nil_or_concat (0 :: L.map (· + 1)) with h | ⟨L', a, h⟩
    · cases h
    · exact ⟨a, L', by rw [h, List.concat_eq_append]⟩
  have le : LevE (0 :: L.map (· + 1)) a := ⟨hl, L', e2⟩
  refine ⟨(le.more (x := 1) (by decide) (by have := le.ge; omega)).1, fun _ => ⟨ls.map (· + 1), by rw [e]; rfl, fun x hx => ?_⟩⟩
  obtain ⟨y, hy, rfl⟩ := List.mem_map.mp hx
  have := h1 y hy
  show 2 ≤ y + 1
  omega
def spShape : Sp := fun vs H Q _ => ∃ (r : Addr) (b : Bool), vs = [.ref r, .bl b] ∧ ReelAt H r ∧ ∀ l L H', LevsAt H' l L → Shape b L → ((L.length ≤ 100 ∨ 2010 ≤ L.length) ∧ L.length ≤ 2110) → H l = none → But r H H' → ReelAt H' r → Q (.ref l) H'
theorem ok_shape (T : Txt K mg) : FnOk P w K mg base CX0 4 T.a_law_shape T.fd_law_shape ["reel", "rooted"] spShape := by
  have G_law_draw : FnOk P w K mg base CX0 1 T.a_law_draw T.fd_law_draw ["reel", "size"] spDraw := ok_draw T
  have G_law_pick : FnOk P w K mg base CX0 2 T.a_law_pick T.fd_law_pick ["reel", "row"] (spPick K) := ok_pick T
  have G_law_comb : FnOk P w K mg base CX0 2 T.a_law_comb T.fd_law_comb ["reel", "deep"] spComb := ok_comb T
  have G_law_levels : FnOk P w K mg base CX0 3 T.a_law_levels T.fd_law_levels ["reel"] (spLevs 50) := ok_levels T
  refine T.F_law_shape.ok sc_law_shape (fun vs H Q E h => ?_) (fun cdv A outer s H vs Q E hr h => ?_)
  · obtain ⟨r, b, rfl, _⟩ := h
    rfl
  · have hr_law_draw : Room 1 _ := hr.mono (by decide)
    have hr_law_pick : Room 2 _ := hr.mono (by decide)
    have hr_law_comb : Room 2 _ := hr.mono (by decide)
    have hr_law_levels : Room 3 _ := hr.mono (by decide)
    obtain ⟨r, b, rfl, hR, q⟩ := h
    refine ⟨_, (pss_cons (ps_set (i := 2) sc_law_shape.nd rfl (.inl rfl) (pe_call G_law_draw hr_law_draw (by rfl) T.g_law_draw T.F_law_draw.kp T.b_law_draw .nil pass0 (pa_cons (pv 0) (pa_cons pe_int pa_nil))))
      (pss_cons (ps_set (i := 3) sc_law_shape.nd rfl (.inl rfl) (pe_call G_law_levels hr_law_levels (by rfl) T.g_law_levels T.F_law_levels.kp T.b_law_levels .nil pass0 (pa_cons (pv 0) pa_nil)))
      (C8.pss_cut (ps_if (pt_cmpR op_eq (pv 2) pe_int (nomark _)) (pss_one (ps_set (i := 3) sc_law_shape.nd rfl (.inl rfl) (pe_call G_law_comb hr_law_comb (by rfl) T.g_law_comb T.F_law_comb.kp T.b_law_comb .nil pass0 (pa_cons (pv 0) (pa_cons (pe_op op_add pe_int (pe_call G_law_draw hr_law_draw (by rfl) T.g_law_draw T.F_law_draw.kp T.b_law_draw .nil pass0 (pa_cons (pv 0) (pa_cons pe_int pa_nil)))) pa_nil))))) pss_nil)
      (C8.pss_cut (ps_if (pt_cmpR op_eq (pv 2) pe_int (nomark _)) (pss_one (ps_set (i := 3) sc_law_shape.nd rfl (.inl rfl) (pe_call G_law_comb hr_law_comb (by rfl) T.g_law_comb T.F_law_comb.kp T.b_law_comb .nil pass0 (pa_cons (pv 0) (pa_cons (pe_op op_add pe_int (pe_call G_law_draw hr_law_draw (by rfl) T.g_law_draw T.F_law_draw.kp T.b_law_draw .nil pass0 (pa_cons (pv 0) (pa_cons pe_int pa_nil)))) pa_nil))))) pss_nil)
      (C8.pss_cut (ps_if (pt_cmpR op_eq (pv 2) pe_int (nomark _)) (pss_one (ps_set (i := 3) sc_law_shape.nd rfl (.inl rfl) (pe_op op_cat (pe_lst (pa_cons pe_int pa_nil)) (pe_op op_rep (pe_lst (pa_cons pe_int pa_nil)) (pe_call G_law_pick hr_law_pick (by rfl) T.g_law_pick T.F_law_pick.kp T.b_law_pick .nil pass0 (pa_cons (pv 0) (pa_cons (pe_lst (pa_cons pe_int (pa_cons pe_int (pa_cons pe_int (pa_cons pe_int (pa_cons pe_int (pa_cons pe_int (pa_cons pe_int (pa_cons pe_int pa_nil))))))))) pa_nil))))))) pss_nil)
      (C8.pss_cut (ps_if (pt_val (pv 1)) (pss_one (ps_set (i := 3) sc_law_shape.nd rfl (.inl rfl) (pe_op op_cat (pe_op op_cat (pe_lst (pa_cons pe_int pa_nil)) (pe_lc (own := [("level", 4)]) (g := gName 4) (by rfl) sc_law_shape.nd (pi_list (pv 3)) (blkOk_by (own := [("level", 4)]) (N := ["reel", "rooted", "form", "levels", "level"]) (sc := defScope s_law_shape) (by decide +kernel)) (fun _ _ _ _ _ => pg_name (i := 4) sc_law_shape.nd rfl (Or.inl rfl)) (fun _ _ _ _ _ => pts_nil) (fun _ _ _ _ _ => (pe_op op_add (pv 4) pe_int)))) (pe_lst (pa_cons pe_int pa_nil))))) pss_nil)
      (pss_one (ps_ret (pv 3))))))))), ?_⟩
    refine ⟨_, rfl, r, 16, rfl, hR, by decide, fun f H1 f0 f1 b1 R1 => ?_⟩
    refine ⟨_, rfl, r, rfl, R1, fun l0 L0 H2 hl0 hL0 ll0 nl0 b2 R2 => ?_⟩
    have fr : ∀ {H' : Hp} {l : Addr}, But r H H' → ReelAt H' r → H' l = none → H l = none ∧ l ≠ r := fun bb R n => ⟨bb.free (R.ne n).symm n, (R.ne n).symm⟩
    have f0 := fr b1 R1 nl0
    refine ⟨fun σ H' => But r H H' ∧ ReelAt H' r ∧ ∃ (l : Addr) (L : List Int), σ = [some (.ref r), some (.bl b), some (.int f), some (.ref l), none] ∧ LevsAt H' l L ∧ Lev L ∧ ((L.length ≤ 95 ∨ 2010 ≤ L.length) ∧ L.length ≤ 2105) ∧ H l = none ∧ l ≠ r, ?_, ?_⟩
    · refine ⟨_, rfl, rfl, _, rfl, ite2 (fun _ => ?_) (fun _ => ?_)⟩
      · refine ⟨_, rfl, _, rfl, r, 40, rfl, R2, by decide, fun v H3 v0 v1 b3 R3 => ?_⟩
        obtain ⟨k, rfl⟩ : ∃ k : Nat, v = (k : Int) := ⟨v.toNat, by omega⟩
        refine ⟨_, _, rfl, rfl, r, 1010 + k, by show [V.ref r, V.int (1010 + (k : Int))] = _; rw [show (1010 : Int) + (k : Int) = ((1010 + k : Nat) : Int) by omega], R3, by omega, fun l L H4 hl hL ll nl b4 R4 => ?_⟩
        have f4 := fr ((b1.trans b2).trans b3) R3 nl
        exact ⟨((b1.trans b2).trans b3).trans b4, R4, l, L, rfl, hl, hL, by omega, f4.1, f4.2⟩
      · exact ⟨b1.trans b2, R2, l0, L0, rfl, hl0, hL0, by omega, f0.1, f0.2⟩
    rintro σ H3 ⟨b3, R3, l1, L1, rfl, hl1, hL1, ll1, n1, m1⟩
    refine ⟨fun σ H' => But r H H' ∧ ReelAt H' r ∧ ∃ (l : Addr) (L : List Int), σ = [some (.ref r), some (.bl b), some (.int f), some (.ref l), none] ∧ LevsAt H' l L ∧ Lev L ∧ ((L.length ≤ 95 ∨ 2010 ≤ L.length) ∧ L.length ≤ 2105) ∧ H l = none ∧ l ≠ r, ?_, ?_⟩
    · refine ⟨_, rfl, rfl, _, rfl, ite2 (fun _ => ?_) (fun _ => ?_)⟩
      · refine ⟨_, rfl, _, rfl, r, 30, rfl, R3, by decide, fun v H3 v0 v1 b4 R4 => ?_⟩
        obtain ⟨k, rfl⟩ : ∃ k : Nat, v = (k : Int) := ⟨v.toNat, by omega⟩
        refine ⟨_, _, rfl, rfl, r, 1 + k, by show [V.ref r, V.int (1 + (k : Int))] = _; rw [show (1 : Int) + (k : Int) = ((1 + k : Nat) : Int) by omega], R4, by omega, fun l L H4 hl hL ll nl b5 R5 => ?_⟩
        have f4 := fr (b3.trans b4) R4 nl
        exact ⟨(b3.trans b4).trans b5, R5, l, L, rfl, hl, hL, by omega, f4.1, f4.2⟩
      · exact ⟨b3, R3, l1, L1, rfl, hl1, hL1, ll1, n1, m1⟩
    rintro σ H3 ⟨b3, R3, l1, L1, rfl, hl1, hL1, ll1, n1, m1⟩
    refine ⟨fun σ H' => But r H H' ∧ ReelAt H' r ∧ ∃ (l : Addr) (L : List Int), σ = [some (.ref r), some (.bl b), some (.int f), some (.ref l), none] ∧ LevsAt H' l L ∧ Lev L ∧ ((L.length ≤ 95 ∨ 2010 ≤ L.length) ∧ L.length ≤ 2105) ∧ H l = none ∧ l ≠ r, ?_, ?_⟩
    · refine ⟨_, rfl, rfl, _, rfl, ite2 (fun _ => ?_) (fun _ => ?_)⟩
      · refine ⟨by show 1 ≤ sizeLine; decide, fun p1 np1 => ⟨by show 1 ≤ sizeLine; decide, fun p2 np2 => ?_⟩⟩
        have R3a : ReelAt (upd (upd H3 p1 (.lst [.int 0])) p2 (.lst [.int 1])) r := (R3.new np1).new np2
        have k1 : (upd H3 p1 (.lst [.int 0])) p1 = some (.lst [.int 0]) := upd_same
        have k2 := (same_upd (o := .lst [.int 1]) np2) _ _ k1
        refine ⟨_, rfl, by show 8 ≤ sizeLine; decide, fun p3 np3 => ?_⟩
        have k1c := (same_upd (o := .lst [.int 1, .int 5, .int 30, .int 61, .int 63, .int 64, .int 65, .int 70]) np3) _ _ k2
        refine ⟨r, _, rfl, R3a.new np3, .inr ⟨p3, _, rfl, (R3a.ne np3).symm, SqL.of upd_same, by show 0 < 8; decide, fun v H4 hv b4 R4 => ?_⟩⟩
        obtain ⟨n, rfl, n0, n1⟩ := intsIn_mem (lo := 1) (hi := 70) (by decide +kernel) v hv
        have hp1 : H4 p1 = some (.lst [.int 0]) := b4 _ _ (R3.ne np1).symm k1c
        have hp2 : H4 p2 = some (.lst [.int 1]) := b4 _ _ ((R3.new np1).ne np2).symm ((same_upd np3) _ _ upd_same)
        refine ⟨p2, n, _, rfl, rfl, hp2, by omega, by omega, ?_⟩
        refine ⟨?_, fun p4 np4 => ?_⟩
        · show 1 * n.toNat ≤ sizeLine
          exact Nat.le_trans (show 1 * n.toNat ≤ 100 by omega) (by decide)
        · have er : (List.replicate n.toNat [V.int 1]).flatten = (List.replicate n.toNat (1 : Int)).map V.int := by
            rw [List.map_replicate]
            induction n.toNat with
            | zero => rfl
            | succ m ih =>
              rw [List.replicate_succ, List.replicate_succ, List.flatten_cons, ih]
              rfl
          rw [er]
          have hp1' := (same_upd (o := .lst ((List.replicate n.toNat (1 : Int)).map V.int)) np4) _ _ hp1
          refine ⟨p1, p4, _, _, rfl, rfl, hp1', upd_same, szM (by rw [List.length_map, List.length_replicate]; show 1 + _ ≤ _; omega), fun p5 np5 => ?_⟩
          have bb : But r H H4 := b3.trans (((But.new np1).trans (But.new np2)).trans ((But.new np3).trans b4))
          have f5 := fr (bb.trans (But.new np4)) (R4.new np4) np5
          refine ⟨(bb.trans (But.new np4)).trans (But.new np5), (R4.new np4).new np5, p5, 0 :: List.replicate n.toNat 1, rfl, upd_same, lev_ones _, ?_, f5.1, f5.2⟩
          rw [List.length_cons, List.length_replicate]
          omega
      · exact ⟨b3, R3, l1, L1, rfl, hl1, hL1, ll1, n1, m1⟩
    rintro σ H3 ⟨b3, R3, l1, L1, rfl, hl1, hL1, ll1, n1, m1⟩
    refine ⟨fun σ H' => But r H H' ∧ ReelAt H' r ∧ ∃ (l : Addr) (L : List Int), σ = [some (.ref r), some (.bl b), some (.int f), some (.ref l), none] ∧ LevsAt H' l L ∧ Shape b L ∧ ((L.length ≤ 100 ∨ 2010 ≤ L.length) ∧ L.length ≤ 2110) ∧ H l = none, ?_, ?_⟩
    · refine ⟨_, rfl, b, rfl, ?_⟩
      cases b with
      | false => exact iteF ⟨b3, R3, l1, L1, rfl, hl1, ⟨hL1, fun h => by cases h⟩, by omega, n1⟩
      | true =>
        refine iteT ⟨by show 1 ≤ sizeLine; decide, fun p1 np1 => ?_⟩
        have k1 : (upd H3 p1 (.lst [.int 0])) p1 = some (.lst [.int 0]) := upd_same
        have hl2 : LevsAt (upd H3 p1 (.lst [.int 0])) l1 L1 := (same_upd np1) _ _ hl1
        refine ⟨_, rfl, l1, rfl, ⟨_, SqL.of hl2⟩, fun D nD => ?_⟩
        have hpD : p1 ≠ D := ne_of_none k1 nD
        have hlD : l1 ≠ D := ne_of_none hl2 nD
        have R3b := (R3.new np1 (o := .lst [.int 0]))
        have hDr : D ≠ r := (R3b.ne nD).symm
        refine lc_it (walk_list (K := K) (a := l1) (xs := L1.map V.int)) (fun j H' => H' = upd (upd H3 p1 (.lst [.int 0])) D (.lst (((L1.take j).map (· + 1)).map V.int))) rfl (fun j H' _ S => by rw [S]; exact SqL.of (by rw [upd_ne hlD]; exact hl2)) ?_ ?_
        · rintro j v H4 H5 hj rfl ⟨rfl, hv⟩
          rw [List.length_map] at hj
          have e1 : L1[j]? = some L1[j] := List.getElem?_eq_getElem hj
          have hv : (L1.map V.int)[j]? = some v := hv
          rw [List.getElem?_map, e1] at hv
          obtain rfl : V.int L1[j] = v := Option.some.inj hv
          refine ⟨rfl, _, rfl, _, _, rfl, rfl, _, upd_same, sz2 (by rw [List.length_map, List.length_map, List.length_take]; omega), ?_⟩
          rw [upd_upd, takeN e1, List.map_append, List.map_append]
          rfl
        · rintro H4 rfl
          rw [List.length_map, List.take_length]
          refine ⟨p1, D, _, _, rfl, rfl, by rw [upd_ne hpD]; exact k1, upd_same, szM (by rw [List.length_map, List.length_map]; show 1 + _ ≤ _; omega), fun p2 np2 => ?_⟩
          have k2 := (same_upd (o := .lst ([V.int 0] ++ (L1.map (· + 1)).map V.int)) np2)
          refine ⟨by show 1 ≤ sizeLine; decide, fun p3 np3 => ?_⟩
          have hp2 : (upd (upd (upd (upd H3 p1 (.lst [.int 0])) D (.lst ((L1.map (· + 1)).map V.int))) p2 (.lst ([V.int 0] ++ (L1.map (· + 1)).map V.int))) p3 (.lst [.int 1])) p2 = some (.lst ([V.int 0] ++ (L1.map (· + 1)).map V.int)) := (same_upd np3) _ _ upd_same
          refine ⟨p2, p3, _, _, rfl, rfl, hp2, upd_same, szM (by rw [List.length_append, List.length_map, List.length_map]; show 1 + _ + 1 ≤ _; omega), fun p4 np4 => ?_⟩
          have bb : But r H (upd (upd (upd H3 p1 (.lst [.int 0])) D (.lst ((L1.map (· + 1)).map V.int))) p2 (.lst ([V.int 0] ++ (L1.map (· + 1)).map V.int))) := ((b3.trans (But.new np1)).trans (But.new nD)).trans (But.new np2)
          have RR := (R3b.new nD (o := .lst ((L1.map (· + 1)).map V.int))).new np2 (o := .lst ([V.int 0] ++ (L1.map (· + 1)).map V.int))
          have f4 := fr (bb.trans (But.new np3)) (RR.new np3) np4
          refine ⟨(bb.trans (But.new np3)).trans (But.new np4), (RR.new np3).new np4, p4, 0 :: (L1.map (· + 1) ++ [1]), rfl, ?_, shape_root hL1, ?_, f4.1⟩
          · unfold LevsAt
            rw [upd_same, List.map_cons, List.map_append]
            rfl
          · rw [List.length_cons, List.length_append, List.length_map]
            have : ([1] : List Int).length = 1 := rfl
            omega
    · rintro σ H4 ⟨b4, R4, l, L, rfl, hl, hL, ll, n4⟩
      exact ⟨_, rfl, q l L H4 hl hL ll n4 b4 R4⟩

/-! ### leaves -/
def leafB (d : Nd) : Bool := decide (d.alt = -1) && (!decide (d.kind = "error") && !decide (d.kind = "root"))
theorem decI (i j : Int) : decide (V.int i = V.int j) = decide (i = j) := decide_eq_decide.mpr ⟨fun e => by injection e, fun e => by rw [e]⟩
theorem decS (x y : Str) : decide (V.str x = V.str y) = decide (x = y) := decide_eq_decide.mpr ⟨fun e => by injection e, fun e => by rw [e]⟩
def spRowB (K : PySem.W.Frag) : Sp := fun vs H Q _ => ∃ (g : Addr) (lv : Int) (d : Nd), vs = [.ref g] ∧ SqT K H g (rwV (lv, d)) ∧ Q (.bl (leafB d)) H
theorem ok_is_leafL (T : Txt K mg) : FnOk P w K mg base CX0 1 T.a_law_is_leaf T.fd_law_is_leaf ["row"] (spRowB K) := by
  refine T.F_law_is_leaf.ok sc_law_is_leaf (fun vs H Q E h => ?_) (fun cdv A outer s H vs Q E hr h => ?_)
  · obtain ⟨g, lv, d, rfl, _⟩ := h
    rfl
  · obtain ⟨g, lv, d, rfl, hg, q⟩ := h
    refine ⟨_, (pss_one (ps_ret (pe_and (pe_cmpR op_eq (pe_ix ix_tup (pv 0) pe_int (fun _ _ => rfl)) (pe_un un_neg pe_int) (nomark _)) (pe_and (pe_cmpR op_ne (pe_ix ix_tup (pv 0) pe_int (fun _ _ => rfl)) pe_str (nomark _)) (pe_one (pe_cmpR op_ne (pe_ix ix_tup (pv 0) pe_int (fun _ _ => rfl)) pe_str (nomark _))))))), ?_⟩
    have at_ : ∀ (n : Nat) (v : V), (rwV (lv, d))[n]? = some v → atI (rwV (lv, d)) (n : Int) = some v := fun n v h => atI_nat h
    refine ⟨_, rfl, g, _, 7, _, rfl, rfl, hg, at_ 7 _ rfl, 1, rfl, rfl, _, rfl, ?_⟩
    unfold leafB at q
    rw [← decI] at q
    cases hc : decide (V.int d.alt = V.int (-1)) with
    | false =>
      rw [hc] at q
      exact iteF q
    | true =>
      rw [hc] at q
      refine iteT ⟨_, rfl, g, _, 1, _, rfl, rfl, hg, at_ 1 _ rfl, rfl, _, rfl, ?_⟩
      rw [decS]
      cases hk : decide (d.kind = "error") with
      | true =>
        rw [hk] at q
        exact iteF q
      | false =>
        rw [hk] at q
        refine iteT ⟨_, rfl, g, _, 1, _, rfl, rfl, hg, at_ 1 _ rfl, rfl, ?_⟩
        rw [decS]
        exact q
def spNodeB (K : PySem.W.Frag) (C : Addr) : Sp := fun vs H Q _ => ∃ (p : Addr) (dx tp : Addr) (d : Nd), vs = [.ref p] ∧ H p = some (.ins C dx (nfl d tp)) ∧ Q (.bl (leafB d)) H
theorem leafB_in (d : Nd) : (!inV (.str d.kind) [.str "error", .str "root"]) = (!decide (d.kind = "error") && !decide (d.kind = "root")) := by
  have e : ∀ a : Str, eqV (.str a) (.str d.kind) = decide (d.kind = a) := fun a => by
    show (a == d.kind) = _
    rw [Bool.eq_iff_iff, beq_iff_eq, decide_eq_true_eq]
    exact ⟨Eq.symm, Eq.symm⟩
  show (!(eqV (.str "error") (.str d.kind) || (eqV (.str "root") (.str d.kind) || false))) = _
  rw [e, e, Bool.or_false, Bool.not_or]
theorem ok_is_leaf (T : Txt K mg) : FnOk P w K mg base CX0 1 T.a_is_leaf T.fd_is_leaf ["node"] (fun vs H Q E => ∃ (p : Addr) (dx tp : Addr) (d : Nd), vs = [.ref p] ∧ H p = some (.ins T.C_Node dx (nfl d tp)) ∧ ∀ H', Same H H' → Q (.bl (leafB d)) H') := by
  refine T.F_is_leaf.ok sc_is_leaf (fun vs H Q E h => ?_) (fun cdv A outer s H vs Q E hr h => ?_)
  · obtain ⟨p, dx, tp, d, rfl, _⟩ := h
    rfl
  · obtain ⟨p, dx, tp, d, rfl, hp, q⟩ := h
    refine ⟨_, (pss_one (ps_ret (pe_and (pe_cmpR op_eq (pe_fld (pv 0) rfl) (pe_un un_neg pe_int) (nomark _)) (pe_one (pe_cmpR op_notIn_seq (pe_fld (pv 0) rfl) (pe_tup (pa_cons pe_str (pa_cons pe_str pa_nil))) rfl))))), ?_⟩
    refine ⟨_, rfl, _, _, _, _, _, rfl, hp, T.CL_Node, T.NA_Node_alternative, nf_alternative _ _, 1, rfl, rfl, _, rfl, ?_⟩
    unfold leafB at q
    rw [← decI] at q
    cases hc : decide (V.int d.alt = V.int (-1)) with
    | false =>
      rw [hc] at q
      exact iteF (q H (Same.refl H))
    | true =>
      rw [hc] at q
      refine iteT ⟨_, rfl, _, _, _, _, _, rfl, hp, T.CL_Node, T.NA_Node_kind, nf_kind _ _, ?_⟩
      refine ⟨by show 2 ≤ sizeLine; decide, fun t nt => ?_⟩
      refine ⟨t, _, rfl, .inr (SqT.of upd_same), rfl, rfl, ?_⟩
      have := q _ (same_upd (o := .tup [.str "error", .str "root"]) nt)
      rw [show (true && (!decide (d.kind = "error") && !decide (d.kind = "root"))) = (!inV (.str d.kind) [.str "error", .str "root"]) by rw [leafB_in, Bool.true_and]] at this
      exact this

/-! ### a leaf's row -/
/-- a leaf as it is drawn -/
structure LeafOk (d : Nd) : Prop where
  leaf : leafB d = true
  w0 : 0 ≤ d.wid
  w9 : d.wid ≤ 9
theorem leaf_of {d : Nd} (ha : d.alt = -1) (h : d.kind ≠ "error") (h2 : d.kind ≠ "root") : leafB d = true := by
  unfold leafB
  rw [decide_eq_true ha, decide_eq_false h, decide_eq_false h2]
  rfl
theorem short_kind {x : Str} (h : (cs x).length ≤ 2) : x ≠ "error" ∧ x ≠ "root" := by
  constructor
  · rintro rfl
    exact absurd h (by decide +kernel)
  · rintro rfl
    exact absurd h (by decide +kernel)
theorem quoted_kind {x : Str} {l : List Nat} (h : cs x = 34 :: l) : x ≠ "error" ∧ x ≠ "root" := by
  constructor
  · rintro rfl
    rw [show cs ("error" : Str) = [101, 114, 114, 111, 114] by decide +kernel] at h
    injection h with h
    exact absurd h (by decide)
  · rintro rfl
    rw [show cs ("root" : Str) = [114, 111, 111, 116] by decide +kernel] at h
    injection h with h
    exact absurd h (by decide)
def spLeafRow : Sp := fun vs H Q _ => ∃ (r : Addr) (lv : Int) (sk sl : Bool), vs = [.ref r, .int lv, .bl sk, .bl sl] ∧ ReelAt H r ∧ ∀ (v : V) (d : Nd) H', RwAt H' v (lv, d) → LeafOk d → But r H H' → ReelAt H' r → Q v H'
theorem ok_leaf_row (T : Txt K mg) : FnOk P w K mg base CX0 4 T.a_law_leaf_row T.fd_law_leaf_row ["reel", "level", "skipped", "slim"] spLeafRow := by
  have G_law_draw : FnOk P w K mg base CX0 1 T.a_law_draw T.fd_law_draw ["reel", "size"] spDraw := ok_draw T
  have G_law_pick : FnOk P w K mg base CX0 2 T.a_law_pick T.fd_law_pick ["reel", "row"] (spPick K) := ok_pick T
  have G_law_word : FnOk P w K mg base CX0 3 T.a_law_word T.fd_law_word ["reel", "letters", "least", "most"] spWord := ok_word T
  refine T.F_law_leaf_row.ok sc_law_leaf_row (fun vs H Q E h => ?_) (fun cdv A outer s H vs Q E hr h => ?_)
  · obtain ⟨r, lv, sk, sl, rfl, _⟩ := h
    rfl
  · have hr_law_draw : Room 1 _ := hr.mono (by decide)
    have hr_law_pick : Room 2 _ := hr.mono (by decide)
    have hr_law_word : Room 3 _ := hr.mono (by decide)
    obtain ⟨r, lv, sk, sl, rfl, hR, q⟩ := h
    refine ⟨_, (pss_cons (ps_set (i := 4) sc_law_leaf_row.nd rfl (.inl rfl) (pe_callB (call_max2 rfl) (by rfl) T.m_max (by decide +kernel) (pa_cons pe_int (pa_cons (pe_op op_sub (pe_call G_law_draw hr_law_draw (by rfl) T.g_law_draw T.F_law_draw.kp T.b_law_draw .nil pass0 (pa_cons (pv 0) (pa_cons pe_int pa_nil))) pe_int) pa_nil))))
      (pss_cons (ps_set (i := 5) sc_law_leaf_row.nd rfl (.inl rfl) (pe_call G_law_pick hr_law_pick (by rfl) T.g_law_pick T.F_law_pick.kp T.b_law_pick .nil pass0 (pa_cons (pv 0) (pa_cons (pe_lst (pa_cons pe_int (pa_cons pe_int (pa_cons pe_int (pa_cons pe_int (pa_cons pe_int (pa_cons pe_int pa_nil))))))) pa_nil))))
      (C8.pss_cut (ps_if (pt_val (pv 3)) (pss_cons (ps_set (i := 4) sc_law_leaf_row.nd rfl (.inl rfl) pe_int)
      (pss_one (ps_set (i := 5) sc_law_leaf_row.nd rfl (.inl rfl) pe_int))) pss_nil)
      (C8.pss_cut (ps_if (PW.pt (pw_and (pt_val (pv 2)) (pw_and1 (pt_cmpR op_eq (pe_call G_law_draw hr_law_draw (by rfl) T.g_law_draw T.F_law_draw.kp T.b_law_draw .nil pass0 (pa_cons (pv 0) (pa_cons pe_int pa_nil))) pe_int (nomark _))))) (pss_one (ps_ret (pe_tup (pa_cons (pv 1) (pa_cons pe_str (pa_cons pe_str (pa_cons (pe_un un_neg pe_int) (pa_cons (pv 4) (pa_cons (pe_op op_add (pv 4) pe_int) (pa_cons (pe_op op_add (pv 4) pe_int) (pa_cons (pe_un un_neg pe_int) (pa_cons pe_int pa_nil)))))))))))) pss_nil)
      (pss_cons (ps_set (i := 6) sc_law_leaf_row.nd rfl (.inl rfl) (pe_call G_law_word hr_law_word (by rfl) T.g_law_word T.F_law_word.kp T.b_law_word .nil pass0 (pa_cons (pv 0) (pa_cons pe_str (pa_cons pe_int (pa_cons pe_int pa_nil))))))
      (C8.pss_cut (ps_if (pt_cmpR op_eq (pe_call G_law_draw hr_law_draw (by rfl) T.g_law_draw T.F_law_draw.kp T.b_law_draw .nil pass0 (pa_cons (pv 0) (pa_cons pe_int pa_nil))) pe_int (nomark _)) (pss_one (ps_set (i := 6) sc_law_leaf_row.nd rfl (.inl rfl) (pe_op op_add_str (pe_op op_add_str pe_str (pe_call G_law_word hr_law_word (by rfl) T.g_law_word T.F_law_word.kp T.b_law_word .nil pass0 (pa_cons (pv 0) (pa_cons pe_str (pa_cons pe_int (pa_cons pe_int pa_nil)))))) pe_str))) pss_nil)
      (C8.pss_cut (ps_set (i := 7) sc_law_leaf_row.nd rfl (.inl rfl) (pe_call G_law_draw hr_law_draw (by rfl) T.g_law_draw T.F_law_draw.kp T.b_law_draw .nil pass0 (pa_cons (pv 0) (pa_cons pe_int pa_nil))))
      (pss_cons (ps_if (pt_val (pv 2)) (pss_one (ps_set (i := 7) sc_law_leaf_row.nd rfl (.inl rfl) (pe_un un_neg pe_int))) pss_nil)
      (pss_one (ps_ret (pe_tup (pa_cons (pv 1) (pa_cons (pv 6) (pa_cons (pv 6) (pa_cons (pv 7) (pa_cons (pv 4) (pa_cons (pe_op op_add (pe_op op_add (pv 4) pe_int) (pv 5)) (pa_cons (pe_op op_add (pe_op op_add (pv 4) pe_int) (pv 5)) (pa_cons (pe_un un_neg pe_int) (pa_cons pe_int pa_nil)))))))))))))))))))), ?_⟩
    refine ⟨_, rfl, r, 6, rfl, hR, by decide, fun v H1 v0 v1 b1 R1 => ?_⟩
    refine ⟨_, _, rfl, rfl, _, _, rfl, ?_⟩
    refine ⟨_, rfl, by show 6 ≤ sizeLine; decide, fun p np => ?_⟩
    refine ⟨r, _, rfl, R1.new np, .inr ⟨p, _, rfl, (R1.ne np).symm, SqL.of upd_same, by show 0 < 6; decide, fun m H2 hm b2 R2 => ?_⟩⟩
    obtain ⟨m, rfl, m0, m1⟩ := intsIn_mem (lo := 0) (hi := 5) (by decide +kernel) m hm
    obtain ⟨g, hg⟩ : ∃ g : Int, g = (if v - 2 > 0 then v - 2 else 0) := ⟨_, rfl⟩
    rw [← hg]
    have g0 : 0 ≤ g ∧ g ≤ 3 := by
      rw [hg]
      split <;> omega
    clear hg
    have b02 : But r H H2 := (b1.trans (But.new np)).trans b2
    refine ⟨fun σ H' => H' = H2 ∧ ∃ g m : Int, σ = [some (.ref r), some (.int lv), some (.bl sk), some (.bl sl), some (.int g), some (.int m), none, none] ∧ 0 ≤ g ∧ g ≤ 3 ∧ 0 ≤ m ∧ m ≤ 5, ?_, ?_⟩
    · refine ⟨_, rfl, sl, rfl, ?_⟩
      cases sl with
      | false => exact iteF ⟨rfl, _, _, rfl, g0.1, g0.2, m0, m1⟩
      | true => exact iteT ⟨rfl, 0, 0, rfl, by decide, by decide, by decide, by decide⟩
    rintro σ H3 ⟨rfl, g, m, rfl, g0, g1, m0, m1⟩
    refine ⟨fun σ H' => But r H H' ∧ ReelAt H' r ∧ σ = [some (.ref r), some (.int lv), some (.bl sk), some (.bl sl), some (.int g), some (.int m), none, none], ?_, ?_⟩
    · refine if_ev (fun H' => But r H H' ∧ ReelAt H' r) (fun Qb qb => ?_) (fun H3 ⟨b3, R3⟩ => ?_) (fun H3 ⟨b3, R3⟩ => ⟨b3, R3, rfl⟩)
      · refine ⟨_, rfl, sk, rfl, ?_⟩
        cases sk with
        | false => exact iteF (qb _ _ ⟨b02, R2⟩)
        | true => exact iteT ⟨_, rfl, r, 3, rfl, R2, by decide, fun v H4 v0 v1 b4 R4 => ⟨rfl, _, rfl, qb _ _ ⟨b02.trans b4, R4⟩⟩⟩
      · refine ⟨_, rfl, 1, rfl, _, rfl, _, rfl, _, _, rfl, rfl, _, rfl, _, _, rfl, rfl, 1, rfl, by show 9 ≤ sizeLine; decide, fun t nt => ?_⟩
        exact q (.ref t) ⟨"stray", "stray", -1, g, g + 1, g + 2, -1, 0⟩ _ ⟨t, rfl, upd_same⟩ ⟨leaf_of rfl (show ("stray" : Str) ≠ "error" by decide +kernel) (show ("stray" : Str) ≠ "root" by decide +kernel), by show 0 ≤ g + 1; omega, by show g + 1 ≤ 9; omega⟩ (b3.trans (But.new nt)) (R3.new nt)
    rintro σ H3 ⟨b3, R3, rfl⟩
    refine ⟨_, rfl, r, _, 1, 2, rfl, R3, by decide +kernel, by decide +kernel, by decide, by decide, by decide, fun x H4 x0 x1 _ b4 R4 => ?_⟩
    refine ⟨fun σ H' => But r H H' ∧ ReelAt H' r ∧ ∃ x : Str, σ = [some (.ref r), some (.int lv), some (.bl sk), some (.bl sl), some (.int g), some (.int m), some (.str x), none] ∧ x ≠ "error" ∧ x ≠ "root", ?_, ?_⟩
    · refine ⟨_, rfl, r, 3, rfl, R4, by decide, fun f H5 f0 f1 b5 R5 => ⟨rfl, _, rfl, ite2 (fun _ => ?_) (fun _ => ?_)⟩⟩
      · refine ⟨_, rfl, r, _, 1, 2, rfl, R5, by decide +kernel, by decide +kernel, by decide, by decide, by decide, fun y H6 y0 y1 _ b6 R6 => ?_⟩
        have ly : y.length ≤ 2 := by rw [len_cs]; omega
        have l1 : (Str.ofString "\"").length + y.length ≤ 3 := Nat.add_le_add (show _ ≤ 1 by decide +kernel) ly
        refine ⟨_, _, rfl, rfl, Nat.le_trans l1 (by decide), _, _, rfl, rfl, ?_, ((b3.trans b4).trans b5).trans b6, R6, _, rfl, ?_⟩
        · rw [strLen_append]
          exact Nat.le_trans (Nat.add_le_add l1 (show _ ≤ 1 by decide +kernel)) (by decide)
        · refine quoted_kind (l := cs y ++ [34]) ?_
          rw [cs_app, cs_app]
          rfl
      · exact ⟨(b3.trans b4).trans b5, R5, x, rfl, short_kind (by omega)⟩
    rintro σ H5 ⟨b5, R5, x, rfl, kx⟩
    refine ⟨fun σ H' => But r H H' ∧ ReelAt H' r ∧ ∃ n : Int, σ = [some (.ref r), some (.int lv), some (.bl sk), some (.bl sl), some (.int g), some (.int m), some (.str x), some (.int n)], ?_, ?_⟩
    · exact ⟨_, rfl, r, 40, rfl, R5, by decide, fun n H6 n0 n1 b6 R6 => ⟨b5.trans b6, R6, n, rfl⟩⟩
    rintro σ H6 ⟨b6, R6, n, rfl⟩
    refine ⟨_, rfl, sk, rfl, ?_⟩
    have fin : ∀ n : Int, ∀ t, H6 t = none → Q (.ref t) (upd H6 t (.tup (rwV (lv, (⟨x, x, n, g, g + 1 + m, g + 2 + m, -1, 0⟩ : Nd))))) := fun n t nt =>
      q (.ref t) ⟨x, x, n, g, g + 1 + m, g + 2 + m, -1, 0⟩ _ ⟨t, rfl, upd_same⟩ ⟨leaf_of rfl kx.1 kx.2, by show 0 ≤ g + 1 + m; omega, by show g + 1 + m ≤ 9; omega⟩ (b6.trans (But.new nt)) (R6.new nt)
    cases sk with
    | false =>
      refine iteF ⟨_, rfl, _, rfl, _, rfl, _, rfl, _, rfl, _, rfl, _, _, rfl, rfl, _, rfl, _, _, rfl, rfl, _, rfl, _, _, rfl, rfl, _, rfl, _, _, rfl, rfl, 1, rfl, by show 9 ≤ sizeLine; decide, fun t nt => fin _ t nt⟩
    | true =>
      refine iteT ⟨1, rfl, _, rfl, _, rfl, _, rfl, _, rfl, _, rfl, _, rfl, _, _, rfl, rfl, _, rfl, _, _, rfl, rfl, _, rfl, _, _, rfl, rfl, _, rfl, _, _, rfl, rfl, 1, rfl, by show 9 ≤ sizeLine; decide, fun t nt => fin _ t nt⟩
/-! ### whether a node's descendants are its children alone -/
def spFlat : Sp := fun vs H Q _ => ∃ (l : Addr) (L : List Int) (k : Nat), vs = [.ref l, .int (k : Int)] ∧ LevsAt H l L ∧ k < L.length ∧ L.length ≤ 5000 ∧ ∀ c, Q (.bl c) H
theorem ok_flat (T : Txt K mg) : FnOk P w K mg base CX0 1 T.a_law_flat T.fd_law_flat ["levels", "at"] spFlat := by
  refine T.F_law_flat.ok sc_law_flat (fun vs H Q E h => ?_) (fun cdv A outer s H vs Q E hr h => ?_)
  · obtain ⟨l, L, k, rfl, _⟩ := h
    rfl
  · obtain ⟨l, L, k, rfl, hl, hk, hL, q⟩ := h
    refine ⟨_, (pss_cons (ps_for PassesOwn.never rfl (pi_range2 (by rfl) T.m_range (pa_cons (pe_op op_add (pv 1) pe_int) (pa_cons (pe_callB call_len_seq (by rfl) T.m_len PySem.boot_len (pa_cons (pv 0) pa_nil)) pa_nil))) (pg_name (i := 2) sc_law_flat.nd rfl (.inl rfl)) (pss_cons (ps_if (pt_cmpR op_le (pe_ix ix_list (pv 0) (pv 2) (fun _ _ => rfl)) (pe_ix ix_list (pv 0) (pv 1) (fun _ _ => rfl)) (nomark _)) (pss_one (ps_ret pe_bl)) pss_nil)
      (pss_one (ps_if (pt_cmpR op_gt (pe_ix ix_list (pv 0) (pv 2) (fun _ _ => rfl)) (pe_op op_add (pe_ix ix_list (pv 0) (pv 1) (fun _ _ => rfl)) pe_int) (nomark _)) (pss_one (ps_ret pe_bl)) pss_nil))))
      (pss_one (ps_ret pe_bl))), ?_⟩
    have at_ : ∀ j : Nat, j < L.length → ∃ x : Int, atI (L.map V.int) (j : Int) = some (.int x) := fun j h => ⟨L[j], atI_nat (by rw [List.getElem?_map, List.getElem?_eq_getElem h]; rfl)⟩
    obtain ⟨a, ha⟩ := at_ k hk
    refine ⟨_, rfl, _, _, rfl, rfl, _, rfl, l, _, rfl, .inl (SqL.of hl), ?_⟩
    refine ⟨_, _, rfl, ⟨by omega, by omega, by omega, by rw [List.length_map]; omega⟩, ?_⟩
    refine for_range (lo := (k : Int) + 1) (n := (((L.map V.int).length : Int) - ((k : Int) + 1)).toNat) (fun i σ H' => H' = H ∧ ∃ y2, σ = [some (.ref l), some (.int (k : Int)), y2]) ⟨rfl, none, rfl⟩ ?_ ?_
    · rintro i σ H' hi ⟨rfl, y2, rfl⟩
      rw [List.length_map] at hi
      obtain ⟨b, hb⟩ := at_ (k + 1 + i) (by omega)
      have hb : atI (L.map V.int) ((k : Int) + 1 + (i : Int)) = some (.int b) := by rw [show (k : Int) + 1 + (i : Int) = ((k + 1 + i : Nat) : Int) by omega]; exact hb
      refine ⟨_, rfl, _, rfl, l, _, _, _, rfl, rfl, SqL.of hl, hb, _, rfl, _, rfl, l, _, _, _, rfl, rfl, SqL.of hl, ha, _, _, rfl, rfl, _, rfl, ite2 (fun _ => q true) (fun _ => ?_)⟩
      refine ⟨_, rfl, _, rfl, l, _, _, _, rfl, rfl, SqL.of hl, hb, _, rfl, _, rfl, l, _, _, _, rfl, rfl, SqL.of hl, ha, _, _, rfl, rfl, _, _, rfl, rfl, _, rfl, ite2 (fun _ => q false) (fun _ => ⟨rfl, _, rfl⟩)⟩
    · rintro σ H' ⟨rfl, y2, rfl⟩
      exact q true

/-! ### the drawn rows -/
def RowFit (b : Bool) (L : List Int) (k : Nat) (x : Rw) : Prop := (leafB x.2 = true → 0 ≤ x.2.wid ∧ x.2.wid ≤ 9 ∧ ∀ y, L[k + 1]? = some y → y ≤ x.1) ∧ (x.2.kind = "root" → k = 0 ∧ b = true)
def Fits (b : Bool) (L : List Int) (rows : List Rw) : Prop := ∀ k x, rows[k]? = some x → RowFit b L k x
theorem Tups.dk {H : Hp} {p : Addr} {kvs : List (Key × V)} {o : HO} (h : H p = some (.dK kvs)) : Tups H (upd H p o) := fun c ys e => by
  rw [upd_ne (ne_of e h (fun z => by cases z))]
  exact e
structure BareSt (b : Bool) (L : List Int) (r D sk : Addr) (H0 : Hp) (n i : Nat) (H' : Hp) : Prop where
  but : But r H0 H'
  reel : ReelAt H' r
  dict : ∃ kvs : List (Key × V), H' sk = some (.dK kvs) ∧ kvs.length ≤ n ∧ ∀ k v, valV kvs k = some v → ∃ c, v = .bl c
  rows : ∃ us rows, H' D = some (.lst us) ∧ Paired (RwAt H') us rows ∧ rows.map Prod.fst = L.take i ∧ Fits b L rows
theorem BareSt.call {b : Bool} {L : List Int} {r D sk : Addr} {H0 H H' : Hp} {n i : Nat} (S : BareSt b L r D sk H0 n i H) (nD : D ≠ r) (ns : sk ≠ r) (bt : But r H H') (R : ReelAt H' r) : BareSt b L r D sk H0 n i H' := by
  obtain ⟨b0, R0, ⟨kvs, h1, h2, h3⟩, us, rows, g1, g2, g3, g4⟩ := S
  exact ⟨b0.trans bt, R, ⟨kvs, bt _ _ ns h1, h2, h3⟩, us, rows, bt _ _ nD g1, Paired.mapP g2 fun _ _ h => h.tups (bt.tups R0), g3, g4⟩
theorem BareSt.put {b : Bool} {L : List Int} {r D sk : Addr} {H0 H : Hp} {n i : Nat} (S : BareSt b L r D sk H0 n i H) (n0 : H0 sk = none) (ns : sk ≠ r) (nD : sk ≠ D) (hn : n ≤ 20000) (k : Int) (c : Bool) :
    ∃ H', DPut H sk (.int k) (.bl c) H' ∧ (∃ kvs, H' sk = some (.dK kvs) ∧ valV kvs (.inl k) = some (.bl c)) ∧ BareSt b L r D sk H0 (n + 1) i H' ∧ But r H0 H' := by
  obtain ⟨b0, R0, ⟨kvs, h1, h2, h3⟩, us, rows, g1, g2, g3, g4⟩ := S
  have hv := valV_put kvs (.inl k) (.inl k) (V.bl c)
  rw [if_pos rfl] at hv
  refine ⟨_, DPut.k (k := .inl k) h1 (sz2 (by omega)), ⟨_, upd_same, hv⟩, ⟨b0.updN n0, R0.updN ns, ⟨_, upd_same, ?_, fun j v e => ?_⟩, us, rows, ?_, Paired.mapP g2 fun _ _ h => h.tups (Tups.dk h1), g3, g4⟩, b0.updN n0⟩
  · have := length_putK kvs (.inl k) (V.bl c)
    omega
  · rw [valV_put] at e
    split at e
    · exact ⟨c, (Option.some.inj e).symm⟩
    · exact h3 j v e
  · rw [upd_ne nD.symm]
    exact g1
theorem BareSt.app {b : Bool} {L : List Int} {r D sk : Addr} {H0 H : Hp} {n i : Nat} {v : V} {lv : Int} {d : Nd} (S : BareSt b L r D sk H0 n i H) (n0 : H0 D = none) (nr : D ≠ r) (nD : sk ≠ D) (hv : RwAt H v (lv, d)) (hL : L[i]? = some lv) (hl : L.length ≤ 5000) (hf : RowFit b L i (lv, d)) :
    ∃ acc, H D = some (.lst acc) ∧ acc.length < sizeLine ∧ BareSt b L r D sk H0 n (i + 1) (upd H D (.lst (acc ++ [v]))) := by
  obtain ⟨b0, R0, ⟨kvs, h1, h2, h3⟩, us, rows, g1, g2, g3, g4⟩ := S
  have lu := paired_len g2
  have lr : rows.length = i := by
    have e := congrArg List.length g3
    have hi : i < L.length := (List.getElem?_eq_some_iff.mp hL).1
    rw [List.length_map, List.length_take] at e
    omega
  have hi : i < L.length := (List.getElem?_eq_some_iff.mp hL).1
  have t5 : Tups H (upd H D (.lst (us ++ [v]))) := Tups.mut g1
  refine ⟨us, g1, sz2 (by omega), b0.updN n0, R0.updN nr, ⟨kvs, by rw [upd_ne nD]; exact h1, h2, h3⟩, us ++ [v], rows ++ [(lv, d)], upd_same, ?_, ?_, ?_⟩
  · exact paired_app (Paired.mapP g2 fun _ _ h => h.tups t5) (.cons (hv.tups t5) .nil)
  · rw [List.map_append, g3, takeN hL]
    rfl
  · intro k x hx
    by_cases hk : k < rows.length
    · rw [List.getElem?_append_left hk] at hx
      exact g4 k x hx
    · rw [List.getElem?_append_right (by omega)] at hx
      have hk2 : k - rows.length = 0 := by
        rcases Nat.eq_zero_or_pos (k - rows.length) with h | h
        · exact h
        · rw [List.getElem?_eq_none (by show 1 ≤ _; omega)] at hx
          cases hx
      rw [hk2] at hx
      obtain rfl : (lv, d) = x := Option.some.inj hx
      rw [show k = i by omega]
      exact hf
theorem fit_not {b : Bool} {L : List Int} {k : Nat} {lv : Int} {d : Nd} (h : leafB d = false) (h2 : d.kind ≠ "root") : RowFit b L k (lv, d) := ⟨fun e => (by rw [h] at e; cases e), fun e => absurd e h2⟩
theorem root_not {d : Nd} (h : d.kind = "error" ∨ d.kind = "root" ∨ d.alt ≠ -1) : leafB d = false := by
  unfold leafB
  rcases h with h | h | h
  · rw [h, Bool.and_eq_false_iff]
    exact .inr (by decide +kernel)
  · rw [h, Bool.and_eq_false_iff]
    exact .inr (by decide +kernel)
  · rw [decide_eq_false h]
    rfl
def spBare : Sp := fun vs H Q _ => ∃ (r l : Addr) (b : Bool) (L : List Int), vs = [.ref r, .ref l, .bl b] ∧ ReelAt H r ∧ LevsAt H l L ∧ Shape b L ∧ L.length ≤ 2110 ∧ l ≠ r ∧
  ∀ D us rows H', H' D = some (.lst us) → Paired (RwAt H') us rows → rows.map Prod.fst = L → Fits b L rows → H D = none → But r H H' → ReelAt H' r → Q (.ref D) H'
theorem ok_bare (T : Txt K mg) : FnOk P w K mg base CX0 5 T.a_law_bare_rows T.fd_law_bare_rows ["reel", "levels", "rooted"] spBare := by
  have G_law_draw : FnOk P w K mg base CX0 1 T.a_law_draw T.fd_law_draw ["reel", "size"] spDraw := ok_draw T
  have G_law_word : FnOk P w K mg base CX0 3 T.a_law_word T.fd_law_word ["reel", "letters", "least", "most"] spWord := ok_word T
  have G_law_leaf_row : FnOk P w K mg base CX0 4 T.a_law_leaf_row T.fd_law_leaf_row ["reel", "level", "skipped", "slim"] spLeafRow := ok_leaf_row T
  have G_law_flat : FnOk P w K mg base CX0 1 T.a_law_flat T.fd_law_flat ["levels", "at"] spFlat := ok_flat T
  refine T.F_law_bare_rows.ok sc_law_bare_rows (fun vs H Q E h => ?_) (fun cdv A outer s H vs Q E hr h => ?_)
  · obtain ⟨r, l, b, L, rfl, _⟩ := h
    rfl
  · have hr_law_draw : Room 1 _ := hr.mono (by decide)
    have hr_law_word : Room 3 _ := hr.mono (by decide)
    have hr_law_leaf_row : Room 4 _ := hr.mono (by decide)
    have hr_law_flat : Room 1 _ := hr.mono (by decide)
    obtain ⟨r, l, b, L, rfl, hR, hl0, hS, hL, hlr, q⟩ := h
    refine ⟨_, (pss_cons (ps_set (i := 3) sc_law_bare_rows.nd rfl (.inl rfl) (pe_lst pa_nil))
      (pss_cons (ps_set (i := 4) sc_law_bare_rows.nd rfl (.inl rfl) pe_dnewK)
      (pss_cons (ps_for PassesOwn.never rfl (pi_range1 (by rfl) T.m_range (pa_cons (pe_callB call_len_seq (by rfl) T.m_len PySem.boot_len (pa_cons (pv 1) pa_nil)) pa_nil)) (pg_name (i := 5) sc_law_bare_rows.nd rfl (.inl rfl)) (pss_cons (ps_set (i := 6) sc_law_bare_rows.nd rfl (.inl rfl) (pe_ix ix_list (pv 1) (pv 5) (fun _ _ => rfl)))
      (C8.pss_cut (ps_set (i := 7) sc_law_bare_rows.nd rfl (.inl rfl) (pe_or (pe_cmpR op_eq (pe_op op_add (pv 5) pe_int) (pe_callB call_len_seq (by rfl) T.m_len PySem.boot_len (pa_cons (pv 1) pa_nil)) (nomark _)) (pe_one (pe_cmpR op_le (pe_ix ix_list (pv 1) (pe_op op_add (pv 5) pe_int) (fun _ _ => rfl)) (pv 6) (nomark _)))))
      (pss_cons (ps_set (i := 8) sc_law_bare_rows.nd rfl (.inl rfl) (pe_dget2 (hu_of hr) (pv 4) (pe_op op_sub (pv 6) pe_int) pe_bl ⟨rfl, rfl, rfl, rfl⟩))
      (pss_cons (ps_dput (hu_of hr) (pv 4) (pv 6) pe_bl rfl)
      (pss_cons (ps_set (i := 9) sc_law_bare_rows.nd rfl (.inl rfl) (pe_call G_law_draw hr_law_draw (by rfl) T.g_law_draw T.F_law_draw.kp T.b_law_draw .nil pass0 (pa_cons (pv 0) (pa_cons pe_int pa_nil))))
      (pss_cons (ps_set (i := 10) sc_law_bare_rows.nd rfl (.inl rfl) (pe_call G_law_word hr_law_word (by rfl) T.g_law_word T.F_law_word.kp T.b_law_word .nil pass0 (pa_cons (pv 0) (pa_cons pe_str (pa_cons pe_int (pa_cons pe_int pa_nil))))))
      (pss_one (ps_if (PW.pt (pw_and (pt_val (pv 2)) (pw_and1 (pt_cmpR op_eq (pv 5) pe_int (nomark _))))) (pss_one (ps_expr (pe_bm PySem.F.plainAttrs_list PySem.F.slot_list_append PySem.F.type_list_append mt_append (pv 3) (pa_cons (pe_tup (pa_cons (pv 6) (pa_cons pe_str (pa_cons pe_str (pa_cons pe_int (pa_cons pe_int (pa_cons pe_int (pa_cons pe_int (pa_cons (pe_un un_neg pe_int) (pa_cons pe_int pa_nil)))))))))) pa_nil)))) (pss_one (ps_if (PW.pt (pw_and (pt_val (pv 2)) (pw_and1 (pt_cmpR op_eq (pe_op op_add (pv 5) pe_int) (pe_callB call_len_seq (by rfl) T.m_len PySem.boot_len (pa_cons (pv 1) pa_nil)) (nomark _))))) (pss_cons (ps_set (i := 11) sc_law_bare_rows.nd rfl (.inl rfl) (pe_callB (call_max2 rfl) (by rfl) T.m_max (by decide +kernel) (pa_cons pe_int (pa_cons (pe_op op_sub (pe_call G_law_draw hr_law_draw (by rfl) T.g_law_draw T.F_law_draw.kp T.b_law_draw .nil pass0 (pa_cons (pv 0) (pa_cons pe_int pa_nil))) pe_int) pa_nil))))
      (pss_one (ps_expr (pe_bm PySem.F.plainAttrs_list PySem.F.slot_list_append PySem.F.type_list_append mt_append (pv 3) (pa_cons (pe_tup (pa_cons (pv 6) (pa_cons pe_str (pa_cons pe_str (pa_cons (pe_call G_law_draw hr_law_draw (by rfl) T.g_law_draw T.F_law_draw.kp T.b_law_draw .nil pass0 (pa_cons (pv 0) (pa_cons pe_int pa_nil))) (pa_cons (pv 11) (pa_cons (pv 11) (pa_cons (pe_op op_add (pv 11) pe_int) (pa_cons (pe_un un_neg pe_int) (pa_cons pe_int pa_nil)))))))))) pa_nil))))) (pss_one (ps_if (PW.pt (pw_and (pt_val (pv 7)) (pw_and (PW.pt (pw_or (pt_cmpR op_gt (pv 9) pe_int (nomark _)) (pw_or1 (pt_val (pv 8))))) (pw_and1 (pt_not (PW.pt (pw_and (pt_val (pv 2)) (pw_and1 (pt_cmpR op_eq (pv 5) pe_int (nomark _)))))))))) (pss_one (ps_expr (pe_bm PySem.F.plainAttrs_list PySem.F.slot_list_append PySem.F.type_list_append mt_append (pv 3) (pa_cons (pe_call G_law_leaf_row hr_law_leaf_row (by rfl) T.g_law_leaf_row T.F_law_leaf_row.kp T.b_law_leaf_row .nil pass0 (pa_cons (pv 0) (pa_cons (pv 6) (pa_cons (pv 8) (pa_cons (pe_cmpR op_gt (pe_callB call_len_seq (by rfl) T.m_len PySem.boot_len (pa_cons (pv 1) pa_nil)) pe_int (nomark _)) pa_nil))))) pa_nil)))) (pss_one (ps_if (PW.pt (pw_and (pt_cmpR op_eq (pe_op op_mod (pv 9) pe_int) pe_int (nomark _)) (pw_and1 (pt_cmpR op_eq (pe_call G_law_draw hr_law_draw (by rfl) T.g_law_draw T.F_law_draw.kp T.b_law_draw .nil pass0 (pa_cons (pv 0) (pa_cons pe_int pa_nil))) pe_int (nomark _))))) (C8.pss_cut (ps_dput (hu_of hr) (pv 4) (pv 6) (pe_and (pe_call G_law_flat hr_law_flat (by rfl) T.g_law_flat T.F_law_flat.kp T.b_law_flat .nil pass0 (pa_cons (pv 1) (pa_cons (pv 5) pa_nil))) (pe_one (pe_cmpR op_eq (pe_call G_law_draw hr_law_draw (by rfl) T.g_law_draw T.F_law_draw.kp T.b_law_draw .nil pass0 (pa_cons (pv 0) (pa_cons pe_int pa_nil))) pe_int (nomark _)))) rfl)
      (pss_one (ps_expr (pe_bm PySem.F.plainAttrs_list PySem.F.slot_list_append PySem.F.type_list_append mt_append (pv 3) (pa_cons (pe_tup (pa_cons (pv 6) (pa_cons pe_str (pa_cons (pv 10) (pa_cons (pe_call G_law_draw hr_law_draw (by rfl) T.g_law_draw T.F_law_draw.kp T.b_law_draw .nil pass0 (pa_cons (pv 0) (pa_cons pe_int pa_nil))) (pa_cons pe_int (pa_cons pe_int (pa_cons pe_int (pa_cons (pe_un un_neg pe_int) (pa_cons (pe_op op_sub pe_int (pe_callTy call_int1 (by rfl) T.m_int (by decide +kernel) (pa_cons (pe_dget (hu_of hr) (pv 4) (pv 6) (fun _ _ => rfl)) pa_nil))) pa_nil)))))))))) pa_nil))))) (pss_one (ps_expr (pe_bm PySem.F.plainAttrs_list PySem.F.slot_list_append PySem.F.type_list_append mt_append (pv 3) (pa_cons (pe_tup (pa_cons (pv 6) (pa_cons (pv 10) (pa_cons (pv 10) (pa_cons (pe_call G_law_draw hr_law_draw (by rfl) T.g_law_draw T.F_law_draw.kp T.b_law_draw .nil pass0 (pa_cons (pv 0) (pa_cons pe_int pa_nil))) (pa_cons pe_int (pa_cons pe_int (pa_cons (pe_call G_law_draw hr_law_draw (by rfl) T.g_law_draw T.F_law_draw.kp T.b_law_draw .nil pass0 (pa_cons (pv 0) (pa_cons pe_int pa_nil))) (pa_cons (pe_call G_law_draw hr_law_draw (by rfl) T.g_law_draw T.F_law_draw.kp T.b_law_draw .nil pass0 (pa_cons (pv 0) (pa_cons pe_int pa_nil))) (pa_cons pe_int pa_nil)))))))))) pa_nil)))))))))))))))))))
      (pss_one (ps_ret (pv 3)))))), ?_⟩
    refine ⟨by show 0 ≤ sizeLine; decide, fun D nD => ?_⟩
    have hD0 : (upd H D (.lst [])) D = some (.lst []) := upd_same
    have hDr : D ≠ r := (hR.ne nD).symm
    intro sk nsk
    have hskr : sk ≠ r := ((hR.new nD).ne nsk).symm
    have hskD : sk ≠ D := (ne_of_none hD0 nsk).symm
    have nsk0 : H sk = none := by rw [upd_ne hskD] at nsk; exact nsk
    have lev_at : ∀ {H' : Hp}, But r H H' → LevsAt H' l L := fun bb => bb _ _ hlr hl0
    refine ⟨_, rfl, l, _, rfl, .inl (SqL.of (lev_at ((But.new nD).trans (But.new nsk)))), ?_⟩
    refine ⟨_, rfl, by omega, by rw [List.length_map]; omega, ?_⟩
    refine for_range (lo := 0) (n := ((L.map V.int).length : Int).toNat) (fun i σ H' => BareSt b L r D sk H (2 * i) i H' ∧ ∃ (y5 y6 y7 y8 y9 y10 y11 : Option V), σ = [some (.ref r), some (.ref l), some (.bl b), some (.ref D), some (.ref sk), y5, y6, y7, y8, y9, y10, y11])
      ⟨⟨(But.new nD).trans (But.new nsk), (hR.new nD).new nsk, ⟨[], upd_same, Nat.le_refl _, fun k v e => by cases e⟩, [], [], by rw [upd_ne hskD.symm]; exact upd_same, .nil, rfl, fun k x e => by cases e⟩, none, none, none, none, none, none, none, rfl⟩ ?_ ?_
    · rintro i σ H2 hi ⟨S, y5, y6, y7, y8, y9, y10, y11, rfl⟩
      rw [List.length_map] at hi
      have hi : i < L.length := by omega
      obtain ⟨lv, hlv⟩ : ∃ lv, L[i]? = some lv := ⟨_, List.getElem?_eq_getElem hi⟩
      have at1 : atI (L.map V.int) (0 + (i : Int)) = some (.int lv) := by
        rw [show (0 : Int) + (i : Int) = (i : Int) by omega]
        exact atI_nat (by rw [List.getElem?_map, hlv]; rfl)
      have hl2 := lev_at S.but
      refine ⟨_, rfl, _, rfl, l, _, _, _, rfl, rfl, SqL.of hl2, at1, ?_⟩
      refine ⟨fun σ H' => H' = H2 ∧ ∃ c : Bool, σ = [some (.ref r), some (.ref l), some (.bl b), some (.ref D), some (.ref sk), some (.int (0 + (i : Int))), some (.int lv), some (.bl c), y8, y9, y10, y11] ∧ (c = true → ∀ y, L[i + 1]? = some y → y ≤ lv), ?_, ?_⟩
      · refine ⟨_, rfl, _, _, rfl, rfl, _, rfl, l, _, rfl, .inl (SqL.of hl2), rfl, _, rfl, ite2 (fun c => ?_) (fun c => ?_)⟩
        · have c : V.int (0 + (i : Int) + 1) = V.int ((L.map V.int).length : Int) := of_decide_eq_true c
          injection c with c
          rw [List.length_map] at c
          exact ⟨rfl, true, rfl, fun _ y hy => by rw [List.getElem?_eq_none (by omega)] at hy; cases hy⟩
        · have c : ¬ (i + 1 = L.length) := fun e => c (decide_eq_true (congrArg V.int (by rw [List.length_map]; omega)))
          obtain ⟨lw, hlw⟩ : ∃ lw, L[i + 1]? = some lw := ⟨_, List.getElem?_eq_getElem (by omega)⟩
          have at2 : atI (L.map V.int) (0 + (i : Int) + 1) = some (.int lw) := by
            rw [show (0 : Int) + (i : Int) + 1 = ((i + 1 : Nat) : Int) by omega]
            exact atI_nat (by rw [List.getElem?_map, hlw]; rfl)
          refine ⟨_, rfl, _, rfl, _, _, rfl, rfl, l, _, _, _, rfl, rfl, SqL.of hl2, at2, _, rfl, _, _, rfl, rfl, rfl, _, rfl, fun e y hy => ?_⟩
          rw [hlw] at hy
          obtain rfl : lw = y := Option.some.inj hy
          exact of_decide_eq_true e
      rintro σ H3 ⟨rfl, c, rfl, hc⟩
      obtain ⟨kvs, hk1, hk2, hk3⟩ := S.dict
      obtain ⟨sp, hsp⟩ : ∃ c : Bool, (valV kvs (.inl (lv - 1))).getD (.bl false) = .bl c := by
        cases hv : valV kvs (.inl (lv - 1)) with
        | none => exact ⟨false, rfl⟩
        | some v =>
          obtain ⟨c, rfl⟩ := hk3 _ _ hv
          exact ⟨c, rfl⟩
      refine ⟨_, rfl, sk, rfl, .inl ⟨kvs, .inl hk1⟩, _, rfl, _, _, rfl, rfl, _, DGet.k (k := .inl (lv - 1)) hk1, ?_⟩
      rw [hsp]
      obtain ⟨H4, hp4, _, S4, _⟩ := S.put nsk0 hskr hskD (by omega) lv false
      refine ⟨_, rfl, _, rfl, sk, H4, rfl, hp4, ?_⟩
      refine ⟨_, rfl, r, 6, rfl, S4.reel, by decide, fun f H5 f0 f1 b5 R5 => ?_⟩
      have S5 := S4.call hDr hskr b5 R5
      refine ⟨_, rfl, r, _, 1, 2, rfl, R5, by decide +kernel, by decide +kernel, by decide, by decide, by decide, fun x H6 x0 x1 _ b6 R6 => ?_⟩
      have S6 := S5.call hDr hskr b6 R6
      have kx := short_kind (x := x) (by omega)
      clear S4 S5 hp4 b5 R5 b6 R6
      have step : ∀ {H7 : Hp} {n : Nat} {d : Nd} {v : V}, BareSt b L r D sk H n i H7 → n ≤ 2 * (i + 1) → RwAt H7 v (lv, d) → RowFit b L i (lv, d) → ∃ acc, H7 D = some (.lst acc) ∧ acc.length < sizeLine ∧ BareSt b L r D sk H (2 * (i + 1)) (i + 1) (upd H7 D (.lst (acc ++ [v]))) := fun S7 hn hv hf => by
        obtain ⟨acc, a1, a2, a3⟩ := S7.app nD hDr hskD hv hlv (by omega) hf
        obtain ⟨kv, z1, z2, z3⟩ := a3.dict
        exact ⟨acc, a1, a2, ⟨a3.but, a3.reel, ⟨kv, z1, by omega, z3⟩, a3.rows⟩⟩
      have tup : ∀ {H7 : Hp} {n : Nat} {d : Nd}, BareSt b L r D sk H n i H7 → n ≤ 2 * (i + 1) → RowFit b L i (lv, d) → ∀ t, H7 t = none → ∃ acc, (upd H7 t (.tup (rwV (lv, d)))) D = some (.lst acc) ∧ acc.length < sizeLine ∧ BareSt b L r D sk H (2 * (i + 1)) (i + 1) (upd (upd H7 t (.tup (rwV (lv, d)))) D (.lst (acc ++ [V.ref t]))) := fun S7 hn hf t nt =>
        step (S7.call hDr hskr (But.new nt) (S7.reel.new nt)) hn ⟨t, rfl, upd_same⟩ hf
      refine g_if ?_
      refine ts_ite (A := b = true ∧ i = 0) (Ts.and (A := b = true) (B := i = 0) (fun Q q => ⟨_, rfl, b, rfl, q b Iff.rfl⟩) fun _ => (ts_eqI (m := 0 + (i : Int)) (z := 0) rfl).imp (by omega)) (fun h1 => ?_) (fun h1 => ?_)
      · obtain ⟨us, rows, g1, _⟩ := S6.rows
        refine ⟨_, rfl, .inl ⟨rfl, _, SqL.of g1⟩, _, rfl, 1, rfl, by show 9 ≤ sizeLine; decide, fun t nt => ?_⟩
        obtain ⟨acc, a1, a2, a3⟩ := tup (d := ⟨"root", "root", 0, 0, 0, 9, -1, 0⟩) S6 (by omega) ⟨fun e => (by rw [root_not (.inr (.inl rfl))] at e; cases e), fun _ => ⟨h1.2, h1.1⟩⟩ t nt
        exact ⟨D, acc, _, rfl, rfl, a1, a2, a3, _, _, _, _, _, _, _, rfl⟩
      have S6' := S6
      have R6 := S6.reel
      refine ts_ite (A := b = true ∧ i + 1 = L.length) (Ts.and (A := b = true) (B := i + 1 = L.length) (fun Q q => ⟨_, rfl, b, rfl, q b Iff.rfl⟩) fun _ Q q => ⟨_, rfl, _, _, rfl, rfl, _, rfl, l, _, rfl, .inl (SqL.of (lev_at S6.but)), rfl, _, rfl, q _ ?_⟩) (fun h2 => ?_) (fun h2 => ?_)
      · rw [decide_eq_true_eq]
        exact ⟨fun e => by injection e with e; rw [List.length_map] at e; omega, fun e => congrArg V.int (by rw [List.length_map]; omega)⟩
      · refine ⟨_, rfl, r, 6, rfl, R6, by decide, fun v H7 v0 v1 b7 R7 => ?_⟩
        refine ⟨_, _, rfl, rfl, _, _, rfl, ?_⟩
        obtain ⟨g, hg⟩ : ∃ g : Int, g = (if v - 3 > 0 then v - 3 else 0) := ⟨_, rfl⟩
        rw [← hg]
        have g0 : 0 ≤ g ∧ g ≤ 3 := by
          rw [hg]
          split <;> omega
        clear hg
        have S7 := S6.call hDr hskr b7 R7
        obtain ⟨us, rows, g1, _⟩ := S7.rows
        refine ⟨_, rfl, .inl ⟨rfl, _, SqL.of g1⟩, _, rfl, _, rfl, r, 40, rfl, R7, by decide, fun n H8 n0 n1 b8 R8 => ?_⟩
        refine ⟨_, rfl, _, rfl, _, rfl, _, _, rfl, rfl, 1, rfl, by show 9 ≤ sizeLine; decide, fun t nt => ?_⟩
        obtain ⟨acc, a1, a2, a3⟩ := tup (d := ⟨"end", "end", n, g, g, g + 1, -1, 0⟩) (S7.call hDr hskr b8 R8) (by omega) ⟨fun _ => ⟨g0.1, by show g ≤ 9; omega, fun y hy => by rw [List.getElem?_eq_none (by omega)] at hy; cases hy⟩, fun e => absurd e (show ("end" : Str) ≠ "root" by decide +kernel)⟩ t nt
        exact ⟨D, acc, _, rfl, rfl, a1, a2, a3, _, _, _, _, _, _, _, rfl⟩
      refine ts_ite (A := c = true ∧ (0 < f ∨ sp = true) ∧ ¬ (b = true ∧ i = 0 + 1)) (Ts.and (A := c = true) (fun Q q => ⟨_, rfl, c, rfl, q c Iff.rfl⟩) fun _ => Ts.and (A := 0 < f ∨ sp = true) (Ts.or (A := 0 < f) (B := sp = true) (ts_gtI rfl) fun _ Q q => ⟨_, rfl, sp, rfl, q sp Iff.rfl⟩) fun _ => Ts.not (Ts.and (A := b = true) (B := i = 0 + 1) (fun Q q => ⟨_, rfl, b, rfl, q b Iff.rfl⟩) fun _ => (ts_eqI (m := 0 + (i : Int)) (z := 1) rfl).imp (by omega))) (fun h3 => ?_) (fun h3 => ?_)
      · obtain ⟨us, rows, g1, _⟩ := S6.rows
        refine ⟨_, rfl, .inl ⟨rfl, _, SqL.of g1⟩, _, rfl, _, rfl, _, rfl, _, rfl, l, _, rfl, .inl (SqL.of (lev_at S6.but)), _, _, rfl, rfl, r, lv, sp, _, rfl, R6, fun v d H7 hv hd b7 R7 => ?_⟩
        have kr : d.kind ≠ "root" := fun e => by
          have := hd.leaf
          rw [root_not (.inr (.inl e))] at this
          cases this
        obtain ⟨acc, a1, a2, a3⟩ := step (d := d) (S6.call hDr hskr b7 R7) (by omega) hv ⟨fun _ => ⟨hd.w0, hd.w9, hc h3.1⟩, fun e => absurd e kr⟩
        exact ⟨D, acc, _, rfl, rfl, a1, a2, a3, _, _, _, _, _, _, _, rfl⟩
      refine if_ev (fun H' => BareSt b L r D sk H (2 * i + 1) i H') (fun Qb qb => ?_) (fun H7 S7 => ?_) (fun H7 S7 => ?_)
      · refine ⟨_, rfl, _, _, rfl, rfl, by show (0 : Int) < 2; decide, rfl, _, rfl, ite2 (fun _ => ?_) (fun _ => qb _ _ S6)⟩
        exact ⟨_, rfl, r, 2, rfl, R6, by decide, fun v H7 v0 v1 b7 R7 => ⟨rfl, _, rfl, qb _ _ (S6.call hDr hskr b7 R7)⟩⟩
      · refine ⟨fun σ H' => BareSt b L r D sk H (2 * i + 1 + 1) i H' ∧ (∃ kvs c, H' sk = some (.dK kvs) ∧ valV kvs (.inl lv) = some (.bl c)) ∧ σ = [some (.ref r), some (.ref l), some (.bl b), some (.ref D), some (.ref sk), some (.int (0 + (i : Int))), some (.int lv), some (.bl c), some (.bl sp), some (.int f), some (.str x), y11], ?_, ?_⟩
        · have put : ∀ (H8 : Hp) (e : Bool), BareSt b L r D sk H (2 * i + 1) i H8 → ∃ H9, DPut H8 sk (.int lv) (.bl e) H9 ∧ BareSt b L r D sk H (2 * i + 1 + 1) i H9 ∧ ∃ kvs c, H9 sk = some (.dK kvs) ∧ valV kvs (.inl lv) = some (.bl c) := fun H8 e S8 => by
            obtain ⟨H9, p1, ⟨kvs, p2, p3⟩, p4, _⟩ := S8.put nsk0 hskr hskD (by omega) lv e
            exact ⟨H9, p1, p4, kvs, e, p2, p3⟩
          refine ⟨_, rfl, _, rfl, l, L, i, by show [V.ref l, V.int (0 + (i : Int))] = _; rw [Int.zero_add], lev_at S7.but, hi, by omega, fun e => ⟨e, rfl, ?_⟩⟩
          cases e with
          | false =>
            obtain ⟨H9, p1, p2, p3⟩ := put _ false S7
            exact iteF ⟨_, rfl, _, rfl, sk, H9, rfl, p1, p2, p3, rfl⟩
          | true =>
            refine iteT ⟨_, rfl, r, 2, rfl, S7.reel, by decide, fun v H8 v0 v1 b8 R8 => ⟨rfl, ?_⟩⟩
            obtain ⟨H9, p1, p2, p3⟩ := put _ _ (S7.call hDr hskr b8 R8)
            exact ⟨_, rfl, _, rfl, sk, H9, rfl, p1, p2, p3, rfl⟩
        rintro σ H8 ⟨S8, ⟨kv, e, hk8, hv8⟩, rfl⟩
        obtain ⟨us, rows, g1, _⟩ := S8.rows
        refine ⟨_, rfl, .inl ⟨rfl, _, SqL.of g1⟩, _, rfl, _, rfl, _, rfl, r, 40, rfl, S8.reel, by decide, fun n H9 n0 n1 b9 R9 => ?_⟩
        have hk9 := b9 _ _ hskr hk8
        refine ⟨1, rfl, _, rfl, _, rfl, sk, .bl e, rfl, hv8 ▸ DGet.k (k := .inl lv) hk9, .inr ⟨e, rfl, ?_⟩⟩
        refine ⟨_, _, rfl, rfl, by show 9 ≤ sizeLine; decide, fun t nt => ?_⟩
        obtain ⟨acc, a1, a2, a3⟩ := tup (d := ⟨"error", x, n, 0, 0, 9, -1, 1 - (if e = true then 1 else 0)⟩) (S8.call hDr hskr b9 R9) (by omega) (fit_not (root_not (.inl rfl)) (show ("error" : Str) ≠ "root" by decide +kernel)) t nt
        exact ⟨D, acc, _, rfl, rfl, a1, a2, a3, _, _, _, _, _, _, _, rfl⟩
      · obtain ⟨us, rows, g1, _⟩ := S7.rows
        refine ⟨_, rfl, .inl ⟨rfl, _, SqL.of g1⟩, _, rfl, _, rfl, _, rfl, _, rfl, r, 40, rfl, S7.reel, by decide, fun n H8 n0 n1 b8 R8 => ?_⟩
        refine ⟨_, rfl, r, 9, rfl, R8, by decide, fun o H9 o0 o1 b9 R9 => ⟨_, rfl, r, 60, rfl, R9, by decide, fun a H10 a0 a1 b10 R10 => ?_⟩⟩
        refine ⟨by show 9 ≤ sizeLine; decide, fun t nt => ?_⟩
        obtain ⟨acc, a1, a2, a3⟩ := tup (d := ⟨x, x, n, 0, 0, o, a, 0⟩) (((S7.call hDr hskr b8 R8).call hDr hskr b9 R9).call hDr hskr b10 R10) (by omega) (fit_not (root_not (.inr (.inr (by show a ≠ -1; omega)))) kx.2) t nt
        exact ⟨D, acc, _, rfl, rfl, a1, a2, a3, _, _, _, _, _, _, _, rfl⟩
    · rintro σ H2 ⟨S, y5, y6, y7, y8, y9, y10, y11, rfl⟩
      obtain ⟨us, rows, g1, g2, g3, g4⟩ := S.rows
      rw [List.length_map, show ((L.length : Nat) : Int).toNat = L.length by omega, List.take_length] at g3
      exact ⟨_, rfl, q D us rows H2 g1 g2 g3 g4 nD S.but S.reel⟩

/-! ### widths that add up -/
def sumZ : List Int → Int
  | [] => 0
  | x :: xs => x + sumZ xs
theorem sumZ_app : ∀ xs ys : List Int, sumZ (xs ++ ys) = sumZ xs + sumZ ys
  | [], ys => (Int.zero_add _).symm
  | x :: xs, ys => by
    show x + sumZ (xs ++ ys) = x + sumZ xs + sumZ ys
    rw [sumZ_app xs ys]
    omega
def wids (ks : List Tr) : List Int := ks.map fun t => t.d.wid
mutual
/-- leaves have no children; other nodes are as wide as their children together -/
def WOk : Tr → Prop
  | .mk _ d ks => (leafB d = false → d.wid = sumZ (wids ks)) ∧ (leafB d = true → ks = [] ∧ 0 ≤ d.wid) ∧ WOks ks
def WOks : List Tr → Prop
  | [] => True
  | t :: ts => WOk t ∧ WOks ts
end
theorem WOks.of : ∀ {ts : List Tr}, (∀ t ∈ ts, WOk t) → WOks ts
  | [], _ => True.intro
  | _ :: _, h => ⟨h _ List.mem_cons_self, WOks.of fun t ht => h t (List.mem_cons_of_mem _ ht)⟩
theorem WOks.mem : ∀ {ts : List Tr} {t : Tr}, WOks ts → t ∈ ts → WOk t
  | _ :: _, _, ⟨h1, h2⟩, hm => by
    rcases List.mem_cons.mp hm with rfl | hm
    · exact h1
    · exact WOks.mem h2 hm
mutual
theorem WOk.nn : ∀ {t : Tr}, WOk t → 0 ≤ t.d.wid
  | .mk _ d ks, ⟨h1, h2, h3⟩ => by
    show 0 ≤ d.wid
    cases hb : leafB d with
    | true => exact (h2 hb).2
    | false =>
      rw [h1 hb]
      exact WOks.nn h3
theorem WOks.nn : ∀ {ts : List Tr}, WOks ts → 0 ≤ sumZ (wids ts)
  | [], _ => Int.le_refl _
  | t :: ts, ⟨h1, h2⟩ => by
    have a := WOk.nn h1
    have b := WOks.nn h2
    show 0 ≤ t.d.wid + sumZ (wids ts)
    omega
end
/-! ### the rows made to fit -/
/-- a fitted row: a leaf's as it was, else with another lead, width and number of popped nodes -/
def FitR (x y : Rw) : Prop := y.1 = x.1 ∧ y.2.kind = x.2.kind ∧ y.2.alt = x.2.alt ∧ (leafB x.2 = true → y = x)
theorem FitR.leaf {x y : Rw} (h : FitR x y) : leafB y.2 = leafB x.2 := by
  unfold leafB
  rw [h.2.1, h.2.2.1]
/-- what waits: level, width, lead -/
abbrev Wt := Int × Int × Int
def wk (x : Wt) : Int × Int := (x.1, x.2.1)
def gk (p : Lt) : Int × Int := (p.1, p.2.d.wid)
theorem tw_map (lv : Int) : ∀ (G : List Lt) (bt rest : List Wt), G.map gk = (bt ++ rest).map wk → (∀ x ∈ bt, x.1 = lv) → (∀ x, rest.head? = some x → x.1 ≠ lv) →
    (G.takeWhile fun p => p.1 == lv).map gk = bt.map wk ∧ (G.dropWhile fun p => p.1 == lv).map gk = rest.map wk
  | [], bt, rest, e, _, _ => by
    have e1 := congrArg List.length e
    rw [List.map_nil, List.length_map, List.length_append] at e1
    have h1 : bt = [] := List.length_eq_zero_iff.mp (by have : ([] : List (Int × Int)).length = 0 := rfl; omega)
    have h2 : rest = [] := List.length_eq_zero_iff.mp (by have : ([] : List (Int × Int)).length = 0 := rfl; omega)
    rw [h1, h2]
    exact ⟨rfl, rfl⟩
  | p :: G, [], [], e, _, _ => by cases e
  | p :: G, [], x :: rest, e, _, h => by
    have e : gk p :: G.map gk = wk x :: rest.map wk := e
    injection e with e1 e2
    have e3 : p.1 = x.1 := congrArg Prod.fst e1
    have hx := h x rfl
    have hp : (p.1 == lv) = false := by rw [e3]; exact beq_eq_false_iff_ne.mpr hx
    rw [List.takeWhile_cons, List.dropWhile_cons, hp]
    refine ⟨rfl, ?_⟩
    show gk p :: G.map gk = wk x :: rest.map wk
    rw [e1, e2]
  | p :: G, x :: bt, rest, e, hb, h => by
    have e : gk p :: G.map gk = wk x :: (bt ++ rest).map wk := e
    injection e with e1 e2
    have e3 : p.1 = x.1 := congrArg Prod.fst e1
    have hp : (p.1 == lv) = true := by rw [e3, hb x List.mem_cons_self, beq_self_eq_true]
    obtain ⟨i1, i2⟩ := tw_map lv G bt rest e2 (fun y hy => hb y (List.mem_cons_of_mem _ hy)) h
    rw [List.takeWhile_cons, List.dropWhile_cons, hp, if_pos rfl, if_pos rfl]
    refine ⟨?_, i2⟩
    show gk p :: _ = wk x :: _
    rw [e1, i1]
/-- what stands behind the loop over the rows from the right -/
def PropOk (rs : List Rw) (ws : List Wt) : Prop := ∀ as : List Addr, as.length = rs.length → (grow (rasOf rs as)).map gk = ws.map wk ∧ ∀ p ∈ grow (rasOf rs as), WOk p.2
theorem grow_ras {y : Rw} {rs : List Rw} {a : Addr} {as : List Addr} : grow (rasOf (y :: rs) (a :: as)) = (y.1, .mk a y.2 (((grow (rasOf rs as)).takeWhile fun p => p.1 == y.1 + 1).map Prod.snd)) :: (grow (rasOf rs as)).dropWhile fun p => p.1 == y.1 + 1 := rfl
theorem sum_gk : ∀ G : List Lt, sumZ (wids (G.map Prod.snd)) = sumZ (G.map fun p => (gk p).2)
  | [] => rfl
  | p :: G => by
    exact congrArg (p.2.d.wid + ·) (sum_gk G)
theorem sum_wk {G : List Lt} {bt : List Wt} (h : G.map gk = bt.map wk) : sumZ (wids (G.map Prod.snd)) = sumZ (bt.map fun x => x.2.1) := by
  rw [sum_gk]
  have := congrArg (fun l => sumZ (l.map Prod.snd)) h
  simp only [List.map_map] at this
  exact this
/-- an inner node's row: it takes what waits one level below -/
theorem PropOk.inner {rs : List Rw} {bt rest : List Wt} {y : Rw} {f : Int} (h : PropOk rs (bt ++ rest)) (hb : ∀ x ∈ bt, x.1 = y.1 + 1) (hr : ∀ x, rest.head? = some x → x.1 ≠ y.1 + 1) (hl : leafB y.2 = false) (hw : y.2.wid = sumZ (bt.map fun x => x.2.1)) :
    PropOk (y :: rs) ((y.1, y.2.wid, f) :: rest) := fun as la => by
  cases as with
  | nil => cases la
  | cons a as =>
    obtain ⟨e, w⟩ := h as (by simpa using la)
    obtain ⟨e1, e2⟩ := tw_map (y.1 + 1) _ bt rest e hb hr
    rw [grow_ras]
    refine ⟨?_, fun p hp => ?_⟩
    · show gk _ :: _ = wk _ :: _
      rw [e2]
      rfl
    · rcases List.mem_cons.mp hp with rfl | hp
      · refine ⟨fun _ => ?_, fun z => (by rw [hl] at z; cases z), WOks.of fun t ht => ?_⟩
        · rw [hw, sum_wk e1]
        · obtain ⟨p, hp, rfl⟩ := List.mem_map.mp ht
          exact w p (mem_takeW hp).2
      · exact w p (mem_dropW hp)
/-- a leaf's row: nothing stands below it -/
theorem PropOk.leaf {rs : List Rw} {ws : List Wt} {y : Rw} {f : Int} (h : PropOk rs ws) (hr : ∀ x, rs.head? = some x → x.1 ≤ y.1) (hl : leafB y.2 = true) (hw : 0 ≤ y.2.wid) : PropOk (y :: rs) ((y.1, y.2.wid, f) :: ws) := fun as la => by
  cases as with
  | nil => cases la
  | cons a as =>
    obtain ⟨e, w⟩ := h as (by simpa using la)
    have hh : ∀ x, ws.head? = some x → x.1 ≠ y.1 + 1 := fun x hx => by
      cases ws with
      | nil => cases hx
      | cons z ws =>
        obtain rfl : z = x := Option.some.inj hx
        cases rs with
        | nil =>
          have e : ([] : List Lt).map gk = _ := e
          cases e
        | cons r rs =>
          cases as with
          | nil => have la : 1 = rs.length + 1 + 1 := la; omega
          | cons b bs =>
            rw [grow_ras] at e
            have e : gk _ :: _ = wk z :: _ := e
            injection e with e1 e2
            have e3 : r.1 = z.1 := congrArg Prod.fst e1
            have := hr r rfl
            omega
    obtain ⟨e1, e2⟩ := tw_map (y.1 + 1) _ [] ws e (fun x hx => absurd hx List.not_mem_nil) hh
    have e1 : (((grow (rasOf rs as)).takeWhile fun p => p.1 == y.1 + 1)) = [] := by
      cases h : (grow (rasOf rs as)).takeWhile fun p => p.1 == y.1 + 1 with
      | nil => rfl
      | cons p l =>
        rw [h] at e1
        cases e1
    rw [grow_ras, e1]
    refine ⟨?_, fun p hp => ?_⟩
    · show gk _ :: _ = wk _ :: _
      rw [e2]
      rfl
    · rcases List.mem_cons.mp hp with rfl | hp
      · exact ⟨fun z => (by rw [hl] at z; cases z), fun _ => ⟨rfl, hw⟩, True.intro⟩
      · exact w p (mem_dropW hp)

/-! ### _law_proper -/
def WtAt (H : Hp) (v : V) (x : Wt) : Prop := ∃ g, v = .ref g ∧ H g = some (.tup [.int x.1, .int x.2.1, .int x.2.2])
theorem WtAt.tups {H H' : Hp} (t : Tups H H') {v : V} {x : Wt} (h : WtAt H v x) : WtAt H' v x := by
  obtain ⟨g, e, k⟩ := h
  exact ⟨g, e, t _ _ k⟩
/-- the state behind i rows, from the right -/
structure PropSt (rows : List Rw) (H0 : Hp) (F wl : Addr) (i : Nat) (rs : List Rw) (ws : List Wt) (H' : Hp) : Prop where
  same : Same H0 H'
  fit : ∃ us, H' F = some (.lst us) ∧ Paired (RwAt H') us (rows.take (rows.length - i) ++ rs)
  fr : Paired FitR (rows.drop (rows.length - i)) rs
  wt : ∃ vs : List V, H' wl = some (.lst vs.reverse) ∧ Paired (WtAt H') vs ws
  ok : PropOk rs ws
  len : ws.length ≤ i
def spProper (b : Bool) (L : List Int) : Sp := fun vs H Q _ => ∃ (l : Addr) (us : List V) (rows : List Rw), vs = [.ref l] ∧ H l = some (.lst us) ∧ Paired (RwAt H) us rows ∧ rows.map Prod.fst = L ∧ Fits b L rows ∧ rows.length ≤ 5000 ∧
  ∀ F us' rs H', H' F = some (.lst us') → Paired (RwAt H') us' rs → Paired FitR rows rs → (∃ ws, PropOk rs ws) → H F = none → Same H H' → Q (.ref F) H'
theorem ok_proper (T : Txt K mg) (b : Bool) (L : List Int) : FnOk P w K mg base CX0 2 T.a_law_proper T.fd_law_proper ["rows"] (spProper b L) := by
  have G_law_is_leaf : FnOk P w K mg base CX0 1 T.a_law_is_leaf T.fd_law_is_leaf ["row"] (spRowB K) := ok_is_leafL T
  refine T.F_law_proper.ok sc_law_proper (fun vs H Q E h => ?_) (fun cdv A outer s H vs Q E hr h => ?_)
  · obtain ⟨l, us, rows, rfl, _⟩ := h
    rfl
  · have hr_law_is_leaf : Room 1 _ := hr
    obtain ⟨l, us, rows, rfl, hl, hu, hL, hF, ln, q⟩ := h
    refine ⟨_, (pss_cons (ps_set (i := 1) sc_law_proper.nd rfl (.inl rfl) (pe_callTy call_list_of (by rfl) T.m_list (by decide +kernel) (pa_cons (pv 0) pa_nil)))
      (pss_cons (ps_set (i := 2) sc_law_proper.nd rfl (.inl rfl) (pe_lst pa_nil))
      (pss_cons (ps_for PassesOwn.never rfl (pi_range3 (by rfl) T.m_range (pa_cons (pe_op op_sub (pe_callB call_len_seq (by rfl) T.m_len PySem.boot_len (pa_cons (pv 0) pa_nil)) pe_int) (pa_cons (pe_un un_neg pe_int) (pa_cons (pe_un un_neg pe_int) pa_nil)))) (pg_name (i := 3) sc_law_proper.nd rfl (.inl rfl)) (pss_cons (ps_set (i := 4) sc_law_proper.nd rfl (.inl rfl) (pe_ix ix_list (pv 0) (pv 3) (fun _ _ => rfl)))
      (pss_cons (ps_set (i := 5) sc_law_proper.nd rfl (.inl rfl) (pe_ix ix_tup (pv 4) pe_int (fun _ _ => rfl)))
      (pss_cons (ps_set (i := 6) sc_law_proper.nd rfl (.inl rfl) (pe_ix ix_tup (pv 4) pe_int (fun _ _ => rfl)))
      (C8.pss_cut (ps_if (pt_not (pt_val (pe_call G_law_is_leaf hr_law_is_leaf (by rfl) T.g_law_is_leaf T.F_law_is_leaf.kp T.b_law_is_leaf .nil pass0 (pa_cons (pv 4) pa_nil)))) (pss_cons (ps_set (i := 5) sc_law_proper.nd rfl (.inl rfl) pe_int)
      (pss_cons (ps_set (i := 6) sc_law_proper.nd rfl (.inl rfl) (pe_un un_neg pe_int))
      (pss_cons (ps_set (i := 7) sc_law_proper.nd rfl (.inl rfl) pe_int)
      (pss_cons (ps_while PassesOwn.never (PW.pt (pw_and (pt_truth (pv 2) (by intro _; rfl)) (pw_and1 (pt_cmpR op_eq (pe_ix ix_tup (pe_ix ix_list (pv 2) (pe_op op_sub (pe_callB call_len_seq (by rfl) T.m_len PySem.boot_len (pa_cons (pv 2) pa_nil)) pe_int) (fun _ _ => rfl)) pe_int (fun _ _ => rfl)) (pe_op op_add (pe_ix ix_tup (pv 4) pe_int (fun _ _ => rfl)) pe_int) (nomark _))))) (pss_cons (ps_set (i := 8) sc_law_proper.nd rfl (.inl rfl) (pe_bm0 PySem.F.plainAttrs_list PySem.F.slot_list_pop PySem.F.type_list_pop mt_pop (pv 2)))
      (pss_cons (ps_set (i := 5) sc_law_proper.nd rfl (.inl rfl) (pe_op op_add (pv 5) (pe_ix ix_tup (pv 8) pe_int (fun _ _ => rfl))))
      (pss_cons (ps_set (i := 7) sc_law_proper.nd rfl (.inl rfl) (pe_op op_add (pv 7) pe_int))
      (pss_one (ps_if (pt_cmpR op_lt (pv 6) pe_int (nomark _)) (pss_one (ps_set (i := 6) sc_law_proper.nd rfl (.inl rfl) (pe_ix ix_tup (pv 8) pe_int (fun _ _ => rfl)))) pss_nil))))))
      (pss_one (ps_asg (pe_op op_catT (pe_op op_catT (pe_op op_catT (pe_slice sl_tup (pv 4) po_none (po_some pe_int)) (pe_tup (pa_cons (pe_callB (call_max2 rfl) (by rfl) T.m_max (by decide +kernel) (pa_cons (pv 6) (pa_cons pe_int pa_nil))) (pa_cons (pv 5) pa_nil)))) (pe_slice sl_tup (pv 4) (po_some pe_int) (po_some pe_int))) (pe_tup (pa_cons (pe_op op_mul (pe_ix ix_tup (pv 4) pe_int (fun _ _ => rfl)) (pv 7)) pa_nil))) (pg_sub (pv 1) (pv 3) set_list))))))) pss_nil)
      (pss_one (ps_expr (pe_bm PySem.F.plainAttrs_list PySem.F.slot_list_append PySem.F.type_list_append mt_append (pv 2) (pa_cons (pe_tup (pa_cons (pe_ix ix_tup (pv 4) pe_int (fun _ _ => rfl)) (pa_cons (pv 5) (pa_cons (pv 6) pa_nil)))) pa_nil)))))))))
      (pss_one (ps_ret (pv 1)))))), ?_⟩
    have lus := paired_len hu
    refine ⟨_, rfl, l, _, rfl, .inl (SqL.of hl), fun F nF => ?_⟩
    have s1 := same_upd (o := .lst us) nF
    refine ⟨by show 0 ≤ sizeLine; decide, fun wl nw => ?_⟩
    have s2 := same_upd (o := .lst []) nw
    have hFw : F ≠ wl := ne_of_none (show (upd H F (.lst us)) F = some (.lst us) from upd_same) nw
    have nw0 : H wl = none := s1.free nw
    have s02 := s1.trans s2
    refine ⟨_, rfl, l, us, rfl, .inl (SqL.of (s02 _ _ hl)), ?_⟩
    rw [lus]
    refine ⟨_, _, rfl, rfl, 1, rfl, 1, rfl, _, _, _, rows.length, rfl, rg_down (by omega), ?_⟩
    have tp : ∀ {H H' : Hp}, Same H H' → Tups H H' := fun s c xs e => s _ _ e
    refine for_it (walk_rangeC (lo := ((rows.length : Nat) : Int) - 1) (c := -1) (n := rows.length)) (fun i σ H' => i ≤ rows.length ∧ ∃ (rs : List Rw) (ws : List Wt) (y3 y4 y5 y6 y7 y8 : Option V), σ = [some (.ref l), some (.ref F), some (.ref wl), y3, y4, y5, y6, y7, y8] ∧ PropSt rows H F wl i rs ws H')
      ⟨Nat.zero_le _, [], [], none, none, none, none, none, none, rfl, s02, ⟨us, s2 _ _ upd_same, by rw [Nat.sub_zero, List.take_length, List.append_nil]; exact Paired.mapP hu fun _ _ h => h.tups (tp s02)⟩, by rw [Nat.sub_zero, List.drop_length]; exact .nil, ⟨[], upd_same, .nil⟩, fun as la => ⟨by rw [show as = [] from List.length_eq_zero_iff.mp la]; rfl, fun p hp => by rw [show as = [] from List.length_eq_zero_iff.mp la] at hp; cases hp⟩, Nat.le_refl _⟩ (fun _ _ _ _ _ => True.intro) ?_ ?_
    · rintro i x σ H1 H2 hi ⟨_, rs, ws, y3, y4, y5, y6, y7, y8, rfl, S⟩ ⟨rfl, hxe⟩
      obtain ⟨k, hk⟩ : ∃ k, k = rows.length - 1 - i := ⟨_, rfl⟩
      have ek : ((rows.length : Nat) : Int) - 1 + ((i : Nat) : Int) * -1 = (k : Int) := by omega
      have kn : k < rows.length := by omega
      obtain ⟨rk, hrk⟩ : ∃ r, rows[k]? = some r := ⟨_, List.getElem?_eq_getElem kn⟩
      obtain ⟨x', hx', g, rfl, hg0⟩ := paired_get hu hrk
      have hl2 := S.same _ _ hl
      have hg2 := S.same _ _ hg0
      obtain ⟨lk, dk⟩ := rk
      obtain rfl : x = V.int (k : Int) := hxe.trans (congrArg V.int ek)
      have at_ : ∀ (n : Nat) (v : V), (rwV (lk, dk))[n]? = some v → atI (rwV (lk, dk)) (n : Int) = some v := fun n v h => atI_nat h
      refine ⟨_, rfl, _, rfl, l, us, _, _, rfl, rfl, SqL.of hl2, atI_nat hx', ?_⟩
      refine ⟨_, rfl, g, _, 5, _, rfl, rfl, SqT.of hg2, at_ 5 _ rfl, ?_⟩
      refine ⟨_, rfl, g, _, 4, _, rfl, rfl, SqT.of hg2, at_ 4 _ rfl, ?_⟩
      have fit := hF k _ hrk
      have edrop : rows.drop (rows.length - (i + 1)) = (lk, dk) :: rows.drop (rows.length - i) := by
        rw [show rows.length - (i + 1) = k by omega, show rows.length - i = k + 1 by omega]
        exact drop_at hrk
      have etake : rows.take (rows.length - i) = rows.take k ++ [(lk, dk)] := by
        rw [show rows.length - i = k + 1 by omega]
        exact takeN hrk
      refine ⟨fun σ H' => ∃ (y : Rw) (ws' : List Wt) (vs' : List V) (f : Int) (y7 y8 : Option V), σ = [some (.ref l), some (.ref F), some (.ref wl), some (.int (k : Int)), some (.ref g), some (.int y.2.wid), some (.int f), y7, y8] ∧ Same H H' ∧ (∃ us, H' F = some (.lst us) ∧ Paired (RwAt H') us (rows.take k ++ y :: rs)) ∧ FitR (lk, dk) y ∧
          H' wl = some (.lst vs'.reverse) ∧ Paired (WtAt H') vs' ws' ∧ (∀ f, PropOk (y :: rs) ((y.1, y.2.wid, f) :: ws')) ∧ ws'.length ≤ i, ?_, ?_⟩
      · obtain ⟨us2, hF2, hp2⟩ := S.fit
        obtain ⟨vs2, hw2, hv2⟩ := S.wt
        refine ⟨_, rfl, g, lk, dk, rfl, SqT.of hg2, ?_⟩
        refine ⟨_, rfl, ?_⟩
        cases hb : leafB dk with
        | true =>
          refine iteF ⟨(lk, dk), ws, vs2, dk.lead, _, _, rfl, S.same, ⟨us2, hF2, ?_⟩, ⟨rfl, rfl, rfl, fun _ => rfl⟩, hw2, hv2, fun f => S.ok.leaf (y := (lk, dk)) (fun z hz => ?_) hb (fit.1 hb).1, S.len⟩
          · rw [etake, List.append_assoc] at hp2
            exact hp2
          · have e1 : rows.length - i = k + 1 := by omega
            have fr := S.fr
            rw [e1] at fr
            cases rs with
            | nil => cases hz
            | cons z2 rs =>
              obtain rfl : z2 = z := Option.some.inj hz
              cases hd : rows.drop (k + 1) with
              | nil =>
                rw [hd] at fr
                cases fr
              | cons r2 rest =>
                rw [hd] at fr
                cases fr with
                | cons h _ =>
                  rw [h.1]
                  have e2 : rows[k + 1]? = some r2 := by
                    have := congrArg List.head? hd
                    rw [List.head?_drop] at this
                    exact this
                  exact (fit.1 hb).2.2 r2.1 (by rw [← hL, List.getElem?_map, e2]; rfl)
        | false =>
          refine iteT ⟨1, rfl, ?_⟩
          refine while_nat (m0 := ws.length) (fun mm σ H' => ∃ (bt rest : List Wt) (f ct : Int) (vs3 : List V) (y8 : Option V), σ = [some (.ref l), some (.ref F), some (.ref wl), some (.int (k : Int)), some (.ref g), some (.int (sumZ (bt.map fun x => x.2.1))), some (.int f), some (.int ct), y8] ∧ mm = rest.length ∧ ct = (bt.length : Int) ∧ ws = bt ++ rest ∧ (∀ x ∈ bt, x.1 = lk + 1) ∧
              Same H H' ∧ Tups H2 H' ∧ H' F = some (.lst us2) ∧ H' wl = some (.lst vs3.reverse) ∧ Paired (WtAt H') vs3 rest)
            (fun σ H' => ∃ (bt rest : List Wt) (f ct : Int) (vs3 : List V) (y8 : Option V), σ = [some (.ref l), some (.ref F), some (.ref wl), some (.int (k : Int)), some (.ref g), some (.int (sumZ (bt.map fun x => x.2.1))), some (.int f), some (.int ct), y8] ∧ ct = (bt.length : Int) ∧ ws = bt ++ rest ∧ (∀ x ∈ bt, x.1 = lk + 1) ∧ (∀ x, rest.head? = some x → x.1 ≠ lk + 1) ∧
              Same H H' ∧ Tups H2 H' ∧ H' F = some (.lst us2) ∧ H' wl = some (.lst vs3.reverse) ∧ Paired (WtAt H') vs3 rest)
            ⟨[], ws, -1, 0, vs2, _, rfl, rfl, rfl, rfl, fun x hx => absurd hx List.not_mem_nil, S.same, Tups.refl _, hF2, hw2, hv2⟩ ?_ ?_
          · rintro mm σ H3 ⟨bt, rest, f, ct, vs3, y8, rfl, rfl, ect, ew, hbt, sm3, t3, hF3, hw3, hv3⟩
            have hg3 := sm3 _ _ hg0
            have lv3 := paired_len hv3
            have lw : bt.length + rest.length = ws.length := by rw [ew, List.length_append]
            have lws := S.len
            cases hv3 with
            | nil => exact ⟨false, fun Q hQ => ⟨_, rfl, false, .inl ⟨_, SqL.of hw3, rfl⟩, iteF hQ⟩, fun c => (by cases c), fun _ => ⟨bt, [], f, ct, [], _, rfl, ect, ew, hbt, fun x hx => (by cases hx), sm3, t3, hF3, hw3, .nil⟩⟩
            | @cons v x vs4 rest' hv hv4 =>
              obtain ⟨gp, rfl, hgp⟩ := id hv
              have wl4 : (V.ref gp :: vs4).reverse.length = vs4.length + 1 := by rw [List.length_reverse, List.length_cons]
              have wrev : (V.ref gp :: vs4).reverse = vs4.reverse ++ [V.ref gp] := List.reverse_cons
              have wlast : atI (V.ref gp :: vs4).reverse ((vs4.length + 1 : Nat) - 1 : Int) = some (.ref gp) := by
                rw [show ((vs4.length + 1 : Nat) : Int) - 1 = (vs4.length : Int) by omega]
                refine atI_nat ?_
                rw [wrev, List.getElem?_append_right (by rw [List.length_reverse]; exact Nat.le_refl _), List.length_reverse, Nat.sub_self]
                rfl
              refine ⟨decide (x.1 = lk + 1), fun Q hQ => ?_, fun c => ?_, fun c => ?_⟩
              · refine ⟨_, rfl, true, .inl ⟨_, SqL.of hw3, ?_⟩, iteT ?_⟩
                · rw [wrev]
                  simp
                refine ⟨_, rfl, _, rfl, wl, _, rfl, .inl (SqL.of hw3), ?_⟩
                rw [wl4]
                refine ⟨_, _, rfl, rfl, wl, _, _, _, rfl, rfl, SqL.of hw3, wlast, gp, _, 0, .int x.1, rfl, rfl, SqT.of hgp, rfl, ?_⟩
                refine ⟨_, rfl, g, _, 0, .int lk, rfl, rfl, SqT.of hg3, rfl, _, _, rfl, rfl, rfl, _, rfl, ?_⟩
                rw [decI]
                exact hQ
              · have c := of_decide_eq_true c
                rw [wrev] at hw3
                have gl : (vs4.reverse ++ [V.ref gp])[(vs4.reverse ++ [V.ref gp]).length - 1]? = some (V.ref gp) := by
                  rw [List.length_append, List.length_singleton, Nat.add_sub_cancel, List.getElem?_append_right (Nat.le_refl _), Nat.sub_self]
                  rfl
                refine ⟨_, rfl, .inl ⟨rfl, _, SqL.of hw3⟩, wl, _, .ref gp, rfl, rfl, hw3, gl, ?_⟩
                rw [List.dropLast_concat]
                have tm := Tups.mut (o := .lst vs4.reverse) hw3
                have hgp4 := tm _ _ hgp
                have hF4 : (upd H3 wl (.lst vs4.reverse)) F = some (.lst us2) := by rw [upd_ne hFw]; exact hF3
                have e1 : sumZ (bt.map fun x => x.2.1) + x.2.1 = sumZ ((bt ++ [x]).map fun x => x.2.1) := by
                  rw [List.map_append, sumZ_app]
                  show _ = _ + (x.2.1 + 0)
                  rw [Int.add_zero]
                refine ⟨_, rfl, _, rfl, gp, _, 1, _, rfl, rfl, SqT.of hgp4, rfl, _, _, rfl, rfl, ?_⟩
                refine ⟨_, rfl, _, _, rfl, rfl, ?_⟩
                have fin : ∀ f' : Int, ∃ m', m' < rest'.length + 1 ∧ ∃ (bt2 rest2 : List Wt) (f2 ct2 : Int) (vs5 : List V) (y9 : Option V), [some (V.ref l), some (.ref F), some (.ref wl), some (.int (k : Int)), some (.ref g), some (.int (sumZ (bt.map fun x => x.2.1) + x.2.1)), some (.int f'), some (.int (ct + 1)), some (.ref gp)] = [some (V.ref l), some (.ref F), some (.ref wl), some (.int (k : Int)), some (.ref g), some (.int (sumZ (bt2.map fun x => x.2.1))), some (.int f2), some (.int ct2), y9] ∧ m' = rest2.length ∧ ct2 = (bt2.length : Int) ∧ ws = bt2 ++ rest2 ∧ (∀ x ∈ bt2, x.1 = lk + 1) ∧
                    Same H (upd H3 wl (.lst vs4.reverse)) ∧ Tups H2 (upd H3 wl (.lst vs4.reverse)) ∧ (upd H3 wl (.lst vs4.reverse)) F = some (.lst us2) ∧ (upd H3 wl (.lst vs4.reverse)) wl = some (.lst vs5.reverse) ∧ Paired (WtAt (upd H3 wl (.lst vs4.reverse))) vs5 rest2 := fun f' => by
                  refine ⟨rest'.length, Nat.lt_succ_self _, bt ++ [x], rest', f', ct + 1, vs4, _, by rw [e1], rfl, by rw [ect, List.length_append]; rfl, by rw [ew, List.append_assoc]; rfl, fun p hp => ?_, same_mut sm3 nw0, t3.trans tm, hF4, upd_same, Paired.mapP hv4 fun _ _ h => h.tups tm⟩
                  rcases List.mem_append.mp hp with h | h
                  · exact hbt p h
                  · rw [List.mem_singleton.mp h]
                    exact c
                refine ⟨_, rfl, _, _, rfl, rfl, _, rfl, ite2 (fun _ => ?_) (fun _ => ?_)⟩
                · exact ⟨_, rfl, gp, _, 2, _, rfl, rfl, SqT.of hgp4, rfl, fin _⟩
                · exact fin _
              · exact ⟨bt, x :: rest', f, ct, V.ref gp :: vs4, _, rfl, ect, ew, hbt, fun z hz => by obtain rfl : x = z := Option.some.inj hz; exact of_decide_eq_false c, sm3, t3, hF3, hw3, .cons hv hv4⟩
          · rintro σ H3 ⟨bt, rest, f, ct, vs3, y8, rfl, ect, ew, hbt, hrest, sm3, t3, hF3, hw3, hv3⟩
            have hg3 := sm3 _ _ hg0
            have lw : bt.length + rest.length = ws.length := by rw [ew, List.length_append]
            have lws := S.len
            have sz : ∀ {n : Nat}, n ≤ 9 → n ≤ sizeLine := fun h => Nat.le_trans h (by decide)
            refine ⟨_, rfl, _, rfl, g, _, rfl, SqT.of hg3, (by show ¬ (HT.sIx 9 0 none = 0 ∧ HT.sIx 9 9 (some 4) = 9); decide), fun p1 np1 => ?_⟩
            have t1 := same_upd (o := .tup (cutV (rwV (lk, dk)) none (some 4))) np1
            have hp1 : (upd H3 p1 (.tup (cutV (rwV (lk, dk)) none (some 4)))) p1 = some (.tup (cutV (rwV (lk, dk)) none (some 4))) := upd_same
            refine ⟨_, rfl, _, _, rfl, _, rfl, sz (by show 2 ≤ 9; decide), fun p2 np2 => ?_⟩
            have t2 := t1.trans (same_upd (o := .tup [.int (if 0 > f then 0 else f), .int (sumZ (bt.map fun x => x.2.1))]) np2)
            refine ⟨p1, p2, _, _, rfl, rfl, SqT.of ((same_upd np2) _ _ hp1), SqT.of upd_same, fun z => (by cases z), sz (by show 4 + 2 ≤ 9; decide), fun z => (by cases z), fun _ p3 np3 => ?_⟩
            have t3a := t2.trans (same_upd (o := .tup (cutV (rwV (lk, dk)) none (some 4) ++ [.int (if 0 > f then 0 else f), .int (sumZ (bt.map fun x => x.2.1))])) np3)
            refine ⟨_, rfl, _, rfl, _, rfl, g, _, rfl, SqT.of (t3a _ _ hg3), (by show ¬ (HT.sIx 9 0 (some 6) = 0 ∧ HT.sIx 9 9 (some 8) = 9); decide), fun p4 np4 => ?_⟩
            have t4 := same_upd (o := .tup (cutV (rwV (lk, dk)) (some 6) (some 8))) np4
            refine ⟨p3, p4, _, _, rfl, rfl, SqT.of (t4 _ _ upd_same), SqT.of upd_same, fun z => (by cases z), sz (by show 6 + 2 ≤ 9; decide), fun z => (by cases z), fun _ p5 np5 => ?_⟩
            have t5 := (t3a.trans t4).trans (same_upd (o := .tup ((cutV (rwV (lk, dk)) none (some 4) ++ [.int (if 0 > f then 0 else f), .int (sumZ (bt.map fun x => x.2.1))]) ++ cutV (rwV (lk, dk)) (some 6) (some 8))) np5)
            refine ⟨_, rfl, g, _, 8, _, rfl, rfl, SqT.of (t5 _ _ hg3), at_ 8 _ rfl, _, rfl, _, _, rfl, rfl, .inr ⟨by omega, by omega⟩, sz (by show 1 ≤ 9; decide), fun p6 np6 => ?_⟩
            have t6 := same_upd (o := .tup [V.int (dk.pop * ct)]) np6
            refine ⟨p5, p6, _, _, rfl, rfl, SqT.of (t6 _ _ upd_same), SqT.of upd_same, fun z => (by cases z), sz (by show 8 + 1 ≤ 9; decide), fun z => (by cases z), fun _ p7 np7 => ?_⟩
            obtain ⟨y, hy⟩ : ∃ y : Rw, y = (lk, (⟨dk.kind, dk.sym, dk.st, if 0 > f then 0 else f, sumZ (bt.map fun x => x.2.1), dk.look, dk.alt, dk.pop * ct⟩ : Nd)) := ⟨_, rfl⟩
            have ey : (cutV (rwV (lk, dk)) none (some 4) ++ [V.int (if 0 > f then 0 else f), .int (sumZ (bt.map fun x => x.2.1))]) ++ cutV (rwV (lk, dk)) (some 6) (some 8) ++ [V.int (dk.pop * ct)] = rwV y := by
              rw [hy]
              rfl
            rw [ey]
            have t7 := (t5.trans t6).trans (same_upd (o := .tup (rwV y)) np7)
            obtain ⟨H4, hH4⟩ : ∃ H4, H4 = upd (upd (upd (upd (upd (upd (upd H3 p1 (.tup (cutV (rwV (lk, dk)) none (some 4)))) p2 (.tup [.int (if 0 > f then 0 else f), .int (sumZ (bt.map fun x => x.2.1))])) p3 (.tup (cutV (rwV (lk, dk)) none (some 4) ++ [.int (if 0 > f then 0 else f), .int (sumZ (bt.map fun x => x.2.1))]))) p4 (.tup (cutV (rwV (lk, dk)) (some 6) (some 8)))) p5 (.tup ((cutV (rwV (lk, dk)) none (some 4) ++ [.int (if 0 > f then 0 else f), .int (sumZ (bt.map fun x => x.2.1))]) ++ cutV (rwV (lk, dk)) (some 6) (some 8)))) p6 (.tup [V.int (dk.pop * ct)])) p7 (.tup (rwV y)) := ⟨_, rfl⟩
            have hp7 : H4 p7 = some (.tup (rwV y)) := by rw [hH4]; exact upd_same
            have t34 : Same H3 H4 := by rw [hH4]; exact t7
            rw [← hH4]
            have hF4 := t34 _ _ hF3
            have nF0 : H F = none := nF
            have lp := paired_len hp2
            have lu2 : us2.length = rows.length - i + rs.length := by
              rw [lp, List.length_append, List.length_take]
              omega
            have ixF : ixN us2.length (k : Int) = some k := by
              unfold ixN
              rw [if_pos (by omega), if_pos (by omega)]
              rfl
            refine ⟨_, rfl, _, rfl, F, us2, _, k, rfl, rfl, hF4, ixF, ?_⟩
            have tmF := Tups.mut (o := .lst (us2.set k (.ref p7))) hF4
            have t24 : Tups H2 (upd H4 F (.lst (us2.set k (.ref p7)))) := (t3.trans (tp t34)).trans tmF
            have yl : leafB y.2 = false := by
              rw [hy]
              exact hb
            refine ⟨y, rest, vs3, f, _, _, by rw [hy], same_mut (sm3.trans t34) nF0, ⟨_, upd_same, ?_⟩, ⟨by rw [hy], by rw [hy], by rw [hy], fun e => (by rw [show (lk, dk).2 = dk from rfl, hb] at e; cases e)⟩, ?_, Paired.mapP hv3 fun _ _ h => h.tups ((tp t34).trans tmF), fun f => ?_, by omega⟩
            · have hp3 : Paired (RwAt (upd H4 F (.lst (us2.set k (.ref p7))))) us2 (rows.take k ++ (lk, dk) :: rs) := by
                rw [etake, List.append_assoc] at hp2
                exact Paired.mapP hp2 fun _ _ h => h.tups t24
              have hs : ∀ {us : List V} {a : List Rw} {r0 y : Rw} {c : List Rw} {v : V} {Hh : Hp}, Paired (RwAt Hh) us (a ++ r0 :: c) → RwAt Hh v y → Paired (RwAt Hh) (us.set a.length v) (a ++ y :: c) := fun {us a} => by
                intro r0 y c v Hh
                induction a generalizing us with
                | nil =>
                  intro h hv
                  cases h with
                  | cons _ t => exact .cons hv t
                | cons a0 a ih =>
                  intro h hv
                  cases h with
                  | cons h1 t => exact .cons h1 (ih t hv)
              have := hs (v := .ref p7) (y := y) hp3 ⟨p7, rfl, tmF _ _ hp7⟩
              rw [List.length_take, Nat.min_eq_left (by omega)] at this
              exact this
            · rw [upd_ne hFw.symm]
              exact t34 _ _ hw3
            · rw [ew] at S
              refine (S.ok.inner (y := y) (fun x hx => ?_) (fun x hx => ?_) yl (by rw [hy]))
              · rw [hbt x hx, hy]
              · rw [hy]
                exact hrest x hx
      · rintro σ H3 ⟨y, ws2, vs2, f, y7, y8, rfl, sm3, ⟨us2, hF2, hp2⟩, fy, hw3, hv3, ok3, l3⟩
        have hg3 := sm3 _ _ hg0
        have lv3 := paired_len hv3
        refine ⟨_, rfl, .inl ⟨rfl, _, SqL.of hw3⟩, _, rfl, g, _, 0, _, rfl, rfl, SqT.of hg3, rfl, _, rfl, _, rfl, by show 3 ≤ sizeLine; decide, fun t nt => ?_⟩
        have s4 := same_upd (o := .tup [.int lk, .int y.2.wid, .int f]) nt
        have hw4 := s4 _ _ hw3
        refine ⟨wl, _, _, rfl, rfl, hw4, sz2 (by rw [List.length_reverse]; omega), ?_⟩
        have tm := (tp s4).trans (Tups.mut (o := .lst (vs2.reverse ++ [.ref t])) hw4)
        refine ⟨by omega, y :: rs, (y.1, y.2.wid, f) :: ws2, _, _, _, _, _, _, rfl, same_mut (sm3.trans s4) nw0, ⟨us2, ?_, ?_⟩, ?_, ⟨.ref t :: vs2, ?_, ?_⟩, ok3 f, ?_⟩
        · rw [upd_ne hFw]
          exact s4 _ _ hF2
        · rw [show rows.length - (i + 1) = k by omega]
          exact Paired.mapP hp2 fun _ _ h => h.tups tm
        · rw [edrop]
          exact .cons fy S.fr
        · rw [upd_same, List.reverse_cons]
        · refine .cons ⟨t, rfl, ?_⟩ (Paired.mapP hv3 fun _ _ h => h.tups tm)
          have e : (upd (upd H3 t (.tup [.int lk, .int y.2.wid, .int f])) wl (.lst (vs2.reverse ++ [.ref t]))) t = some (.tup [.int lk, .int y.2.wid, .int f]) := Tups.mut hw4 _ _ upd_same
          rw [e, fy.1]
        · rw [List.length_cons]
          omega
    · rintro σ H1 ⟨_, rs, ws, y3, y4, y5, y6, y7, y8, rfl, S⟩
      obtain ⟨us2, hF2, hp2⟩ := S.fit
      have fr := S.fr
      rw [Nat.sub_self, List.take_zero, List.nil_append] at hp2
      rw [Nat.sub_self, List.drop_zero] at fr
      exact ⟨_, rfl, q F us2 rs H1 hF2 hp2 fr ⟨ws, S.ok⟩ nF S.same⟩

/-! ### the nodes of a tree with their paths and places -/
abbrev Spot := List Nat × Int × Tr
mutual
def Tr.spots (pl : Int) : Tr → List Spot
  | .mk p d ks => ([], pl, .mk p d ks) :: spotsL pl 0 ks
def spotsL (pl : Int) (i : Nat) : List Tr → List Spot
  | [] => []
  | t :: ts => (t.spots pl).map (fun x => (i :: x.1, x.2)) ++ spotsL (pl + t.d.wid) (i + 1) ts
end
/-- where a path leads -/
def follow : Tr → Int → List Nat → Option (Int × Tr)
  | t, pl, [] => some (pl, t)
  | t, pl, i :: l => match t.ks[i]? with
    | none => none
    | some c => follow c (pl + sumZ (wids (t.ks.take i))) l
mutual
theorem spots_follow {x : Spot} : ∀ {t : Tr} {pl : Int}, x ∈ t.spots pl → follow t pl x.1 = some x.2
  | .mk p d ks, pl, h => by
    rcases List.mem_cons.mp h with rfl | h
    · rfl
    · obtain ⟨j, c, l, e1, e2, e3⟩ := spotsL_follow (ts := ks) (pl := pl) (i := 0) h
      rw [e1]
      show (match ks[0 + j]? with | none => none | some c => follow c (pl + sumZ (wids (ks.take (0 + j)))) l) = _
      rw [Nat.zero_add, e2]
      exact e3
theorem spotsL_follow {x : Spot} : ∀ {ts : List Tr} {pl : Int} {i : Nat}, x ∈ spotsL pl i ts → ∃ j c l, x.1 = (i + j) :: l ∧ ts[j]? = some c ∧ follow c (pl + sumZ (wids (ts.take j))) l = some x.2
  | [], _, _, h => absurd h List.not_mem_nil
  | t :: ts, pl, i, h => by
    rcases List.mem_append.mp h with h | h
    · obtain ⟨y, hy, rfl⟩ := List.mem_map.mp h
      exact ⟨0, t, y.1, rfl, rfl, by rw [show pl + sumZ (wids ((t :: ts).take 0)) = pl from Int.add_zero pl]; exact spots_follow hy⟩
    · obtain ⟨j, c, l, e1, e2, e3⟩ := spotsL_follow h
      refine ⟨j + 1, c, l, by rw [e1]; exact congrArg (· :: l) (by omega), e2, ?_⟩
      rw [show pl + sumZ (wids ((t :: ts).take (j + 1))) = pl + t.d.wid + sumZ (wids (ts.take j)) from (Int.add_assoc _ _ _).symm]
      exact e3
end
/-- what tells a spot's row: its level, node, address -/
def spR (l : Int) (x : Spot) : Ra := (l + x.1.length, x.2.2.d, x.2.2.at)
mutual
theorem spots_ras : ∀ (t : Tr) (pl l : Int), (t.spots pl).map (spR l) = t.ras l
  | .mk p d ks, pl, l => by
    show spR l ([], pl, .mk p d ks) :: (spotsL pl 0 ks).map (spR l) = (l, d, p) :: rasL (l + 1) ks
    rw [spotsL_ras ks pl 0 l]
    have : spR l ([], pl, .mk p d ks) = (l, d, p) := by
      show (l + ((0 : Nat) : Int), d, p) = _
      rw [Int.ofNat_zero, Int.add_zero]
    rw [this]
theorem spotsL_ras : ∀ (ts : List Tr) (pl : Int) (i : Nat) (l : Int), (spotsL pl i ts).map (spR l) = rasL (l + 1) ts
  | [], _, _, _ => rfl
  | t :: ts, pl, i, l => by
    show ((t.spots pl).map (fun x => ((i :: x.1, x.2) : Spot)) ++ spotsL (pl + t.d.wid) (i + 1) ts).map (spR l) = t.ras (l + 1) ++ rasL (l + 1) ts
    rw [List.map_append, List.map_map, spotsL_ras ts _ _ l, ← spots_ras t pl (l + 1)]
    congr 1
    refine List.map_congr_left fun x _ => ?_
    show (l + ((x.1.length + 1 : Nat) : Int), _, _) = (l + 1 + (x.1.length : Int), _, _)
    rw [show l + ((x.1.length + 1 : Nat) : Int) = l + 1 + (x.1.length : Int) by omega]
end
/-- widths of leaves, added up -/
def leafW (d : Nd) : Int := if leafB d = true then d.wid else 0
def leafSum (xs : List Spot) : Int := sumZ (xs.map fun x => leafW x.2.2.d)
theorem leafSum_app (xs ys : List Spot) : leafSum (xs ++ ys) = leafSum xs + leafSum ys := by
  unfold leafSum
  rw [List.map_append, sumZ_app]
theorem leafSum_map (xs : List Spot) (i : Nat) : leafSum (xs.map fun x => ((i :: x.1, x.2) : Spot)) = leafSum xs := by
  unfold leafSum
  rw [List.map_map]
  rfl
mutual
theorem spots_sum : ∀ {t : Tr} (pl : Int), WOk t → leafSum (t.spots pl) = t.d.wid
  | .mk p d ks, pl, h => by
    obtain ⟨h1, h2, h3⟩ := h
    show leafW d + leafSum (spotsL pl 0 ks) = d.wid
    rw [spotsL_sum pl 0 h3]
    unfold leafW
    cases hb : leafB d with
    | true =>
      rw [(h2 hb).1]
      show d.wid + 0 = _
      rw [Int.add_zero]
    | false =>
      rw [h1 hb]
      show 0 + _ = _
      rw [Int.zero_add]
theorem spotsL_sum : ∀ {ts : List Tr} (pl : Int) (i : Nat), WOks ts → leafSum (spotsL pl i ts) = sumZ (wids ts)
  | [], _, _, _ => rfl
  | t :: ts, pl, i, h => by
    show leafSum ((t.spots pl).map (fun x => ((i :: x.1, x.2) : Spot)) ++ spotsL (pl + t.d.wid) (i + 1) ts) = t.d.wid + sumZ (wids ts)
    rw [leafSum_app, leafSum_map, spots_sum pl h.1, spotsL_sum _ _ h.2]
end
mutual
/-- a spot's place: behind all leaves in front of it -/
theorem spots_place {x : Spot} : ∀ {t : Tr} {pl : Int} {k : Nat}, WOk t → (t.spots pl)[k]? = some x → x.2.1 = pl + leafSum ((t.spots pl).take k)
  | .mk p d ks, pl, k, h, e => by
    obtain ⟨h1, h2, h3⟩ := h
    cases k with
    | zero =>
      obtain rfl : (([], pl, .mk p d ks) : Spot) = x := Option.some.inj e
      exact (Int.add_zero pl).symm
    | succ k =>
      have e : (spotsL pl 0 ks)[k]? = some x := e
      have ih := spotsL_place h3 e
      show x.2.1 = pl + (leafW d + leafSum ((spotsL pl 0 ks).take k))
      have hl : leafB d = false := by
        cases hb : leafB d with
        | false => rfl
        | true =>
          rw [(h2 hb).1] at e
          cases e
      unfold leafW
      rw [hl, ih]
      show _ = pl + (0 + _)
      rw [Int.zero_add]
theorem spotsL_place {x : Spot} : ∀ {ts : List Tr} {pl : Int} {i k : Nat}, WOks ts → (spotsL pl i ts)[k]? = some x → x.2.1 = pl + leafSum ((spotsL pl i ts).take k)
  | [], _, _, _, _, e => by cases e
  | t :: ts, pl, i, k, h, e => by
    have e : ((t.spots pl).map (fun x => ((i :: x.1, x.2) : Spot)) ++ spotsL (pl + t.d.wid) (i + 1) ts)[k]? = some x := e
    show x.2.1 = pl + leafSum (((t.spots pl).map (fun x => ((i :: x.1, x.2) : Spot)) ++ spotsL (pl + t.d.wid) (i + 1) ts).take k)
    by_cases hk : k < (t.spots pl).length
    · rw [List.getElem?_append_left (by rw [List.length_map]; exact hk), List.getElem?_map] at e
      cases hy : (t.spots pl)[k]? with
      | none =>
        rw [hy] at e
        cases e
      | some y =>
        rw [hy] at e
        obtain rfl : ((i :: y.1, y.2) : Spot) = x := Option.some.inj e
        have ih := spots_place h.1 hy
        rw [List.take_append_of_le_length (by rw [List.length_map]; omega), ← List.map_take, leafSum_map]
        exact ih
    · rw [List.getElem?_append_right (by rw [List.length_map]; omega), List.length_map] at e
      have ih := spotsL_place h.2 e
      have lt : ((t.spots pl).map (fun x => ((i :: x.1, x.2) : Spot))).length ≤ k := by rw [List.length_map]; omega
      rw [List.take_append, List.take_of_length_le lt, leafSum_app, leafSum_map, spots_sum pl h.1, List.length_map, ih, Int.add_assoc]
end
mutual
/-- a spot lies within its tree -/
theorem spots_in {x : Spot} : ∀ {t : Tr} {pl : Int}, WOk t → x ∈ t.spots pl → pl ≤ x.2.1 ∧ x.2.1 + x.2.2.d.wid ≤ pl + t.d.wid
  | .mk p d ks, pl, h, hx => by
    obtain ⟨h1, h2, h3⟩ := h
    rcases List.mem_cons.mp hx with rfl | hx
    · exact ⟨Int.le_refl _, Int.le_refl _⟩
    · have ih := spotsL_in h3 hx
      have hl : leafB d = false := by
        cases hb : leafB d with
        | false => rfl
        | true =>
          rw [(h2 hb).1] at hx
          cases hx
      show _ ∧ _ ≤ pl + d.wid
      rw [h1 hl]
      exact ih
theorem spotsL_in {x : Spot} : ∀ {ts : List Tr} {pl : Int} {i : Nat}, WOks ts → x ∈ spotsL pl i ts → pl ≤ x.2.1 ∧ x.2.1 + x.2.2.d.wid ≤ pl + sumZ (wids ts)
  | [], _, _, _, hx => absurd hx List.not_mem_nil
  | t :: ts, pl, i, h, hx => by
    have a := WOk.nn h.1
    have b := WOks.nn h.2
    have e : sumZ (wids (t :: ts)) = t.d.wid + sumZ (wids ts) := rfl
    rcases List.mem_append.mp hx with hx | hx
    · obtain ⟨y, hy, rfl⟩ := List.mem_map.mp hx
      have ih := spots_in h.1 hy
      show pl ≤ y.2.1 ∧ y.2.1 + y.2.2.d.wid ≤ _
      omega
    · have ih := spotsL_in h.2 hx
      omega
end
mutual
theorem spots_wok {x : Spot} : ∀ {t : Tr} {pl : Int}, WOk t → x ∈ t.spots pl → WOk x.2.2
  | .mk p d ks, pl, h, hx => by
    rcases List.mem_cons.mp hx with rfl | hx
    · exact h
    · exact spotsL_wok h.2.2 hx
theorem spotsL_wok {x : Spot} : ∀ {ts : List Tr} {pl : Int} {i : Nat}, WOks ts → x ∈ spotsL pl i ts → WOk x.2.2
  | [], _, _, _, hx => absurd hx List.not_mem_nil
  | t :: ts, pl, i, h, hx => by
    rcases List.mem_append.mp hx with hx | hx
    · obtain ⟨y, hy, rfl⟩ := List.mem_map.mp hx
      exact spots_wok (x := y) h.1 hy
    · exact spotsL_wok h.2 hx
end
/-! ### the leaf that contains a place -/
def childAt : List Tr → Nat → Int → Int × Int
  | [], _, o => (-1, o)
  | c :: cs, i, o => if o < c.d.wid then ((i : Int), o) else childAt cs (i + 1) (o - c.d.wid)
inductive Leads : Tr → Int → List Nat → Prop
  | leaf {t : Tr} {o : Int} : leafB t.d = true → Leads t o []
  | step {t c : Tr} {o o2 : Int} {i : Nat} {l : List Nat} : leafB t.d = false → childAt t.ks 0 o = ((i : Int), o2) → t.ks[i]? = some c → Leads c o2 l → Leads t o (i :: l)
mutual
theorem spots_leads {x : Spot} {o : Int} : ∀ {t : Tr} {pl : Int}, WOk t → x ∈ t.spots pl → leafB x.2.2.d = true → 0 ≤ o → o < x.2.2.d.wid → Leads t (x.2.1 - pl + o) x.1
  | .mk p d ks, pl, h, hx, hl, h0, h1 => by
    obtain ⟨w1, w2, w3⟩ := h
    rcases List.mem_cons.mp hx with rfl | hx
    · exact .leaf hl
    · obtain ⟨j, c, o2, l, e1, e2, e3, e4⟩ := spotsL_leads w3 hx hl h0 h1
      have hf : leafB d = false := by
        cases hb : leafB d with
        | false => rfl
        | true =>
          rw [(w2 hb).1] at hx
          cases hx
      rw [e1, Nat.zero_add]
      exact .step hf (by rw [Nat.zero_add] at e3; exact e3) e2 e4
theorem spotsL_leads {x : Spot} {o : Int} : ∀ {ts : List Tr} {pl : Int} {i : Nat}, WOks ts → x ∈ spotsL pl i ts → leafB x.2.2.d = true → 0 ≤ o → o < x.2.2.d.wid →
    ∃ j c o2 l, x.1 = (i + j) :: l ∧ ts[j]? = some c ∧ childAt ts i (x.2.1 - pl + o) = (((i + j : Nat) : Int), o2) ∧ Leads c o2 l
  | [], _, _, _, hx, _, _, _ => absurd hx List.not_mem_nil
  | t :: ts, pl, i, h, hx, hl, h0, h1 => by
    rcases List.mem_append.mp hx with hx | hx
    · obtain ⟨y, hy, rfl⟩ := List.mem_map.mp hx
      have hin := spots_in h.1 hy
      have h1 : o < y.2.2.d.wid := h1
      refine ⟨0, t, y.2.1 - pl + o, y.1, rfl, rfl, ?_, spots_leads h.1 hy hl h0 h1⟩
      show (if y.2.1 - pl + o < t.d.wid then ((i : Int), y.2.1 - pl + o) else _) = _
      rw [if_pos (by omega)]
      rfl
    · have hin := spotsL_in h.2 hx
      obtain ⟨j, c, o2, l, e1, e2, e3, e4⟩ := spotsL_leads h.2 hx hl h0 h1
      refine ⟨j + 1, c, o2, l, by rw [e1]; exact congrArg (· :: l) (by omega), e2, ?_, e4⟩
      show (if x.2.1 - pl + o < t.d.wid then _ else childAt ts (i + 1) (x.2.1 - pl + o - t.d.wid)) = _
      rw [if_neg (by omega), show x.2.1 - pl + o - t.d.wid = x.2.1 - (pl + t.d.wid) + o by omega, e3, show i + (j + 1) = i + 1 + j by omega]
end

/-! ### paths alone -/
mutual
def Tr.paths : Tr → List (List Nat)
  | .mk _ _ ks => [] :: pathsL 0 ks
def pathsL (i : Nat) : List Tr → List (List Nat)
  | [] => []
  | t :: ts => t.paths.map (i :: ·) ++ pathsL (i + 1) ts
end
mutual
theorem spots_paths : ∀ (t : Tr) (pl : Int), (t.spots pl).map Prod.fst = t.paths
  | .mk p d ks, pl => by
    show [] :: (spotsL pl 0 ks).map Prod.fst = [] :: pathsL 0 ks
    rw [spotsL_paths ks pl 0]
theorem spotsL_paths : ∀ (ts : List Tr) (pl : Int) (i : Nat), (spotsL pl i ts).map Prod.fst = pathsL i ts
  | [], _, _ => rfl
  | t :: ts, pl, i => by
    show ((t.spots pl).map (fun x => ((i :: x.1, x.2) : Spot)) ++ spotsL (pl + t.d.wid) (i + 1) ts).map Prod.fst = t.paths.map (i :: ·) ++ pathsL (i + 1) ts
    rw [List.map_append, spotsL_paths ts, ← spots_paths t pl, List.map_map, List.map_map]
    rfl
end
theorem pathsL_head {x : List Nat} : ∀ {ts : List Tr} {i : Nat}, x ∈ pathsL i ts → ∃ j l, x = j :: l ∧ i ≤ j
  | [], _, h => absurd h List.not_mem_nil
  | t :: ts, i, h => by
    rcases List.mem_append.mp h with h | h
    · obtain ⟨y, _, rfl⟩ := List.mem_map.mp h
      exact ⟨i, y, rfl, Nat.le_refl _⟩
    · obtain ⟨j, l, e, hj⟩ := pathsL_head h
      exact ⟨j, l, e, by omega⟩
theorem map_cons_nodup {i : Nat} : ∀ {xs : List (List Nat)}, xs.Nodup → (xs.map (i :: ·)).Nodup
  | [], _ => .nil
  | x :: xs, h => by
    rw [List.nodup_cons] at h
    show ((i :: x) :: xs.map (i :: ·)).Nodup
    rw [List.nodup_cons]
    refine ⟨fun hm => ?_, map_cons_nodup h.2⟩
    obtain ⟨y, hy, e⟩ := List.mem_map.mp hm
    injection e with _ e
    rw [e] at hy
    exact h.1 hy
mutual
theorem paths_nodup : ∀ t : Tr, t.paths.Nodup
  | .mk _ _ ks => by
    show ([] :: pathsL 0 ks).Nodup
    rw [List.nodup_cons]
    refine ⟨fun h => ?_, pathsL_nodup ks 0⟩
    obtain ⟨j, l, e, _⟩ := pathsL_head h
    cases e
theorem pathsL_nodup : ∀ (ts : List Tr) (i : Nat), (pathsL i ts).Nodup
  | [], _ => .nil
  | t :: ts, i => by
    show (t.paths.map (i :: ·) ++ pathsL (i + 1) ts).Nodup
    rw [List.nodup_append]
    refine ⟨map_cons_nodup (paths_nodup t), pathsL_nodup ts _, fun a ha b hb e => ?_⟩
    obtain ⟨y, _, rfl⟩ := List.mem_map.mp ha
    obtain ⟨j, l, e2, hj⟩ := pathsL_head hb
    rw [← e] at e2
    injection e2 with e2 _
    omega
end
theorem snoc_nil {α : Type} {l : List α} {x : α} (h : l ++ [x] = []) : False := by simp at h
theorem cons_snoc {j i : Nat} {l pi : List Nat} (h : pi ++ [i] = j :: l) : (pi = [] ∧ i = j ∧ l = []) ∨ ∃ p', pi = j :: p' ∧ l = p' ++ [i] := by
  cases pi with
  | nil =>
    injection h with h1 h2
    exact .inl ⟨rfl, h1, h2.symm⟩
  | cons a p' =>
    have h : a :: (p' ++ [i]) = j :: l := h
    injection h with h1 h2
    exact .inr ⟨p', by rw [h1], h2.symm⟩
mutual
/-- a node's parent stands in front of it, and between them only deeper ones than the parent -/
theorem paths_par : ∀ {t : Tr} {k i : Nat} {pi : List Nat}, t.paths[k]? = some (pi ++ [i]) → ∃ p, p < k ∧ t.paths[p]? = some pi ∧ ∀ m y, p < m → m < k → t.paths[m]? = some y → pi.length < y.length
  | .mk _ _ ks, 0, i, pi, h => by
    have h : some ([] : List Nat) = some (pi ++ [i]) := h
    exact (snoc_nil (Option.some.inj h).symm).elim
  | .mk _ _ ks, k + 1, i, pi, h => by
    have h : (pathsL 0 ks)[k]? = some (pi ++ [i]) := h
    rcases pathsL_par h with rfl | ⟨p, h1, h2, h3⟩
    · refine ⟨0, Nat.succ_pos _, rfl, fun m y m0 mk hy => ?_⟩
      obtain ⟨m', rfl⟩ : ∃ m', m = m' + 1 := ⟨m - 1, by omega⟩
      have hy : (pathsL 0 ks)[m']? = some y := hy
      obtain ⟨j, l, rfl, _⟩ := pathsL_head (List.mem_of_getElem? hy)
      exact Nat.succ_pos _
    · refine ⟨p + 1, by omega, h2, fun m y m0 mk hy => ?_⟩
      obtain ⟨m', rfl⟩ : ∃ m', m = m' + 1 := ⟨m - 1, by omega⟩
      exact h3 m' y (by omega) (by omega) hy
theorem pathsL_par : ∀ {ts : List Tr} {i0 k i : Nat} {pi : List Nat}, (pathsL i0 ts)[k]? = some (pi ++ [i]) → pi = [] ∨ ∃ p, p < k ∧ (pathsL i0 ts)[p]? = some pi ∧ ∀ m y, p < m → m < k → (pathsL i0 ts)[m]? = some y → pi.length < y.length
  | [], _, _, _, _, h => by cases h
  | t :: ts, i0, k, i, pi, h => by
    have h : (t.paths.map (i0 :: ·) ++ pathsL (i0 + 1) ts)[k]? = some (pi ++ [i]) := h
    show pi = [] ∨ ∃ p, p < k ∧ (t.paths.map (i0 :: ·) ++ pathsL (i0 + 1) ts)[p]? = some pi ∧ ∀ m y, p < m → m < k → (t.paths.map (i0 :: ·) ++ pathsL (i0 + 1) ts)[m]? = some y → pi.length < y.length
    by_cases hk : k < t.paths.length
    · rw [List.getElem?_append_left (by rw [List.length_map]; exact hk), List.getElem?_map] at h
      cases hy : t.paths[k]? with
      | none =>
        rw [hy] at h
        cases h
      | some z =>
        rw [hy] at h
        have h : i0 :: z = pi ++ [i] := Option.some.inj h
        rcases cons_snoc h.symm with ⟨e, _⟩ | ⟨p', rfl, rfl⟩
        · exact .inl e
        · obtain ⟨p, h1, h2, h3⟩ := paths_par hy
          refine .inr ⟨p, h1, ?_, fun m y m0 mk hy => ?_⟩
          · rw [List.getElem?_append_left (by rw [List.length_map]; omega), List.getElem?_map, h2]
            rfl
          · rw [List.getElem?_append_left (by rw [List.length_map]; omega), List.getElem?_map] at hy
            cases hz : t.paths[m]? with
            | none =>
              rw [hz] at hy
              cases hy
            | some z =>
              rw [hz] at hy
              obtain rfl : i0 :: z = y := Option.some.inj hy
              have := h3 m z m0 mk hz
              rw [List.length_cons, List.length_cons]
              omega
    · rw [List.getElem?_append_right (by rw [List.length_map]; omega), List.length_map] at h
      rcases pathsL_par h with e | ⟨p, h1, h2, h3⟩
      · exact .inl e
      · refine .inr ⟨p + t.paths.length, by omega, ?_, fun m y m0 mk hy => ?_⟩
        · rw [List.getElem?_append_right (by rw [List.length_map]; omega), List.length_map, Nat.add_sub_cancel]
          exact h2
        · rw [List.getElem?_append_right (by rw [List.length_map]; omega), List.length_map] at hy
          exact h3 (m - t.paths.length) y (by omega) (by omega) hy
end
mutual
/-- the child in front stands in front -/
theorem paths_prev : ∀ {t : Tr} {k i : Nat} {pi : List Nat}, t.paths[k]? = some (pi ++ [i + 1]) → ∃ m, m < k ∧ t.paths[m]? = some (pi ++ [i])
  | .mk _ _ ks, 0, i, pi, h => by
    have h : some ([] : List Nat) = some (pi ++ [i + 1]) := h
    exact (snoc_nil (Option.some.inj h).symm).elim
  | .mk _ _ ks, k + 1, i, pi, h => by
    have h : (pathsL 0 ks)[k]? = some (pi ++ [i + 1]) := h
    rcases pathsL_prev h with ⟨_, e⟩ | ⟨m, h1, h2⟩
    · omega
    · exact ⟨m + 1, by omega, h2⟩
theorem pathsL_prev : ∀ {ts : List Tr} {i0 k i : Nat} {pi : List Nat}, (pathsL i0 ts)[k]? = some (pi ++ [i + 1]) → (pi = [] ∧ i + 1 = i0) ∨ ∃ m, m < k ∧ (pathsL i0 ts)[m]? = some (pi ++ [i])
  | [], _, _, _, _, h => by cases h
  | t :: ts, i0, k, i, pi, h => by
    have h : (t.paths.map (i0 :: ·) ++ pathsL (i0 + 1) ts)[k]? = some (pi ++ [i + 1]) := h
    show (pi = [] ∧ i + 1 = i0) ∨ ∃ m, m < k ∧ (t.paths.map (i0 :: ·) ++ pathsL (i0 + 1) ts)[m]? = some (pi ++ [i])
    by_cases hk : k < t.paths.length
    · rw [List.getElem?_append_left (by rw [List.length_map]; exact hk), List.getElem?_map] at h
      cases hy : t.paths[k]? with
      | none =>
        rw [hy] at h
        cases h
      | some z =>
        rw [hy] at h
        have h : i0 :: z = pi ++ [i + 1] := Option.some.inj h
        rcases cons_snoc h.symm with ⟨e1, e2, _⟩ | ⟨p', rfl, rfl⟩
        · exact .inl ⟨e1, e2⟩
        · obtain ⟨m, h1, h2⟩ := paths_prev hy
          refine .inr ⟨m, h1, ?_⟩
          rw [List.getElem?_append_left (by rw [List.length_map]; omega), List.getElem?_map, h2]
          rfl
    · rw [List.getElem?_append_right (by rw [List.length_map]; omega), List.length_map] at h
      have t0 : t.paths[0]? = some [] := by cases t; rfl
      have tl : 0 < t.paths.length := (List.getElem?_eq_some_iff.mp t0).1
      rcases pathsL_prev h with ⟨e1, e2⟩ | ⟨m, h1, h2⟩
      · obtain rfl : i = i0 := by omega
        refine .inr ⟨0, by omega, ?_⟩
        rw [List.getElem?_append_left (by rw [List.length_map]; exact tl), List.getElem?_map, t0, e1]
        rfl
      · refine .inr ⟨m + t.paths.length, by omega, ?_⟩
        rw [List.getElem?_append_right (by rw [List.length_map]; omega), List.length_map, Nat.add_sub_cancel]
        exact h2
end
theorem paths_uniq {t : Tr} {a b : Nat} {x : List Nat} (ha : t.paths[a]? = some x) (hb : t.paths[b]? = some x) : a = b := by
  obtain ⟨la, ea⟩ := List.getElem?_eq_some_iff.mp ha
  obtain ⟨lb, eb⟩ := List.getElem?_eq_some_iff.mp hb
  exact (List.getElem_inj (paths_nodup t)).mp (ea.trans eb.symm)

/-! ### NoNode -/
def okPath (K : PySem.W.Frag) (H : Hp) (ws : List V) : Prop := ∃ (pa : Addr) (is : List Int), ws = [.ref pa] ∧ SqT K H pa (is.map V.int) ∧ is.length ≤ 5000 ∧ ∀ i ∈ is, i.natAbs ≤ 1000000
def fsPath (ws : List V) : List (Str × V) := match ws with
  | [v] => [(("path" : Str), v)]
  | _ => []
theorem log_small {i : Int} (h : i.natAbs ≤ 1000000) : i.natAbs.log2 < 1920 := by
  have h2 : i.natAbs < 2 ^ 1920 := Nat.lt_of_le_of_lt h (by decide +kernel)
  by_cases hz : i.natAbs = 0
  · rw [hz]
    decide +kernel
  · exact (Nat.log2_lt hz).mpr h2
theorem costs_ints : ∀ is : List Int, sCosts (is.map V.int) = 1925 * is.length
  | [] => rfl
  | i :: is => by
    have ih := costs_ints is
    show sCosts (V.int i :: is.map V.int) = _
    rw [sCosts_cons, ih, List.length_cons]
    show 1925 + 1925 * is.length = _
    omega
theorem ok_NoNode_init (T : Txt K mg) : FnOk P w K mg base CX0 4 T.a_NoNode_init T.fd_NoNode_init ["self", "path"] (spInitN T.C_NoNode 1 (okPath K) fsPath) := by
  refine T.F_NoNode_init.ok sc_NoNode_init (fun vs H Q E h => ?_) (fun cdv A outer s H vs Q E hr h => ?_)
  · obtain ⟨a, ws, rfl, n, _⟩ := h
    show ws.length + 1 = 2
    rw [n]
  · obtain ⟨a, ws, rfl, n, ⟨pa, is, rfl, hp, hl, hs⟩, ha, q⟩ := h
    refine ⟨_, (pss_cons (ps_expr (pe_baseInit (by rfl) T.G_MendedError T.B_MendedError (pa_cons (pv 0) (pa_cons (pe_joined (.cons pe_str (.cons (pe_fmtS hr (pv 1)) .nil))) pa_nil))))
      (pss_one (ps_ost (pv 0) (pv 1)))), ?_⟩
    have big : sizeLine = 2 ^ 24 := rfl
    have hc := costs_ints is
    refine ⟨_, rfl, _, rfl, ?_, _, rfl, pa, _, rfl, hp, fun v hv => ?_, by rw [hc, big]; omega, fun m hm => ⟨m, rfl, ?_, ?_⟩⟩
    · rw [strLen_append, big]
      show 0 + 20 ≤ _
      omega
    · obtain ⟨i, hi, rfl⟩ := List.mem_map.mp hv
      exact log_small (hs i hi)
    · rw [strLen_append, strLen_append, big]
      rw [hc] at hm
      show 0 + 20 + m.length ≤ _
      omega
    refine ⟨a, _, _, rfl, by show 1 ≤ 1000; decide, T.E_NoNode.oex, ha, ?_⟩
    refine ⟨_, rfl, _, rfl, a, _, rfl, T.E_NoNode.oex, T.n_NoNode_path, .inl ⟨ha, fun dx nd hne => ?_⟩⟩
    refine q dx _ nd hne upd_same ?_ fun b h1 h2 => ?_
    · rw [upd_ne hne, upd_same]
      rfl
    · rw [upd_ne h1, upd_ne h2]
def ErrP (C : Addr) (H : Hp) (E : XK) (pa : Addr) : Prop := ∀ d H', Same H H' → H d = none → H' d = some (.xd [(("path" : Str), .ref pa)]) → E (.ref C) (some d) H'
/-! ### trees that aren't too large -/
mutual
theorem kids_le : ∀ t : Tr, t.ks.length < t.ats.length
  | .mk _ _ ks => by
    have := kidsL_le ks
    show ks.length < (atsL ks).length + 1
    omega
theorem kidsL_le : ∀ ts : List Tr, ts.length ≤ (atsL ts).length
  | [] => Nat.le_refl _
  | t :: ts => by
    have h1 := kids_le t
    have h2 := kidsL_le ts
    show ts.length + 1 ≤ (t.ats ++ atsL ts).length
    rw [List.length_append]
    omega
end
theorem kid_ats {c : Tr} : ∀ {ts : List Tr}, c ∈ ts → c.ats.length ≤ (atsL ts).length
  | [], h => absurd h List.not_mem_nil
  | t :: ts, h => by
    show _ ≤ (t.ats ++ atsL ts).length
    rw [List.length_append]
    rcases List.mem_cons.mp h with rfl | h
    · omega
    · have := kid_ats h
      omega
theorem kid_lt {c : Tr} : ∀ {t : Tr}, c ∈ t.ks → c.ats.length < t.ats.length
  | .mk _ _ ks, h => by
    have := kid_ats (ts := ks) h
    show _ < (atsL ks).length + 1
    omega
theorem follow_ats {q : Int} {s : Tr} : ∀ {l : List Nat} {t : Tr} {pl : Int}, follow t pl l = some (q, s) → s.ats.length ≤ t.ats.length
  | [], t, pl, h => by
    have h := Option.some.inj h
    injection h with _ h
    rw [h]
    exact Nat.le_refl _
  | i :: l, t, pl, h => by
    unfold follow at h
    cases hc : t.ks[i]? with
    | none =>
      rw [hc] at h
      cases h
    | some c =>
      rw [hc] at h
      have := follow_ats h
      have := kid_lt (List.mem_of_getElem? hc)
      omega
theorem follow_node {K : PySem.W.Frag} {C : Addr} {H : Hp} {q : Int} {s : Tr} : ∀ {l : List Nat} {t : Tr} {pl : Int}, NodeAt K C H t → follow t pl l = some (q, s) → NodeAt K C H s
  | [], t, pl, n, h => by
    have h := Option.some.inj h
    injection h with _ h
    rw [← h]
    exact n
  | i :: l, .mk p d ks, pl, n, h => by
    unfold follow at h
    cases hc : (Tr.mk p d ks).ks[i]? with
    | none =>
      rw [hc] at h
      cases h
    | some c =>
      rw [hc] at h
      exact follow_node (NodesAt.mem n.2 (List.mem_of_getElem? hc)) h
theorem follow_snoc : ∀ {l : List Nat} {t : Tr} {pl : Int} {i : Nat}, follow t pl (l ++ [i]) = match follow t pl l with
    | none => none
    | some x => match x.2.ks[i]? with
      | none => none
      | some c => some (x.1 + sumZ (wids (x.2.ks.take i)), c)
  | [], t, pl, i => rfl
  | j :: l, t, pl, i => by
    show (match t.ks[j]? with | none => none | some c => follow c (pl + sumZ (wids (t.ks.take j))) (l ++ [i])) = (match (match t.ks[j]? with | none => none | some c => follow c (pl + sumZ (wids (t.ks.take j))) l) with | none => none | some x => _)
    cases t.ks[j]? with
    | none => rfl
    | some c => exact follow_snoc
/-! ### at_path -/
theorem bd_at_path2 (T : Txt K mg) : ∃ ds, Vals [V.int 0] ds ∧ Binds K T.fd_at_path ["node", "path", "place"] ds :=
  T.FD_at_path.binds1 2 0 (List.cons_ne_nil _ _) rfl fun t kV doc pm an cdv ct us its l1 l2 => by
    match us, l1, its, l2 with
    | [u1, u2], _, [m1], _ => exact ⟨_, rfl, rfl⟩
theorem bd_at_path3 (T : Txt K mg) : ∃ ds, Vals ([] : List V) ds ∧ Binds K T.fd_at_path ["node", "path", "place"] ds :=
  T.FD_at_path.binds1 3 1 (List.cons_ne_nil _ _) rfl fun t kV doc pm an cdv ct us its l1 l2 => by
    match us, l1, its, l2 with
    | [u1, u2, u3], _, [m1], _ => exact ⟨_, rfl, rfl⟩

def natsZ (l : List Nat) : List Int := l.map fun (n : Nat) => (n : Int)
def spAt (K : PySem.W.Frag) (C CE : Addr) : Sp := fun vs H Q E => ∃ (t : Tr) (pa : Addr) (pl : Int) (xs : List Int) (l : List Nat) (q : Int) (s : Tr), vs = [.ref t.at, .ref pa, .int pl] ∧ NodeAt K C H t ∧ t.ats.length ≤ 5000 ∧ SqT K H pa (xs.map V.int) ∧ xs.length ≤ 5000 ∧ (∀ i ∈ xs, i.natAbs ≤ 1000000) ∧
  follow t pl l = some (q, s) ∧ ((xs = natsZ l ∧ ∀ g H', Same H H' → H' g = some (.tup [.int q, .ref s.at]) → Q (.ref g) H') ∨ (∃ x more, xs = natsZ l ++ x :: more ∧ (x < 0 ∨ (s.ks.length : Int) ≤ x) ∧ ErrP CE H E pa))
theorem follow_some {t : Tr} {pl : Int} {l : List Nat} {x : Int × Tr} (h : follow t pl l = some x) : ∀ {i : Nat}, i ≤ l.length → ∃ y, follow t pl (l.take i) = some y := fun {i} hi => by
  induction l generalizing t pl i with
  | nil => exact ⟨_, by rw [List.take_nil]; exact h⟩
  | cons j l ih =>
    cases i with
    | zero => exact ⟨_, rfl⟩
    | succ i =>
      unfold follow at h
      rw [List.take_succ_cons]
      unfold follow
      cases hc : t.ks[j]? with
      | none =>
        rw [hc] at h
        cases h
      | some c =>
        rw [hc] at h
        exact ih h (by simpa using hi)
theorem sumZ_sum : ∀ xs : List Int, xs.sum = sumZ xs
  | [] => rfl
  | x :: xs => by
    rw [List.sum_cons, sumZ_sum xs]
    rfl
theorem g_seqF {i : Nat} {x : V} {σ : L2.St} {H : Hp} {t u : L2.TS} {D : L2.Ends} (h : tSeq t u D (σ.set i (some x)) H) : gName i x σ H (fun σ2 H2 => tSeq t u D σ2 H2) := h
theorem ok_at_path (T : Txt K mg) : FnOk P w K mg base (L2N.CX P w) 6 T.a_at_path T.fd_at_path ["node", "path", "place"] (spAt K T.C_Node T.C_NoNode) := by
  have G_NoNode_init : FnOk P w K mg base CX0 4 T.a_NoNode_init T.fd_NoNode_init ["self", "path"] (spInitN T.C_NoNode 1 (okPath K) fsPath) := ok_NoNode_init T
  refine T.FD_at_path.ok sc_at_path (fun vs H Q E h => ?_) (fun cdv A outer s H vs Q E hr h => ?_)
  · obtain ⟨t, pa, pl, xs, l, q, s, rfl, _⟩ := h
    rfl
  · have hr_NoNode_init : Room 5 _ := hr
    obtain ⟨t, pa, pl, xs, l, q, s, rfl, hn, ht, hp, hx, hxs, hf, qe⟩ := h
    refine ⟨_, (pss_cons (ps_for (passes_of rfl) rfl (pi_tup (pv 1)) (pg_name (i := 3) sc_at_path.nd rfl (.inl rfl)) (pss_cons (ps_if (PW.pt (pw_or (pt_cmpR op_lt (pv 3) pe_int (nomark _)) (pw_or1 (pt_cmpR op_ge (pv 3) (pe_callB call_len_seq (by rfl) T.m_len PySem.boot_len (pa_cons (pe_fld (pv 0) rfl) pa_nil)) (nomark _))))) (pss_one (L2N.ps_raise rfl (L2N.takes_of rfl rfl rfl rfl) (OwnHot.pmk_oexN T.E_NoNode.oex T.E_NoNode.iC T.E_NoNode.tI G_NoNode_init hr_NoNode_init T.b_NoNode_init pass0 (by rfl) T.E_NoNode.g (pa_cons (pv 1) pa_nil)))) pss_nil)
      (pss_cons (ps_set (i := 2) sc_at_path.nd rfl (.inl rfl) (pe_op op_add (pv 2) (pe_callB (cr_sum rfl) (by rfl) T.m_sum (by decide +kernel) (pa_cons (pe_lc (own := [("child", 4)]) (g := gName 4) (by rfl) sc_at_path.nd (pi_tup (pe_slice sl_tup (pe_fld (pv 0) rfl) po_none (po_some (pv 3)))) (blkOk_by (own := [("child", 4)]) (N := ["node", "path", "place", "index", "child"]) (sc := defScope s_at_path) (by decide +kernel)) (fun _ _ _ _ _ => pg_name (i := 4) sc_at_path.nd rfl (Or.inl rfl)) (fun _ _ _ _ _ => pts_nil) (fun _ _ _ _ _ => (pe_fldK (K := K) rfl (pv 4) rfl))) pa_nil))))
      (pss_one (ps_set (i := 0) sc_at_path.nd rfl (.inl rfl) (pe_ix ix_tup (pe_fld (pv 0) rfl) (pv 3) (fun _ _ => rfl)))))))
      (pss_one (ps_ret (pe_tup (pa_cons (pv 2) (pa_cons (pv 0) pa_nil)))))), ?_⟩
    have lx : l.length ≤ xs.length := by
      rcases qe with ⟨e, _⟩ | ⟨x, more, e, _⟩
      · rw [e]
        unfold natsZ
        rw [List.length_map]
        exact Nat.le_refl _
      · rw [e]
        unfold natsZ
        rw [List.length_append, List.length_map]
        omega
    refine ⟨_, rfl, pa, rfl, ⟨_, hp⟩, ?_⟩
    have sqs : ∀ {H1 H2 : Hp} {a : Addr} {us : List V}, Same H1 H2 → SqT K H1 a us → SqT K H2 a us := fun s h => (Keeps.of (C := T.C_Node) s).tup _ _ h
    have xl : ∀ i, i < l.length → ∃ j, l[i]? = some j ∧ xs[i]? = some (j : Int) := fun i hi => by
      refine ⟨l[i], List.getElem?_eq_getElem hi, ?_⟩
      have e1 : (natsZ l)[i]? = some ((l[i] : Nat) : Int) := by
        unfold natsZ
        rw [List.getElem?_map, List.getElem?_eq_getElem hi]
        rfl
      rcases qe with ⟨e, _⟩ | ⟨x, more, e, _⟩
      · rw [e]
        exact e1
      · rw [e, List.getElem?_append_left (by unfold natsZ; rw [List.length_map]; exact hi)]
        exact e1
    refine for_tup (K := K) (a := pa) (xs := xs.map V.int) (fun i σ H' => i ≤ l.length ∧ Same H H' ∧ ∃ (q1 : Int) (s1 : Tr) (y3 y4 : Option V), σ = [some (.ref s1.at), some (.ref pa), some (.int q1), y3, y4] ∧ follow t pl (l.take i) = some (q1, s1))
      ⟨Nat.zero_le _, Same.refl H, pl, t, none, none, rfl, rfl⟩ (fun i σ H' _ ⟨_, sm, _⟩ => sqs sm hp) ?_ ?_
    · rintro i x σ H1 hxi ⟨hi, sm, q1, s1, y3, y4, rfl, hf1⟩
      rw [List.getElem?_map] at hxi
      obtain ⟨z, hz, rfl⟩ : ∃ z, xs[i]? = some z ∧ x = V.int z := by
        cases hz : xs[i]? with
        | none =>
          rw [hz] at hxi
          cases hxi
        | some z =>
          rw [hz] at hxi
          exact ⟨z, rfl, (Option.some.inj hxi).symm⟩
      have n1 := (follow_node hn hf1).keep (Keeps.of (C := T.C_Node) (K := K) sm)
      obtain ⟨dx, tp, hs1, sq1⟩ := n1.it
      have la := follow_ats hf1
      have lk := kids_le s1
      refine g_seqF ?_
      refine ts_if (A := z < 0 ∨ (s1.ks.length : Int) ≤ z) (Ts.or (A := z < 0) (B := (s1.ks.length : Int) ≤ z) (ts_ltI rfl) fun _ Q q => ⟨_, rfl, _, rfl, _, _, _, _, _, rfl, hs1, T.CL_Node, T.NA_Node_nodes, nf_nodes _ _, tp, _, rfl, .inr sq1, _, _, rfl, rfl, _, rfl, q _ ?_⟩) (fun hb => ?_) (fun hb => ?_)
      · rw [decide_eq_true_eq, List.length_map]
      · have hil : ¬ i < l.length := fun hil => by
          obtain ⟨j, h1, h2⟩ := xl i hil
          obtain rfl : (j : Int) = z := Option.some.inj (h2.symm.trans hz)
          obtain ⟨y, hy⟩ := follow_some hf (i := i + 1) (by omega)
          rw [takeN h1, follow_snoc, hf1] at hy
          have hy : (match s1.ks[j]? with | none => none | some c => some (q1 + sumZ (wids (s1.ks.take j)), c)) = some y := hy
          cases hc : s1.ks[j]? with
          | none =>
            rw [hc] at hy
            cases hy
          | some c =>
            have := (List.getElem?_eq_some_iff.mp hc).1
            omega
        rcases qe with ⟨e, _⟩ | ⟨x, more, e, _, err⟩
        · have := (List.getElem?_eq_some_iff.mp hz).1
          rw [e] at this
          unfold natsZ at this
          rw [List.length_map] at this
          omega
        · refine mkN (ta := tCons (tVar 1) tNil) (n := 1) (ok := okPath K) (fs := fsPath) ?_ ?_
          · refine ⟨_, rfl, rfl, by show 1 ≤ 1000; decide, fun a na => ⟨pa, xs, rfl, sqs (same_upd na) (sqs sm hp), hx, hxs⟩, fun d H' sm' nd hd' => err d H' (sm.trans sm') (sm.free nd) hd'⟩
          · rintro Q1 Q2 h ⟨x, e1, q⟩
            exact ⟨x, e1, h _ _ q⟩
      · have hil : i < l.length := by
          rcases Nat.lt_or_ge i l.length with h | h
          · exact h
          · exfalso
            have e0 : i = l.length := by omega
            rcases qe with ⟨e, _⟩ | ⟨x, more, e, hbad, _⟩
            · have := (List.getElem?_eq_some_iff.mp hz).1
              rw [e] at this
              unfold natsZ at this
              rw [List.length_map] at this
              omega
            · rw [e, List.getElem?_append_right (by unfold natsZ; rw [List.length_map]; omega)] at hz
              rw [show i - (natsZ l).length = 0 by unfold natsZ; rw [List.length_map]; omega] at hz
              obtain rfl : x = z := Option.some.inj hz
              rw [e0, List.take_length, hf] at hf1
              have := Option.some.inj hf1
              injection this with _ this
              rw [← this] at hb
              exact hb hbad
        obtain ⟨j, h1, h2⟩ := xl i hil
        obtain rfl : (j : Int) = z := Option.some.inj (h2.symm.trans hz)
        have hj : j < s1.ks.length := by omega
        obtain ⟨c, hc⟩ : ∃ c, s1.ks[j]? = some c := ⟨_, List.getElem?_eq_getElem hj⟩
        have hf2 : follow t pl (l.take (i + 1)) = some (q1 + sumZ (wids (s1.ks.take j)), c) := by
          rw [takeN h1, follow_snoc, hf1]
          show (match s1.ks[j]? with | none => none | some c => some (q1 + sumZ (wids (s1.ks.take j)), c)) = _
          rw [hc]
        have ncut : ¬ (HT.sIx (s1.ks.map fun t => V.ref t.at).length 0 none = 0 ∧ HT.sIx (s1.ks.map fun t => V.ref t.at).length (s1.ks.map fun t => V.ref t.at).length (some (j : Int)) = (s1.ks.map fun t => V.ref t.at).length) := by
          rw [HT.sIx_nat, List.length_map]
          omega
        have ecut : cutV (s1.ks.map fun t => V.ref t.at) none (some (j : Int)) = (s1.ks.take j).map fun t => V.ref t.at := by
          unfold cutV
          rw [HT.sIx_nat, HT.sIx_none, List.length_map, Nat.min_eq_left (by omega), List.drop_zero, Nat.sub_zero, List.map_take]
        refine ⟨_, rfl, _, rfl, _, _, _, _, _, rfl, hs1, T.CL_Node, T.NA_Node_nodes, nf_nodes _ _, _, rfl, _, rfl, tp, _, rfl, sq1, ncut, fun p1 np1 => ?_⟩
        rw [ecut]
        have s2 := sm.trans (same_upd (o := .tup ((s1.ks.take j).map fun t => V.ref t.at)) np1)
        have s12 := same_upd (o := .tup ((s1.ks.take j).map fun t => V.ref t.at)) np1
        have hp1 : (upd H1 p1 (.tup ((s1.ks.take j).map fun t => V.ref t.at))) p1 = some (.tup ((s1.ks.take j).map fun t => V.ref t.at)) := upd_same
        refine ⟨p1, rfl, ⟨_, SqT.of hp1⟩, fun D nD => ?_⟩
        have hpD : p1 ≠ D := ne_of_none hp1 nD
        have s3 := s12.trans (same_upd (o := .lst ((wids (s1.ks.take j)).map V.int)) nD)
        refine lc_tup (K := K) (a := p1) (xs := (s1.ks.take j).map fun t => V.ref t.at) (fun m H' => H' = upd (upd H1 p1 (.tup ((s1.ks.take j).map fun t => V.ref t.at))) D (.lst (((wids (s1.ks.take j)).take m).map V.int))) rfl (fun m H' _ e => by rw [e]; exact SqT.of (by rw [upd_ne hpD]; exact hp1)) ?_ ?_
        · rintro m v H4 hv rfl
          rw [List.getElem?_map] at hv
          obtain ⟨c2, hc2, rfl⟩ : ∃ c2, (s1.ks.take j)[m]? = some c2 ∧ v = .ref c2.at := by
            cases h : (s1.ks.take j)[m]? with
            | none =>
              rw [h] at hv
              cases hv
            | some c2 =>
              rw [h] at hv
              exact ⟨c2, rfl, (Option.some.inj hv).symm⟩
          have hmem : c2 ∈ s1.ks := List.mem_of_mem_take (List.mem_of_getElem? hc2)
          have nc2 : NodeAt K T.C_Node H1 c2 := by
            cases s1 with
            | mk p d ks => exact NodesAt.mem n1.2 hmem
          obtain ⟨dx2, tp2, hc2', _⟩ := nc2.it
          have hc3 := ((same_upd (o := .tup ((s1.ks.take j).map fun t => V.ref t.at)) np1).trans (same_upd (o := .lst (((wids (s1.ks.take j)).take m).map V.int)) nD)) _ _ hc2'
          have hw : (wids (s1.ks.take j))[m]? = some c2.d.wid := by
            unfold wids
            rw [List.getElem?_map, hc2]
            rfl
          refine ⟨rfl, _, rfl, _, _, _, _, _, rfl, hc3, T.CL_Node, T.NA_Node_width, nf_width _ _, _, upd_same, sz2 (by rw [List.length_map, List.length_take]; unfold wids; rw [List.length_map, List.length_take]; omega), ?_⟩
          rw [upd_upd, takeN hw, List.map_append]
          rfl
        · rintro H4 rfl
          have ew : (wids (s1.ks.take j)).take ((s1.ks.take j).map fun t => V.ref t.at).length = wids (s1.ks.take j) := by
            rw [List.length_map]
            unfold wids
            rw [List.take_of_length_le (by rw [List.length_map]; exact Nat.le_refl _)]
          rw [ew]
          have s4 := sm.trans s3
          have sq4 := sqs s3 sq1
          have hs4 := s3 _ _ hs1
          refine ⟨D, wids (s1.ks.take j), rfl, SqL.of upd_same, _, _, rfl, rfl, ?_⟩
          rw [sumZ_sum]
          refine ⟨_, rfl, _, _, _, _, _, rfl, hs4, T.CL_Node, T.NA_Node_nodes, nf_nodes _ _, _, rfl, tp, _, _, _, rfl, rfl, sq4, atI_nat (v := .ref c.at) (by rw [List.getElem?_map, hc]; rfl), ?_⟩
          exact ⟨by omega, s4, _, c, _, _, rfl, hf2⟩
    · rintro σ H1 ⟨hi, sm, q1, s1, y3, y4, rfl, hf1⟩
      rw [List.length_map] at hi hf1
      rcases qe with ⟨e, qq⟩ | ⟨x, more, e, _⟩
      · have el : xs.length = l.length := by rw [e]; unfold natsZ; rw [List.length_map]
        rw [el, List.take_length, hf] at hf1
        have := Option.some.inj hf1
        injection this with e1 e2
        rw [e1, e2] at qq
        exact ⟨_, rfl, _, rfl, by show 2 ≤ sizeLine; decide, fun g ng => qq g _ (sm.trans (same_upd ng)) upd_same⟩
      · rw [e] at hi
        unfold natsZ at hi
        rw [List.length_append, List.length_map, List.length_cons] at hi
        omega

/-! ### source, _child_at, path_to -/
def spSource (K : PySem.W.Frag) (C : Addr) : Sp := fun vs H Q _ => ∃ (t : Tr) (pl : Int) (z : Str), vs = [.ref t.at, .int pl, .str z] ∧ NodeAt K C H t ∧ z.length ≤ 100000 ∧ Q (.str (cutS z (some (pl + t.d.lead)) (some (pl + t.d.wid)))) H
theorem ok_source (T : Txt K mg) : FnOk P w K mg base CX0 1 T.a_source T.fd_source ["node", "place", "text"] (spSource K T.C_Node) := by
  refine T.F_source.ok sc_source (fun vs H Q E h => ?_) (fun cdv A outer s H vs Q E hr h => ?_)
  · obtain ⟨t, pl, z, rfl, _⟩ := h
    rfl
  · obtain ⟨t, pl, z, rfl, hn, hz, q⟩ := h
    refine ⟨_, (pss_one (ps_ret (pe_slice sl_str (pv 2) (po_some (pe_op op_add (pv 1) (pe_fld (pv 0) rfl))) (po_some (pe_op op_add (pv 1) (pe_fld (pv 0) rfl)))))), ?_⟩
    obtain ⟨dx, tp, ht, _⟩ := hn.it
    refine ⟨_, rfl, _, rfl, _, rfl, _, _, _, _, _, rfl, ht, T.CL_Node, T.NA_Node_lead, nf_lead _ _, _, _, rfl, rfl, _, rfl, _, rfl, _, rfl, _, _, _, _, _, rfl, ht, T.CL_Node, T.NA_Node_width, nf_width _ _, _, _, rfl, rfl, _, rfl, z, rfl, ?_⟩
    exact ⟨Nat.le_trans hz (by decide), q⟩
def spChild (K : PySem.W.Frag) (C : Addr) : Sp := fun vs H Q _ => ∃ (t : Tr) (o : Int), vs = [.ref t.at, .int o] ∧ NodeAt K C H t ∧ ∀ g H', Same H H' → H' g = some (.tup [.int (childAt t.ks 0 o).1, .int (childAt t.ks 0 o).2]) → Q (.ref g) H'
theorem childAt_step : ∀ {ks : List Tr} {i j : Nat} {o : Int} {c : Tr}, ks[j]? = some c → childAt (ks.drop j) (i + j) o = if o < c.d.wid then (((i + j : Nat) : Int), o) else childAt (ks.drop (j + 1)) (i + (j + 1)) (o - c.d.wid) := fun {ks i j o c} h => by
  rw [drop_at h]
  rfl
theorem ok_child_at (T : Txt K mg) : FnOk P w K mg base CX0 1 T.a_child_at T.fd_child_at ["node", "offset"] (spChild K T.C_Node) := by
  refine T.F_child_at.ok sc_child_at (fun vs H Q E h => ?_) (fun cdv A outer s H vs Q E hr h => ?_)
  · obtain ⟨t, o, rfl, _⟩ := h
    rfl
  · obtain ⟨t, o, rfl, hn, q⟩ := h
    refine ⟨_, (pss_cons (ps_for PassesOwn.never rfl (OwnOp.pi_enumT (by rfl) T.m_enumerate (pa_cons (pe_fld (pv 0) rfl) pa_nil)) (pg_tup (by rfl) (pgs_cons (pg_name (i := 2) sc_child_at.nd rfl (.inl rfl)) (pgs_cons (pg_name (i := 3) sc_child_at.nd rfl (.inl rfl)) pgs_nil))) (pss_cons (ps_if (pt_cmpR op_lt (pv 1) (pe_fld (pv 3) rfl) (nomark _)) (pss_one (ps_ret (pe_tup (pa_cons (pv 2) (pa_cons (pv 1) pa_nil))))) pss_nil)
      (pss_one (ps_set (i := 1) sc_child_at.nd rfl (.inl rfl) (pe_op op_sub (pv 1) (pe_fld (pv 3) rfl))))))
      (pss_one (ps_ret (pe_tup (pa_cons (pe_un un_neg pe_int) (pa_cons (pv 1) pa_nil)))))), ?_⟩
    obtain ⟨dx, tp, ht, sq⟩ := hn.it
    have sqs : ∀ {H1 H2 : Hp} {a : Addr} {us : List V}, Same H1 H2 → SqT K H1 a us → SqT K H2 a us := fun s h => (Keeps.of (C := T.C_Node) s).tup _ _ h
    refine ⟨_, rfl, _, _, _, _, _, rfl, ht, T.CL_Node, T.NA_Node_nodes, nf_nodes _ _, tp, _, rfl, sq, ?_⟩
    refine for_it (OwnOp.walk_enumT (K := K) (a := tp) (xs := t.ks.map fun t => V.ref t.at)) (fun i σ H' => Same H H' ∧ ∃ (o1 : Int) (y2 y3 : Option V), σ = [some (.ref t.at), some (.int o1), y2, y3] ∧ childAt (t.ks.drop i) (0 + i) o1 = childAt t.ks 0 o)
      ⟨Same.refl H, o, none, none, rfl, rfl⟩ (fun i σ H' _ ⟨sm, _⟩ => sqs sm sq) ?_ ?_
    · rintro i x σ H1 H2 hi ⟨sm, o1, y2, y3, rfl, he⟩ ⟨g, vi, vx, rfl, ng, rfl, hvi, hvx⟩
      obtain rfl : V.int (i : Nat) = vi := Option.some.inj hvi
      have hvx : (t.ks.map fun t => V.ref t.at)[i]? = some vx := hvx
      rw [List.getElem?_map] at hvx
      obtain ⟨c, hc, rfl⟩ : ∃ c, t.ks[i]? = some c ∧ vx = .ref c.at := by
        cases h : t.ks[i]? with
        | none =>
          rw [h] at hvx
          cases hvx
        | some c =>
          rw [h] at hvx
          exact ⟨c, rfl, (Option.some.inj hvx).symm⟩
      have nc : NodeAt K T.C_Node H c := by
        cases t with
        | mk p d ks => exact NodesAt.mem hn.2 (List.mem_of_getElem? hc)
      obtain ⟨dx2, tp2, hc2, _⟩ := nc.it
      have s2 := sm.trans (same_upd (o := .tup [.int (i : Nat), .ref c.at]) ng)
      have hc3 := s2 _ _ hc2
      rw [childAt_step hc] at he
      refine ⟨g, _, rfl, SqT.of upd_same, rfl, _, _, rfl, _, _, rfl, rfl, ?_⟩
      refine ⟨_, rfl, _, rfl, _, _, _, _, _, rfl, hc3, T.CL_Node, T.NA_Node_width, nf_width _ _, _, _, rfl, rfl, _, rfl, ite2 (fun hlt => ?_) (fun hlt => ?_)⟩
      · have hlt : o1 < c.d.wid := of_decide_eq_true hlt
        rw [if_pos hlt, Nat.zero_add] at he
        refine ⟨_, rfl, _, rfl, by show 2 ≤ sizeLine; decide, fun r nr => ?_⟩
        refine q r _ (s2.trans (same_upd nr)) ?_
        rw [upd_same, ← he]
      · have hlt : ¬ o1 < c.d.wid := fun z => hlt (decide_eq_true z)
        rw [if_neg hlt] at he
        exact ⟨_, rfl, _, rfl, _, _, _, _, _, rfl, hc3, T.CL_Node, T.NA_Node_width, nf_width _ _, _, _, rfl, rfl, s2, _, _, _, rfl, he⟩
    · rintro σ H1 ⟨sm, o1, y2, y3, rfl, he⟩
      rw [List.length_map, List.drop_length] at he
      refine ⟨1, rfl, _, rfl, by show 2 ≤ sizeLine; decide, fun r nr => ?_⟩
      refine q r _ (sm.trans (same_upd nr)) ?_
      rw [upd_same, ← he]
      rfl
/-- a while whose test leaves new things in the heap (R) -/
theorem while_nat2 {c : L2.TT} {tb : L2.TS} {D : L2.Ends} {σ : L2.St} {H : Hp} (Pv : Nat → L2.St → Hp → Prop) (Ex : L2.St → Hp → Prop) (R : Hp → Hp → Prop) {m0 : Nat} (h0 : Pv m0 σ H)
    (hs : ∀ m σ H, Pv m σ H → ∃ b : Bool, (∀ Q : Bool → Hp → Prop, (∀ H2, R H H2 → Q b H2) → c σ H Q) ∧ (b = true → ∀ H2, R H H2 → tb { D with nx := fun σ' H' => ∃ m', m' < m ∧ Pv m' σ' H', ct := fun σ' H' => ∃ m', m' < m ∧ Pv m' σ' H', bk := D.nx } σ H2) ∧ (b = false → ∀ H2, R H H2 → Ex σ H2)) (hd : ∀ σ H, Ex σ H → D.nx σ H) : tWhile c tb D σ H := by
  refine ⟨fun m σ H => Pv m σ H, ⟨_, h0⟩, ?_⟩
  rintro m σ H p
  obtain ⟨b, h1, h2, h3⟩ := hs m σ H p
  refine h1 _ fun H2 r => ?_
  cases b with
  | true => exact ⟨_, fun σ' H' h => h, h2 rfl H2 r⟩
  | false => exact hd _ _ (h3 rfl H2 r)
theorem leads_kid {t : Tr} {o : Int} {l : List Nat} (h : Leads t o l) : (leafB t.d = true ∧ l = []) ∨ ∃ i c o2 l', l = i :: l' ∧ leafB t.d = false ∧ childAt t.ks 0 o = ((i : Int), o2) ∧ t.ks[i]? = some c ∧ Leads c o2 l' := by
  cases h with
  | leaf h => exact .inl ⟨h, rfl⟩
  | @step _ c _ o2 i l' h1 h2 h3 h4 => exact .inr ⟨i, c, o2, l', rfl, h1, h2, h3, h4⟩
def spTo (K : PySem.W.Frag) (C CE : Addr) : Sp := fun vs H Q E => ∃ (t : Tr) (o : Int), vs = [.ref t.at, .int o] ∧ NodeAt K C H t ∧ t.ats.length ≤ 5000 ∧
  ((∃ l : List Nat, 0 ≤ o ∧ o < t.d.wid ∧ Leads t o l ∧ ∀ g H', Same H H' → H' g = some (.tup ((natsZ l).map V.int)) → Q (.ref g) H') ∨
   (t.d.kind = "root" ∧ o = t.d.wid ∧ t.ks ≠ [] ∧ ∀ g H', Same H H' → H' g = some (.tup [.int ((t.ks.length : Int) - 1)]) → Q (.ref g) H') ∨
   ((o < 0 ∨ t.d.wid ≤ o) ∧ (t.d.kind = "root" → o ≠ t.d.wid) ∧ ∀ d pa H', Same H H' → H d = none → H' pa = some (.tup []) → H' d = some (.xd [(("path" : Str), .ref pa)]) → E (.ref CE) (some d) H'))
theorem ok_path_to (T : Txt K mg) : FnOk P w K mg base (L2N.CX P w) 6 T.a_path_to T.fd_path_to ["node", "place"] (spTo K T.C_Node T.C_NoNode) := by
  have G_NoNode_init : FnOk P w K mg base CX0 4 T.a_NoNode_init T.fd_NoNode_init ["self", "path"] (spInitN T.C_NoNode 1 (okPath K) fsPath) := ok_NoNode_init T
  have G_is_leaf : FnOk P w K mg base CX0 1 T.a_is_leaf T.fd_is_leaf ["node"] (fun vs H Q E => ∃ (p : Addr) (dx tp : Addr) (d : Nd), vs = [.ref p] ∧ H p = some (.ins T.C_Node dx (nfl d tp)) ∧ ∀ H', Same H H' → Q (.bl (leafB d)) H') := ok_is_leaf T
  have G_child_at : FnOk P w K mg base CX0 1 T.a_child_at T.fd_child_at ["node", "offset"] (spChild K T.C_Node) := ok_child_at T
  refine OwnHot.okN T.F_path_to sc_path_to (fun vs H Q E h => ?_) (fun cdv A outer s H vs Q E hr h => ?_)
  · obtain ⟨t, o, rfl, _⟩ := h
    rfl
  · have hr_NoNode_init : Room 5 _ := hr
    have hr_is_leaf : Room 1 _ := hr.mono (by decide)
    have hr_child_at : Room 1 _ := hr.mono (by decide)
    obtain ⟨t, o, rfl, hn, ht, qe⟩ := h
    refine ⟨_, (pss_cons (ps_if (PW.pt (pw_and (pt_cmpR op_eq (pe_fld (pv 0) rfl) pe_str (nomark _)) (pw_and (pt_cmpR op_eq (pv 1) (pe_fld (pv 0) rfl) (nomark _)) (pw_and1 (pt_truth (pe_fld (pv 0) rfl) (by intro _; rfl)))))) (pss_one (ps_ret (pe_tup (pa_cons (pe_op op_sub (pe_callB call_len_seq (by rfl) T.m_len PySem.boot_len (pa_cons (pe_fld (pv 0) rfl) pa_nil)) pe_int) pa_nil)))) pss_nil)
      (pss_cons (ps_if (PW.pt (pw_or (pt_cmpR op_lt (pv 1) pe_int (nomark _)) (pw_or1 (pt_cmpR op_ge (pv 1) (pe_fld (pv 0) rfl) (nomark _))))) (pss_one (L2N.ps_raise rfl (L2N.takes_of rfl rfl rfl rfl) (OwnHot.pmk_oexN T.E_NoNode.oex T.E_NoNode.iC T.E_NoNode.tI G_NoNode_init hr_NoNode_init T.b_NoNode_init pass0 (by rfl) T.E_NoNode.g (pa_cons (pe_tup pa_nil) pa_nil)))) pss_nil)
      (pss_cons (ps_set (i := 2) sc_path_to.nd rfl (.inl rfl) (pe_lst pa_nil))
      (pss_cons (ps_while (passes_of rfl) (pt_not (pt_val (pe_call G_is_leaf hr_is_leaf (by rfl) T.g_is_leaf T.F_is_leaf.kp T.b_is_leaf .nil pass0 (pa_cons (pv 0) pa_nil)))) (pss_cons (ps_asg (pe_call G_child_at hr_child_at (by rfl) T.g_child_at T.F_child_at.kp T.b_child_at .nil pass0 (pa_cons (pv 0) (pa_cons (pv 1) pa_nil))) (pg_tup (by rfl) (pgs_cons (pg_name (i := 3) sc_path_to.nd rfl (.inl rfl)) (pgs_cons (pg_name (i := 1) sc_path_to.nd rfl (.inl rfl)) pgs_nil))))
      (pss_cons (ps_if (pt_cmpR op_lt (pv 3) pe_int (nomark _)) (pss_one (L2N.ps_raise rfl (L2N.takes_of rfl rfl rfl rfl) (OwnHot.pmk_oexN T.E_NoNode.oex T.E_NoNode.iC T.E_NoNode.tI G_NoNode_init hr_NoNode_init T.b_NoNode_init pass0 (by rfl) T.E_NoNode.g (pa_cons (pe_tup pa_nil) pa_nil)))) pss_nil)
      (pss_cons (ps_expr (pe_bm PySem.F.plainAttrs_list PySem.F.slot_list_append PySem.F.type_list_append mt_append (pv 2) (pa_cons (pv 3) pa_nil)))
      (pss_one (ps_set (i := 0) sc_path_to.nd rfl (.inl rfl) (pe_ix ix_tup (pe_fld (pv 0) rfl) (pv 3) (fun _ _ => rfl))))))))
      (pss_one (ps_ret (pe_callTy call_tuple_of (by rfl) T.m_tuple (by decide +kernel) (pa_cons (pv 2) pa_nil)))))))), ?_⟩
    obtain ⟨dx, tp, hp, sq⟩ := hn.it
    have sqs : ∀ {H1 H2 : Hp} {a : Addr} {us : List V}, Same H1 H2 → SqT K H1 a us → SqT K H2 a us := fun s h => (Keeps.of (C := T.C_Node) s).tup _ _ h
    refine ts_if (A := t.d.kind = "root" ∧ o = t.d.wid ∧ t.ks ≠ []) (Ts.and (A := t.d.kind = "root") (B := o = t.d.wid ∧ t.ks ≠ []) (fun Q q => ⟨_, rfl, _, _, _, _, _, rfl, hp, T.CL_Node, T.NA_Node_kind, nf_kind _ _, rfl, _, rfl, q _ ?_⟩) fun _ => Ts.and (A := o = t.d.wid) (B := t.ks ≠ []) (fun Q q => ⟨_, rfl, _, rfl, _, _, _, _, _, rfl, hp, T.CL_Node, T.NA_Node_width, nf_width _ _, rfl, _, rfl, q _ ?_⟩) fun _ Q q => ⟨_, rfl, _, _, _, _, _, rfl, hp, T.CL_Node, T.NA_Node_nodes, nf_nodes _ _, ?_⟩) (fun h1 => ?_) (fun h1 => ?_)
    · rw [decS, decide_eq_true_eq]
    · rw [decI, decide_eq_true_eq]
    · refine ⟨!(t.ks.map fun t => V.ref t.at).isEmpty, .inr (.inl ⟨_, sq, rfl⟩), q _ ?_⟩
      cases t.ks with
      | nil => simp
      | cons c ks => simp
    · refine ⟨_, rfl, _, _, _, _, _, rfl, hp, T.CL_Node, T.NA_Node_nodes, nf_nodes _ _, tp, _, rfl, .inr sq, _, _, rfl, rfl, by show 1 ≤ sizeLine; decide, fun g ng => ?_⟩
      rcases qe with ⟨l, o0, o1, _, _⟩ | ⟨_, _, _, qq⟩ | ⟨_, hk, _⟩
      · omega
      · refine qq g _ (same_upd ng) ?_
        rw [upd_same, List.length_map]
      · exact absurd h1.2.1 (hk h1.1)
    refine ts_if (A := o < 0 ∨ t.d.wid ≤ o) (Ts.or (A := o < 0) (B := t.d.wid ≤ o) (ts_ltI rfl) fun _ Q q => ⟨_, rfl, _, rfl, _, _, _, _, _, rfl, hp, T.CL_Node, T.NA_Node_width, nf_width _ _, _, _, rfl, rfl, _, rfl, q _ decide_eq_true_iff⟩) (fun h2 => ?_) (fun h2 => ?_)
    · rcases qe with ⟨l, o0, o1, _, _⟩ | ⟨k1, k2, k3, _⟩ | ⟨_, _, err⟩
      · omega
      · exact absurd ⟨k1, k2, k3⟩ h1
      · refine mkN (ta := tCons (tTup tNil) tNil) (n := 1) (ok := okPath K) (fs := fsPath) ?_ ?_
        · refine ⟨by show 0 ≤ sizeLine; decide, fun pa npa => ⟨rfl, by show 1 ≤ 1000; decide, fun a na => ⟨pa, [], rfl, SqT.of ((same_upd na) _ _ upd_same), Nat.zero_le _, fun i hi => absurd hi List.not_mem_nil⟩, fun d H' sm nd hd => ?_⟩⟩
          have s1 := same_upd (o := .tup []) npa
          exact err d pa H' (s1.trans sm) (s1.free nd) (sm _ _ upd_same) hd
        · rintro Q1 Q2 h ⟨x, q⟩
          exact ⟨x, fun p np => h _ _ (q p np)⟩
    rcases qe with ⟨l, o0, o1, hl, qq⟩ | ⟨k1, k2, k3, _⟩ | ⟨hbad, _, _⟩
    · refine ⟨by show 0 ≤ sizeLine; decide, fun D nD => ?_⟩
      refine while_nat2 (m0 := l.length) (fun m σ H' => ∃ (s1 : Tr) (o1 : Int) (done l1 : List Nat) (y3 : Option V), σ = [some (.ref s1.at), some (.int o1), some (.ref D), y3] ∧ m = l1.length ∧ l = done ++ l1 ∧ Leads s1 o1 l1 ∧ NodeAt K T.C_Node H s1 ∧ done.length + s1.ats.length ≤ 5000 ∧ Same H H' ∧ H' D = some (.lst ((natsZ done).map V.int)))
        (fun σ H' => ∃ (y0 y1 y3 : Option V), σ = [y0, y1, some (.ref D), y3] ∧ Same H H' ∧ H' D = some (.lst ((natsZ l).map V.int))) Same
        ⟨t, o, [], l, _, rfl, rfl, rfl, hl, hn, by show 0 + _ ≤ _; omega, same_upd nD, upd_same⟩ ?_ ?_
      · rintro m σ H1 ⟨s1, o1, done, l1, y3, rfl, rfl, el, hL, n1, hsz, sm, hD⟩
        obtain ⟨dx1, tp1, hs1, sq1⟩ := n1.it
        have hs1' := sm _ _ hs1
        refine ⟨!leafB s1.d, fun Q hQ => ⟨_, rfl, s1.at, dx1, tp1, s1.d, rfl, hs1', fun H2 s2 => ⟨_, rfl, hQ H2 s2⟩⟩, fun c H2 s2 => ?_, fun c H2 s2 => ?_⟩
        · rcases leads_kid hL with ⟨e, _⟩ | ⟨i, c2, o2, l', rfl, hf, hch, hc2, hL2⟩
          · rw [e] at c
            cases c
          have n1' := n1.keep (Keeps.of (C := T.C_Node) (K := K) (sm.trans s2))
          have hD2 := s2 _ _ hD
          have hmem : c2 ∈ s1.ks := List.mem_of_getElem? hc2
          have nc : NodeAt K T.C_Node H c2 := by
            cases s1 with
            | mk p d ks => exact NodesAt.mem n1.2 hmem
          have la := kid_lt hmem
          refine ⟨_, rfl, _, rfl, s1, o1, rfl, n1', fun g H3 s3 hg => ?_⟩
          rw [hch] at hg
          refine ⟨g, _, rfl, SqT.of hg, rfl, _, _, rfl, _, _, rfl, rfl, ?_⟩
          have sm3 := (sm.trans s2).trans s3
          have hs3 := sm3 _ _ hs1
          refine ⟨_, rfl, _, _, rfl, rfl, _, rfl, ite2 (fun z => ?_) (fun _ => ?_)⟩
          · have := of_decide_eq_true z
            omega
          have hD3 := s3 _ _ hD2
          have ld : (natsZ done).length = done.length := by unfold natsZ; rw [List.length_map]
          refine ⟨_, rfl, .inl ⟨rfl, _, SqL.of hD3⟩, _, rfl, D, _, _, rfl, rfl, hD3, sz2 (by rw [List.length_map, ld]; omega), ?_⟩
          have nD0 : H D = none := nD
          have sm4 := same_mut (o := .lst ((natsZ done).map V.int ++ [.int (i : Int)])) sm3 nD0
          have hs4 := sm4 _ _ hs1
          refine ⟨_, rfl, _, _, _, _, _, rfl, hs4, T.CL_Node, T.NA_Node_nodes, nf_nodes _ _, _, rfl, tp1, _, _, _, rfl, rfl, sqs sm4 sq1, atI_nat (v := .ref c2.at) (by rw [List.getElem?_map, hc2]; rfl), ?_⟩
          refine ⟨l'.length, Nat.lt_succ_self _, c2, o2, done ++ [i], l', _, rfl, rfl, by rw [el, List.append_assoc]; rfl, hL2, nc, by rw [List.length_append]; show done.length + 1 + _ ≤ _; omega, sm4, ?_⟩
          rw [upd_same]
          unfold natsZ
          rw [List.map_append, List.map_append]
          rfl
        · rcases leads_kid hL with ⟨_, rfl⟩ | ⟨i, c2, o2, l', rfl, hf, _⟩
          · rw [List.append_nil] at el
            rw [← el] at hD
            exact ⟨_, _, _, rfl, sm.trans s2, s2 _ _ hD⟩
          · rw [hf] at c
            cases c
      · rintro σ H1 ⟨y0, y1, y3, rfl, sm, hD⟩
        refine ⟨_, rfl, D, _, rfl, .inl ⟨SqL.of hD, fun g ng => ?_⟩⟩
        exact qq g _ (sm.trans (same_upd ng)) upd_same
    · exact absurd ⟨k1, k2, k3⟩ h1
    · exact absurd hbad h2

/-! ### places, ends -/
structure RowsIn (H : Hp) (l : Addr) (us : List V) (rows : List Rw) : Prop where
  lst : H l = some (.lst us)
  row : Paired (RwAt H) us rows
theorem RowsIn.same {H H' : Hp} {l : Addr} {us : List V} {rows : List Rw} (h : RowsIn H l us rows) (s : Same H H') : RowsIn H' l us rows := ⟨s _ _ h.lst, Paired.mapP h.row fun _ _ r => r.tups fun b xs e => s b _ e⟩
def sumTo (start : Int) (rows : List Rw) (k : Nat) : Int := start + sumZ ((rows.take k).map fun x => leafW x.2)
def spPlaces : Sp := fun vs H Q _ => ∃ (l : Addr) (us : List V) (rows : List Rw) (start : Int), vs = [.ref l, .int start] ∧ RowsIn H l us rows ∧ rows.length ≤ 5000 ∧
  ∀ (p : Addr) (ns : List Int) (H' : Hp), Same H H' → H p = none → H' p = some (.lst (ns.map V.int)) → ns.length = rows.length → (∀ k, k < rows.length → ns[k]? = some (sumTo start rows k)) → Q (.ref p) H'
theorem ok_places (T : Txt K mg) : FnOk P w K mg base CX0 2 T.a_law_places T.fd_law_places ["rows", "start"] spPlaces := by
  have G_law_is_leaf : FnOk P w K mg base CX0 1 T.a_law_is_leaf T.fd_law_is_leaf ["row"] (spRowB K) := ok_is_leafL T
  refine T.F_law_places.ok sc_law_places (fun vs H Q E h => ?_) (fun cdv A outer s H vs Q E hr h => ?_)
  · obtain ⟨l, us, rows, start, rfl, _⟩ := h
    rfl
  · have hr_law_is_leaf : Room 1 _ := hr
    obtain ⟨l, us, rows, start, rfl, hR, hn, q⟩ := h
    refine ⟨_, (pss_cons (ps_set (i := 2) sc_law_places.nd rfl (.inl rfl) (pe_lst pa_nil))
      (pss_cons (ps_set (i := 3) sc_law_places.nd rfl (.inl rfl) (pv 1))
      (pss_cons (ps_for PassesOwn.never rfl (pi_list (pv 0)) (pg_name (i := 4) sc_law_places.nd rfl (.inl rfl)) (pss_cons (ps_expr (pe_bm PySem.F.plainAttrs_list PySem.F.slot_list_append PySem.F.type_list_append mt_append (pv 2) (pa_cons (pv 3) pa_nil)))
      (pss_one (ps_if (pt_val (pe_call G_law_is_leaf hr_law_is_leaf (by rfl) T.g_law_is_leaf T.F_law_is_leaf.kp T.b_law_is_leaf .nil pass0 (pa_cons (pv 4) pa_nil))) (pss_one (ps_set (i := 3) sc_law_places.nd rfl (.inl rfl) (pe_op op_add (pv 3) (pe_ix ix_tup (pv 4) pe_int (fun _ _ => rfl))))) pss_nil))))
      (pss_one (ps_ret (pv 2)))))), ?_⟩
    have lu := paired_len hR.row
    refine ⟨by show 0 ≤ sizeLine; decide, fun p np => ?_⟩
    have s0 := same_upd (o := .lst []) np
    refine ⟨_, rfl, _, rfl, l, rfl, ⟨_, SqL.of (s0 _ _ hR.lst)⟩, ?_⟩
    refine for_list (K := K) (a := l) (xs := us) (fun i σ H' => i ≤ rows.length ∧ Same H H' ∧ ∃ (ns : List Int) (y4 : Option V), σ = [some (.ref l), some (.int start), some (.ref p), some (.int (sumTo start rows i)), y4] ∧ H' p = some (.lst (ns.map V.int)) ∧ ns.length = i ∧ ∀ k, k < i → ns[k]? = some (sumTo start rows k))
      ⟨Nat.zero_le _, s0, [], none, by rw [show sumTo start rows 0 = start from Int.add_zero start]; rfl, upd_same, rfl, fun k hk => absurd hk (Nat.not_lt_zero _)⟩ (fun i σ H' _ ⟨_, sm, _⟩ => SqL.of (sm _ _ hR.lst)) ?_ ?_
    · rintro i x σ H1 hx ⟨_, sm, ns, y4, rfl, hp, ln, hv⟩
      have hi : i < rows.length := by rw [← lu]; exact (List.getElem?_eq_some_iff.mp hx).1
      obtain ⟨r, hr1⟩ : ∃ r, rows[i]? = some r := ⟨_, List.getElem?_eq_getElem hi⟩
      obtain ⟨x', hx', g, rfl, hg⟩ := paired_get hR.row hr1
      obtain rfl : x = .ref g := Option.some.inj (hx.symm.trans hx')
      obtain ⟨lv, d⟩ := r
      have sm1 := same_mut (o := .lst (ns.map V.int ++ [.int (sumTo start rows i)])) sm np
      have hg1 := sm1 _ _ hg
      have tk := takeN hr1
      have e1 : sumTo start rows (i + 1) = sumTo start rows i + leafW d := by
        unfold sumTo
        rw [tk, List.map_append, sumZ_app]
        show start + (_ + (leafW d + 0)) = _
        omega
      refine ⟨_, rfl, .inl ⟨rfl, _, SqL.of hp⟩, _, rfl, p, _, _, rfl, rfl, hp, sz2 (by rw [List.length_map]; omega), ?_⟩
      have fin : ∀ v : Int, v = sumTo start rows (i + 1) → (i + 1 ≤ rows.length ∧ Same H (upd H1 p (.lst (ns.map V.int ++ [.int (sumTo start rows i)]))) ∧ ∃ (ns2 : List Int) (y4 : Option V), [some (V.ref l), some (.int start), some (.ref p), some (.int v), some (.ref g)] = [some (.ref l), some (.int start), some (.ref p), some (.int (sumTo start rows (i + 1))), y4] ∧ (upd H1 p (.lst (ns.map V.int ++ [.int (sumTo start rows i)]))) p = some (.lst (ns2.map V.int)) ∧ ns2.length = i + 1 ∧ ∀ k, k < i + 1 → ns2[k]? = some (sumTo start rows k)) := fun v hv1 => by
        refine ⟨hi, sm1, ns ++ [sumTo start rows i], _, by rw [hv1], ?_, by rw [List.length_append, ln]; rfl, fun k hk => ?_⟩
        · rw [upd_same, List.map_append]
          rfl
        · by_cases h : k < i
          · rw [List.getElem?_append_left (by omega)]
            exact hv k h
          · obtain rfl : k = i := by omega
            rw [List.getElem?_append_right (by omega), ln, Nat.sub_self]
            rfl
      refine ⟨_, rfl, g, lv, d, rfl, SqT.of hg1, leafB d, rfl, ?_⟩
      cases hb : leafB d with
      | true =>
        refine iteT ⟨_, rfl, _, rfl, g, _, 5, .int d.wid, rfl, rfl, SqT.of hg1, rfl, _, _, rfl, rfl, fin _ ?_⟩
        rw [e1]
        unfold leafW
        rw [hb]
        rfl
      | false =>
        refine iteF (fin _ ?_)
        rw [e1]
        unfold leafW
        rw [hb]
        exact (Int.add_zero _).symm
    · rintro σ H1 ⟨_, sm, ns, y4, rfl, hp, ln, hv⟩
      rw [lu] at ln hv
      exact ⟨_, rfl, q p ns H1 sm np hp ln hv⟩
def EndIs (rows : List Rw) (k e : Nat) : Prop := k < e ∧ e ≤ rows.length ∧ ∀ r, rows[k]? = some r → (∀ m x, k < m → m < e → rows[m]? = some x → r.1 < x.1) ∧ ∀ x, rows[e]? = some x → x.1 ≤ r.1
def spEnd : Sp := fun vs H Q _ => ∃ (l : Addr) (us : List V) (rows : List Rw) (k : Nat), vs = [.ref l, .int (k : Int)] ∧ RowsIn H l us rows ∧ rows.length ≤ 5000 ∧ k < rows.length ∧ ∀ e : Nat, EndIs rows k e → Q (.int (e : Int)) H
theorem ok_end (T : Txt K mg) : FnOk P w K mg base CX0 1 T.a_law_end T.fd_law_end ["rows", "at"] spEnd := by
  refine T.F_law_end.ok sc_law_end (fun vs H Q E h => ?_) (fun cdv A outer s H vs Q E hr h => ?_)
  · obtain ⟨l, us, rows, k, rfl, _⟩ := h
    rfl
  · obtain ⟨l, us, rows, k, rfl, hR, hn, hk, q⟩ := h
    refine ⟨_, (pss_cons (ps_set (i := 2) sc_law_end.nd rfl (.inl rfl) (pe_op op_add (pv 1) pe_int))
      (pss_cons (ps_while PassesOwn.never (PW.pt (pw_and (pt_cmpR op_lt (pv 2) (pe_callB call_len_seq (by rfl) T.m_len PySem.boot_len (pa_cons (pv 0) pa_nil)) (nomark _)) (pw_and1 (pt_cmpR op_gt (pe_ix ix_tup (pe_ix ix_list (pv 0) (pv 2) (fun _ _ => rfl)) pe_int (fun _ _ => rfl)) (pe_ix ix_tup (pe_ix ix_list (pv 0) (pv 1) (fun _ _ => rfl)) pe_int (fun _ _ => rfl)) (nomark _))))) (pss_one (ps_set (i := 2) sc_law_end.nd rfl (.inl rfl) (pe_op op_add (pv 2) pe_int))))
      (pss_one (ps_ret (pv 2))))), ?_⟩
    have lu := paired_len hR.row
    obtain ⟨r, hrk⟩ : ∃ r, rows[k]? = some r := ⟨_, List.getElem?_eq_getElem hk⟩
    obtain ⟨vk, hvk, gk, rfl, hgk⟩ := paired_get hR.row hrk
    refine ⟨_, rfl, _, _, rfl, rfl, ?_⟩
    refine while_nat (m0 := rows.length - (k + 1)) (fun m σ H' => H' = H ∧ ∃ e : Nat, σ = [some (.ref l), some (.int (k : Int)), some (.int (e : Int))] ∧ m = rows.length - e ∧ k < e ∧ e ≤ rows.length ∧ ∀ m x, k < m → m < e → rows[m]? = some x → r.1 < x.1)
      (fun σ H' => H' = H ∧ ∃ e : Nat, σ = [some (.ref l), some (.int (k : Int)), some (.int (e : Int))] ∧ EndIs rows k e)
      ⟨rfl, k + 1, by rw [show ((k + 1 : Nat) : Int) = (k : Int) + 1 by omega]; rfl, rfl, Nat.lt_succ_self _, hk, fun m x h1 h2 => by omega⟩ ?_ ?_
    · rintro m σ H' ⟨rfl, e, rfl, rfl, h1, h2, h3⟩
      rcases Nat.lt_or_ge e rows.length with he | he
      · obtain ⟨re, hre⟩ : ∃ r, rows[e]? = some r := ⟨_, List.getElem?_eq_getElem he⟩
        obtain ⟨ve, hve, ge, rfl, hge⟩ := paired_get hR.row hre
        refine ⟨decide (r.1 < re.1), fun Q hQ => ⟨_, rfl, _, rfl, l, _, rfl, .inl (SqL.of hR.lst), _, _, rfl, rfl, _, rfl, ite2 (fun _ => ?_) (fun z => absurd (decide_eq_true (by omega)) z)⟩, fun c => ?_, fun c => ⟨rfl, e, rfl, h1, h2, fun r' hr' => ?_⟩⟩
        · exact ⟨_, rfl, _, rfl, l, _, _, _, rfl, rfl, SqL.of hR.lst, atI_nat hve, ge, _, 0, .int re.1, rfl, rfl, SqT.of hge, rfl, _, rfl, _, rfl, l, _, _, _, rfl, rfl, SqL.of hR.lst, atI_nat hvk, gk, _, 0, .int r.1, rfl, rfl, SqT.of hgk, rfl, _, _, rfl, rfl, _, rfl, hQ⟩
        · refine ⟨_, rfl, _, _, rfl, rfl, rows.length - (e + 1), by omega, rfl, e + 1, by rw [show ((e + 1 : Nat) : Int) = (e : Int) + 1 by omega]; rfl, rfl, by omega, he, fun m x m1 m2 hx => ?_⟩
          by_cases hm : m < e
          · exact h3 m x m1 hm hx
          · obtain rfl : m = e := by omega
            obtain rfl : re = x := Option.some.inj (hre.symm.trans hx)
            exact of_decide_eq_true c
        · obtain rfl : r = r' := Option.some.inj (hrk.symm.trans hr')
          refine ⟨h3, fun x hx => ?_⟩
          obtain rfl : re = x := Option.some.inj (hre.symm.trans hx)
          have := of_decide_eq_false c
          omega
      · refine ⟨false, fun Q hQ => ⟨_, rfl, _, rfl, l, _, rfl, .inl (SqL.of hR.lst), _, _, rfl, rfl, _, rfl, ite2 (fun z => ?_) (fun _ => hQ)⟩, fun c => (by cases c), fun _ => ⟨rfl, e, rfl, h1, h2, fun r' hr' => ⟨fun m x m1 m2 hx => ?_, fun x hx => by rw [List.getElem?_eq_none he] at hx; cases hx⟩⟩⟩
        · have := of_decide_eq_true z
          omega
        · obtain rfl : r = r' := Option.some.inj (hrk.symm.trans hr')
          exact h3 m x m1 m2 hx
    · rintro σ H' ⟨rfl, e, rfl, he⟩
      exact ⟨_, rfl, q e he⟩

/-! ### paths by the parents -/
theorem depth_le {t : Tr} : ∀ {k : Nat} {pi : List Nat}, t.paths[k]? = some pi → pi.length ≤ k := fun {k} => by
  induction k using Nat.strongRecOn with
  | ind k ih =>
    intro pi h
    rcases List.eq_nil_or_concat pi with rfl | ⟨p', i, rfl⟩
    · exact Nat.zero_le _
    · rw [List.concat_eq_append] at h ⊢
      obtain ⟨p, h1, h2, _⟩ := paths_par h
      have := ih p h1 h2
      rw [List.length_append, List.length_singleton]
      omega
theorem path_zero {t : Tr} : t.paths[0]? = some [] := by
  cases t
  rfl
structure UpsAt (H : Hp) (l : Addr) (t : Tr) : Prop where
  ex : ∃ us, H l = some (.lst us) ∧ us.length = t.paths.length ∧ ∀ (k p i : Nat) (pi : List Nat), t.paths[p]? = some pi → t.paths[k]? = some (pi ++ [i]) → ∃ g, us[k]? = some (.ref g) ∧ H g = some (.tup [.int (p : Int), .int (i : Int)])
theorem UpsAt.same {H H' : Hp} {l : Addr} {t : Tr} (h : UpsAt H l t) (s : Same H H') : UpsAt H' l t := by
  obtain ⟨us, h1, h2, h3⟩ := h.ex
  exact ⟨⟨us, s _ _ h1, h2, fun k p i pi a b => by
    obtain ⟨g, e1, e2⟩ := h3 k p i pi a b
    exact ⟨g, e1, s _ _ e2⟩⟩⟩
def spPath : Sp := fun vs H Q _ => ∃ (l : Addr) (t : Tr) (k : Nat) (pi : List Nat), vs = [.ref l, .int (k : Int)] ∧ UpsAt H l t ∧ t.paths.length ≤ 5000 ∧ t.paths[k]? = some pi ∧ ∀ g H', Same H H' → H' g = some (.tup ((natsZ pi).map V.int)) → Q (.ref g) H'
theorem ok_path (T : Txt K mg) : FnOk P w K mg base CX0 1 T.a_law_path T.fd_law_path ["ups", "at"] spPath := by
  refine T.F_law_path.ok sc_law_path (fun vs H Q E h => ?_) (fun cdv A outer s H vs Q E hr h => ?_)
  · obtain ⟨l, t, k, pi, rfl, _⟩ := h
    rfl
  · obtain ⟨l, t, k, pi, rfl, hU, hn, hk, q⟩ := h
    refine ⟨_, (pss_cons (ps_set (i := 2) sc_law_path.nd rfl (.inl rfl) (pe_lst pa_nil))
      (pss_cons (ps_set (i := 3) sc_law_path.nd rfl (.inl rfl) (pv 1))
      (pss_cons (ps_for PassesOwn.never rfl (pi_range1 (by rfl) T.m_range (pa_cons (pe_callB call_len_seq (by rfl) T.m_len PySem.boot_len (pa_cons (pv 0) pa_nil)) pa_nil)) (pg_name (i := 4) sc_law_path.nd rfl (.inl rfl)) (pss_one (ps_if (pt_cmpR op_gt (pv 3) pe_int (nomark _)) (pss_cons (ps_expr (pe_bm PySem.F.plainAttrs_list PySem.F.slot_list_append PySem.F.type_list_append mt_append (pv 2) (pa_cons (pe_ix ix_tup (pe_ix ix_list (pv 0) (pv 3) (fun _ _ => rfl)) pe_int (fun _ _ => rfl)) pa_nil)))
      (pss_one (ps_set (i := 3) sc_law_path.nd rfl (.inl rfl) (pe_ix ix_tup (pe_ix ix_list (pv 0) (pv 3) (fun _ _ => rfl)) pe_int (fun _ _ => rfl))))) pss_nil)))
      (pss_cons (ps_expr (pe_bm0 PySem.F.plainAttrs_list PySem.F.slot_list_reverse PySem.F.type_list_reverse mt_reverse (pv 2)))
      (pss_one (ps_ret (pe_callTy call_tuple_of (by rfl) T.m_tuple (by decide +kernel) (pa_cons (pv 2) pa_nil)))))))), ?_⟩
    obtain ⟨us, hl, lu, hg⟩ := hU.ex
    refine ⟨by show 0 ≤ sizeLine; decide, fun D nD => ?_⟩
    have s0 := same_upd (o := .lst []) nD
    refine ⟨_, rfl, _, rfl, l, _, rfl, .inl (SqL.of (s0 _ _ hl)), ?_⟩
    refine ⟨_, rfl, by omega, by omega, ?_⟩
    refine for_range (lo := 0) (n := (us.length : Int).toNat) (fun m σ H' => Same H H' ∧ ∃ (h : Nat) (ph c : List Nat) (y4 : Option V), σ = [some (.ref l), some (.int (k : Int)), some (.ref D), some (.int (h : Int)), y4] ∧ t.paths[h]? = some ph ∧ pi = ph ++ c.reverse ∧ (h = 0 ∨ c.length = m) ∧ H' D = some (.lst ((natsZ c).map V.int)))
      ⟨s0, k, pi, [], none, rfl, hk, by rw [List.reverse_nil, List.append_nil], .inr rfl, upd_same⟩ ?_ ?_
    · rintro m σ H1 hm ⟨sm, h, ph, c, y4, rfl, hh, ep, hc, hD⟩
      refine ⟨_, rfl, _, _, rfl, rfl, _, rfl, ite2 (fun hp => ?_) (fun hp => ?_)⟩
      · have hp : (0 : Int) < (h : Int) := of_decide_eq_true hp
        rcases List.eq_nil_or_concat ph with rfl | ⟨p', i, rfl⟩
        · have := paths_uniq hh path_zero
          omega
        rw [List.concat_eq_append] at hh ep
        obtain ⟨p, h1, h2, _⟩ := paths_par hh
        obtain ⟨g, e1, e2⟩ := hg h p i p' h2 hh
        have hcl : c.length = m := hc.resolve_left (by omega)
        have dl := depth_le hk
        have kl := (List.getElem?_eq_some_iff.mp hk).1
        have lc : (natsZ c).length = c.length := by unfold natsZ; rw [List.length_map]
        have sm1 := same_mut (o := .lst ((natsZ c).map V.int ++ [.int (i : Int)])) sm nD
        refine ⟨_, rfl, .inl ⟨rfl, _, SqL.of hD⟩, _, rfl, _, rfl, l, _, _, _, rfl, rfl, SqL.of (sm _ _ hl), atI_nat e1, g, _, 1, .int (i : Int), rfl, rfl, SqT.of (sm _ _ e2), rfl, D, _, _, rfl, rfl, hD, sz2 (by rw [List.length_map, lc]; omega), ?_⟩
        refine ⟨_, rfl, _, rfl, l, _, _, _, rfl, rfl, SqL.of (sm1 _ _ hl), atI_nat e1, g, _, 0, .int (p : Int), rfl, rfl, SqT.of (sm1 _ _ e2), rfl, ?_⟩
        refine ⟨sm1, p, p', c ++ [i], _, rfl, h2, ?_, .inr (by rw [List.length_append, hcl]; rfl), ?_⟩
        · rw [ep, List.reverse_append, List.append_assoc]
          rfl
        · rw [upd_same]
          unfold natsZ
          rw [List.map_append, List.map_append]
          rfl
      · have hp : ¬ (0 : Int) < (h : Int) := fun z => hp (decide_eq_true z)
        exact ⟨sm, h, ph, c, _, rfl, hh, ep, .inl (by omega), hD⟩
    · rintro σ H1 ⟨sm, h, ph, c, y4, rfl, hh, ep, hc, hD⟩
      have dl := depth_le hk
      have kl := (List.getElem?_eq_some_iff.mp hk).1
      have lp : pi.length = ph.length + c.length := by rw [ep, List.length_append, List.length_reverse]
      have h0 : h = 0 := by
        rcases hc with h | h
        · exact h
        · omega
      subst h0
      obtain rfl : [] = ph := Option.some.inj (path_zero.symm.trans hh)
      have er : ((natsZ c).map V.int).reverse = (natsZ pi).map V.int := by
        rw [ep, List.nil_append]
        unfold natsZ
        rw [← List.map_reverse, ← List.map_reverse]
      refine ⟨_, rfl, .inl ⟨rfl, _, SqL.of hD⟩, D, _, rfl, rfl, hD, ?_⟩
      rw [er]
      have sm2 := same_mut (o := .lst ((natsZ pi).map V.int)) sm nD
      exact ⟨_, rfl, D, _, rfl, .inl ⟨SqL.of upd_same, fun g ng => q g _ (sm2.trans (same_upd ng)) upd_same⟩⟩

/-! ### kids -/
/-- rows whose levels are the lengths of a tree's paths -/
structure RowsOf (t : Tr) (rows : List Rw) : Prop where
  len : rows.length = t.paths.length
  lev : ∀ (k : Nat) (r : Rw) (pi : List Nat), rows[k]? = some r → t.paths[k]? = some pi → r.1 = (pi.length : Int)
/-- the kids among the first n rows -/
def KidsTo (t : Tr) (n : Nat) (j : Nat) (c : List Nat) : Prop := ∀ pi, t.paths[j]? = some pi → (∀ (i m : Nat), c[i]? = some m → m < n ∧ t.paths[m]? = some (pi ++ [i])) ∧ (∀ (i m : Nat), m < n → t.paths[m]? = some (pi ++ [i]) → c[i]? = some m)
theorem KidsTo.skip {t : Tr} {n j : Nat} {c : List Nat} (h : KidsTo t n j c) (hn : ∀ pi i, t.paths[j]? = some pi → t.paths[n]? ≠ some (pi ++ [i])) : KidsTo t (n + 1) j c := fun pi hp => by
  obtain ⟨a, b⟩ := h pi hp
  refine ⟨fun i m e => ⟨Nat.lt_succ_of_lt (a i m e).1, (a i m e).2⟩, fun i m hm e => ?_⟩
  rcases Nat.lt_succ_iff_lt_or_eq.mp hm with h | rfl
  · exact b i m h e
  · exact absurd e (hn pi i hp)
theorem KidsTo.next {t : Tr} {n j i : Nat} {c pi : List Nat} (h : KidsTo t n j c) (hp : t.paths[j]? = some pi) (hn : t.paths[n]? = some (pi ++ [i])) : c.length = i ∧ KidsTo t (n + 1) j (c ++ [n]) := by
  obtain ⟨a, b⟩ := h pi hp
  have l1 : ¬ i < c.length := fun z => by
    obtain ⟨m, hm⟩ : ∃ m, c[i]? = some m := ⟨_, List.getElem?_eq_getElem z⟩
    obtain ⟨h1, h2⟩ := a i m hm
    have := paths_uniq h2 hn
    omega
  have l2 : ¬ c.length < i := fun z => by
    obtain ⟨i', rfl⟩ : ∃ i', i = i' + 1 := ⟨i - 1, by omega⟩
    obtain ⟨m, h1, h2⟩ := paths_prev hn
    have := b i' m h1 h2
    have := (List.getElem?_eq_some_iff.mp this).1
    omega
  have l : c.length = i := by omega
  refine ⟨l, fun pi' hp' => ?_⟩
  obtain rfl : pi = pi' := Option.some.inj (hp.symm.trans hp')
  refine ⟨fun x m e => ?_, fun x m hm e => ?_⟩
  · by_cases hx : x < c.length
    · rw [List.getElem?_append_left hx] at e
      exact ⟨Nat.lt_succ_of_lt (a x m e).1, (a x m e).2⟩
    · rw [List.getElem?_append_right (by omega)] at e
      have hx2 : x - c.length = 0 := by
        rcases Nat.eq_zero_or_pos (x - c.length) with h | h
        · exact h
        · rw [List.getElem?_eq_none (by show 1 ≤ _; omega)] at e
          cases e
      rw [hx2] at e
      obtain rfl : n = m := Option.some.inj e
      rw [show x = i by omega]
      exact ⟨Nat.lt_succ_self _, hn⟩
  · rcases Nat.lt_succ_iff_lt_or_eq.mp hm with h | rfl
    · have := b x m h e
      rw [List.getElem?_append_left (List.getElem?_eq_some_iff.mp this).1]
      exact this
    · rw [hn] at e
      have e := Option.some.inj e
      have e2 := List.append_inj' e rfl
      obtain rfl : i = x := by injection e2.2
      rw [← l, List.getElem?_append_right (Nat.le_refl _), Nat.sub_self]
      rfl
/-- the kids' lists in the heap -/
structure KidsAt (H : Hp) (l : Addr) (t : Tr) (n : Nat) (ks : List Addr) : Prop where
  lst : H l = some (.lst (ks.map V.ref))
  len : ks.length = t.paths.length
  nd : ks.Nodup
  kid : ∀ j a, ks[j]? = some a → a ≠ l ∧ ∃ c : List Nat, H a = some (.lst ((natsZ c).map V.int)) ∧ c.length ≤ n ∧ KidsTo t n j c
/-- the last row of each level -/
def LastTo (t : Tr) (n : Nat) (kvs : List (Key × V)) : Prop := ∀ (m : Nat) (pi : List Nat), m < n → t.paths[m]? = some pi → (∀ m' pi', m < m' → m' < n → t.paths[m']? = some pi' → pi'.length ≠ pi.length) → valV kvs (.inl (pi.length : Int)) = some (.int (m : Int))
theorem LastTo.put {t : Tr} {n : Nat} {kvs : List (Key × V)} {pi : List Nat} (h : LastTo t n kvs) (hp : t.paths[n]? = some pi) : LastTo t (n + 1) (putK kvs (.inl (pi.length : Int)) (.int (n : Int))) := fun m pm hm em hl => by
  rw [valV_put]
  rcases Nat.lt_succ_iff_lt_or_eq.mp hm with h1 | rfl
  · have ne := hl n pi h1 (Nat.lt_succ_self _) hp
    rw [if_neg (fun z => ne (by injection z with z; omega))]
    exact h m pm h1 em fun m' pi' a b => hl m' pi' a (by omega)
  · obtain rfl : pi = pm := Option.some.inj (hp.symm.trans em)
    rw [if_pos rfl]
def spKids : Sp := fun vs H Q _ => ∃ (l : Addr) (us : List V) (rows : List Rw) (t : Tr), vs = [.ref l] ∧ RowsIn H l us rows ∧ RowsOf t rows ∧ rows.length ≤ 5000 ∧
  ∀ p ks H', Same H H' → H p = none → KidsAt H' p t rows.length ks → (∀ a ∈ ks, H a = none) → Q (.ref p) H'
theorem ok_kids (T : Txt K mg) : FnOk P w K mg base CX0 1 T.a_law_kids T.fd_law_kids ["rows"] spKids := by
  refine T.F_law_kids.ok sc_law_kids (fun vs H Q E h => ?_) (fun cdv A outer s H vs Q E hr h => ?_)
  · obtain ⟨l, us, rows, t, rfl, _⟩ := h
    rfl
  · obtain ⟨l, us, rows, t, rfl, hR, hO, hn, q⟩ := h
    refine ⟨_, (pss_cons (ps_setLc (i := 1) (own := [("row", 2)]) (g := gName 2) (by rfl) sc_law_kids.nd rfl rfl (sw_true rfl rfl rfl (by decide +kernel)) (pi_list (pv 0)) (blkOk_by (own := [("row", 2)]) (N := ["rows", "kids", "row", "last", "k", "level"]) (sc := defScope s_law_kids) (by decide +kernel)) (fun _ _ _ _ _ => pg_name (i := 2) sc_law_kids.nd rfl (Or.inl rfl)) (fun _ _ _ _ _ => pts_nil) (fun _ _ _ _ _ => (pe_lst pa_nil)))
      (pss_cons (ps_set (i := 3) sc_law_kids.nd rfl (.inl rfl) pe_dnewK)
      (pss_cons (ps_for PassesOwn.never rfl (pi_range1 (by rfl) T.m_range (pa_cons (pe_callB call_len_seq (by rfl) T.m_len PySem.boot_len (pa_cons (pv 0) pa_nil)) pa_nil)) (pg_name (i := 4) sc_law_kids.nd rfl (.inl rfl)) (pss_cons (ps_set (i := 5) sc_law_kids.nd rfl (.inl rfl) (pe_ix ix_tup (pe_ix ix_list (pv 0) (pv 4) (fun _ _ => rfl)) pe_int (fun _ _ => rfl)))
      (pss_cons (ps_if (pt_cmpR op_gt (pv 5) pe_int (nomark _)) (pss_one (ps_expr (pe_bm PySem.F.plainAttrs_list PySem.F.slot_list_append PySem.F.type_list_append mt_append (pe_ix ix_list (pv 1) (pe_dget (hu_of hr) (pv 3) (pe_op op_sub (pv 5) pe_int) (fun _ _ => rfl)) (fun _ _ => rfl)) (pa_cons (pv 4) pa_nil)))) pss_nil)
      (pss_one (ps_dput (hu_of hr) (pv 3) (pv 5) (pv 4) rfl)))))
      (pss_one (ps_ret (pv 1)))))), ?_⟩
    have lu := paired_len hR.row
    refine ⟨_, rfl, l, rfl, ⟨_, SqL.of hR.lst⟩, fun D nD => ?_⟩
    have s0 := same_upd (o := .lst []) nD
    refine lc_it (walk_list (K := K) (a := l) (xs := us)) (fun j H' => Same H H' ∧ ∃ ks : List Addr, H' D = some (.lst (ks.map V.ref)) ∧ ks.length = j ∧ ks.Nodup ∧ ∀ a ∈ ks, a ≠ D ∧ H a = none ∧ H' a = some (.lst []))
      ⟨s0, [], upd_same, rfl, .nil, fun a ha => absurd ha List.not_mem_nil⟩ (fun j H' _ ⟨sm, _⟩ => SqL.of (sm _ _ hR.lst)) ?_ ?_
    · rintro j v H1 H2 hj ⟨sm, ks, hD, lk, nd, hk⟩ ⟨rfl, hv⟩
      refine ⟨rfl, by show 0 ≤ sizeLine; decide, fun a na => ?_⟩
      have s1 := same_upd (o := .lst []) na
      have ha0 : H a = none := sm.free na
      have hDa : D ≠ a := ne_of_none hD na
      have nin : a ∉ ks := fun z => by
        have := (hk a z).2.2
        rw [na] at this
        cases this
      refine ⟨_, s1 _ _ hD, sz2 (by rw [List.length_map]; omega), same_mut (sm.trans s1) nD, ks ++ [a], by rw [upd_same, List.map_append]; rfl, by rw [List.length_append, lk]; rfl, ?_, fun b hb => ?_⟩
      · rw [List.nodup_append]
        exact ⟨nd, by simp, fun x hx y hy e => by rw [List.mem_singleton.mp hy] at e; rw [e] at hx; exact nin hx⟩
      · rcases List.mem_append.mp hb with h | h
        · obtain ⟨k1, k2, k3⟩ := hk b h
          exact ⟨k1, k2, by rw [upd_ne k1]; exact s1 _ _ k3⟩
        · rw [List.mem_singleton.mp h]
          exact ⟨hDa.symm, ha0, by rw [upd_ne hDa.symm, upd_same]⟩
    rintro H1 ⟨sm, ks, hD, lk, nd, hk⟩
    rw [lu] at lk
    intro dl ndl
    have s2 := same_upd (o := .dK []) ndl
    have hdD : dl ≠ D := (ne_of_none hD ndl).symm
    have ndl0 : H dl = none := sm.free ndl
    refine ⟨_, rfl, l, _, rfl, .inl (SqL.of ((sm.trans s2) _ _ hR.lst)), ?_⟩
    refine ⟨_, rfl, by omega, by omega, ?_⟩
    have nka : ∀ a ∈ ks, a ≠ dl := fun a ha => ne_of_none (hk a ha).2.2 ndl
    refine for_range (lo := 0) (n := (us.length : Int).toNat) (fun n σ H' => Same H H' ∧ (∃ y4 y5 : Option V, σ = [some (.ref l), some (.ref D), none, some (.ref dl), y4, y5]) ∧ KidsAt H' D t n ks ∧ ∃ kvs : List (Key × V), H' dl = some (.dK kvs) ∧ kvs.length ≤ n ∧ LastTo t n kvs)
      ⟨sm.trans s2, ⟨none, none, rfl⟩, ⟨s2 _ _ hD, by rw [lk, hO.len], nd, fun j a ha => ?_⟩, [], upd_same, Nat.le_refl _, fun m pi hm => absurd hm (Nat.not_lt_zero _)⟩ ?_ ?_
    · obtain ⟨k1, k2, k3⟩ := hk a (List.mem_of_getElem? ha)
      exact ⟨k1, [], s2 _ _ k3, Nat.le_refl _, fun pi hp => ⟨fun i m e => (by cases e), fun i m e => absurd e (Nat.not_lt_zero _)⟩⟩
    · rintro n σ H2 hi ⟨sm2, ⟨y4, y5, rfl⟩, KA, kvs, hdl, lkv, LT⟩
      have hin : n < rows.length := by omega
      obtain ⟨r, hr1⟩ : ∃ r, rows[n]? = some r := ⟨_, List.getElem?_eq_getElem hin⟩
      obtain ⟨pi, hpi⟩ : ∃ pi, t.paths[n]? = some pi := ⟨_, List.getElem?_eq_getElem (by rw [← hO.len]; exact hin)⟩
      have hlev := hO.lev n r pi hr1 hpi
      obtain ⟨v, hv, g, rfl, hg⟩ := paired_get hR.row hr1
      have hl2 := sm2 _ _ hR.lst
      have hg2 := sm2 _ _ hg
      have en : (0 : Int) + (n : Int) = (n : Int) := by omega
      refine ⟨_, rfl, _, rfl, l, _, _, _, rfl, rfl, SqL.of hl2, (by rw [en]; exact atI_nat hv), g, _, 0, .int r.1, rfl, rfl, SqT.of hg2, rfl, ?_⟩
      rw [hlev]
      have fin : ∀ H3, Same H H3 → H3 dl = some (.dK kvs) → KidsAt H3 D t (n + 1) ks → Same H (upd H3 dl (.dK (putK kvs (.inl (pi.length : Int)) (.int (0 + (n : Int)))))) ∧ KidsAt (upd H3 dl (.dK (putK kvs (.inl (pi.length : Int)) (.int (0 + (n : Int)))))) D t (n + 1) ks ∧ ∃ kvs2 : List (Key × V), (upd H3 dl (.dK (putK kvs (.inl (pi.length : Int)) (.int (0 + (n : Int)))))) dl = some (.dK kvs2) ∧ kvs2.length ≤ n + 1 ∧ LastTo t (n + 1) kvs2 := fun H3 s3 h3 k3 => by
        refine ⟨same_mut s3 ndl0, ⟨by rw [upd_ne hdD.symm]; exact k3.lst, k3.len, k3.nd, fun j a ha => ?_⟩, _, upd_same, ?_, ?_⟩
        · obtain ⟨k1, c, k2, k4⟩ := k3.kid j a ha
          exact ⟨k1, c, by rw [upd_ne (nka a (List.mem_of_getElem? ha))]; exact k2, k4⟩
        · have := length_putK kvs (.inl (pi.length : Int)) (V.int (0 + (n : Int)))
          omega
        · rw [en]
          exact LT.put hpi
      have put : ∀ H3, H3 dl = some (.dK kvs) → DPut H3 dl (.int (pi.length : Int)) (.int (0 + (n : Int))) (upd H3 dl (.dK (putK kvs (.inl (pi.length : Int)) (.int (0 + (n : Int)))))) := fun H3 h3 => DPut.k (k := .inl (pi.length : Int)) h3 (sz2 (by omega))
      refine ts_if (A := (0 : Int) < (pi.length : Int)) (ts_gtI rfl) (fun h1 => ?_) (fun h1 => ?_)
      · rcases List.eq_nil_or_concat pi with rfl | ⟨p', i, rfl⟩
        · exact absurd h1 (by decide)
        rw [List.concat_eq_append] at *
        obtain ⟨p, p1, p2, p3⟩ := paths_par hpi
        have hlast := LT p p' p1 p2 fun m' pi' a b e => by
          have := p3 m' pi' a b e
          omega
        have hpk : p < ks.length := by rw [KA.len]; exact (List.getElem?_eq_some_iff.mp p2).1
        obtain ⟨a, ha⟩ : ∃ a, ks[p]? = some a := ⟨_, List.getElem?_eq_getElem hpk⟩
        obtain ⟨aD, c, hc, lc, kt⟩ := KA.kid p a ha
        obtain ⟨ci, kt2⟩ := kt.next p2 hpi
        have ha0 := (hk a (List.mem_of_getElem? ha)).2.1
        have hl1 : valV kvs (.inl (((p' ++ [i]).length : Nat) - 1 : Int)) = some (.int (p : Int)) := by
          rw [List.length_append, List.length_singleton, show ((p'.length + 1 : Nat) : Int) - 1 = (p'.length : Int) by omega]
          exact hlast
        have lc2 : (natsZ c).length = c.length := by unfold natsZ; rw [List.length_map]
        have adl : dl ≠ a := (nka a (List.mem_of_getElem? ha)).symm
        have hKA := KA.lst
        have hka : (ks.map V.ref)[p]? = some (V.ref a) := by rw [List.getElem?_map, ha]; rfl
        have hdg : DGet H2 dl (.int (((p' ++ [i]).length : Nat) - 1 : Int)) (some (.int (p : Int))) := by
          rw [← hl1]
          exact DGet.k (k := .inl (((p' ++ [i]).length : Nat) - 1 : Int)) hdl
        refine ⟨_, rfl, _, rfl, _, rfl, _, _, rfl, rfl, dl, .int (p : Int), rfl, hdg, D, _, _, V.ref a, rfl, rfl, SqL.of hKA, atI_nat hka, .inl ⟨rfl, _, SqL.of hc⟩, _, rfl, a, _, _, rfl, rfl, hc, sz2 (by rw [List.length_map, lc2]; omega), ?_⟩
        have h3 : (upd H2 a (.lst ((natsZ c).map V.int ++ [.int (0 + (n : Int))]))) dl = some (.dK kvs) := by rw [upd_ne adl]; exact hdl
        refine ⟨_, rfl, _, rfl, _, rfl, dl, _, rfl, put _ h3, ?_⟩
        obtain ⟨f1, f2, f3⟩ := fin _ (same_mut sm2 ha0) h3 ⟨by rw [upd_ne aD.symm]; exact KA.lst, KA.len, KA.nd, fun j b hb => by
          obtain ⟨k1, cb, k2, k3, k4⟩ := KA.kid j b hb
          by_cases hj : j = p
          · subst hj
            obtain rfl : a = b := Option.some.inj (ha.symm.trans hb)
            refine ⟨k1, c ++ [n], ?_, by rw [List.length_append, List.length_singleton]; omega, kt2⟩
            rw [upd_same, en]
            unfold natsZ
            rw [List.map_append, List.map_append]
            rfl
          · have hba : b ≠ a := fun z => by
              rw [z] at hb
              obtain ⟨x1, x2⟩ := List.getElem?_eq_some_iff.mp hb
              obtain ⟨y1, y2⟩ := List.getElem?_eq_some_iff.mp ha
              exact hj ((List.getElem_inj KA.nd).mp (x2.trans y2.symm))
            refine ⟨k1, cb, by rw [upd_ne hba]; exact k2, by omega, k4.skip fun pj i2 hpj z => ?_⟩
            rw [hpi] at z
            have z := List.append_inj' (Option.some.inj z) rfl
            rw [← z.1] at hpj
            exact hj (paths_uniq hpj p2)⟩
        exact ⟨f1, ⟨_, _, rfl⟩, f2, f3⟩
      · have e0 : pi = [] := by
          cases pi with
          | nil => rfl
          | cons x pi => exact absurd (show (0 : Int) < ((x :: pi).length : Int) by rw [List.length_cons]; omega) h1
        refine ⟨_, rfl, _, rfl, _, rfl, dl, _, rfl, put H2 hdl, ?_⟩
        obtain ⟨f1, f2, f3⟩ := fin H2 sm2 hdl ⟨KA.lst, KA.len, KA.nd, fun j a ha => by
          obtain ⟨k1, c, k2, k3, k4⟩ := KA.kid j a ha
          exact ⟨k1, c, k2, by omega, k4.skip fun pj i hj z => by
            rw [hpi, e0] at z
            exact snoc_nil (Option.some.inj z).symm⟩⟩
        exact ⟨f1, ⟨_, _, rfl⟩, f2, f3⟩
    · rintro σ H2 ⟨sm2, ⟨y4, y5, rfl⟩, KA, kvs, hdl, lkv, LT⟩
      rw [show ((us.length : Nat) : Int).toNat = rows.length by omega] at KA
      exact ⟨_, rfl, q D ks H2 sm2 nD KA fun a ha => (hk a ha).2.1⟩

/-! ### parents -/
theorem KidsAt.same {H H' : Hp} {l : Addr} {t : Tr} {n : Nat} {ks : List Addr} (h : KidsAt H l t n ks) (s : Same H H') : KidsAt H' l t n ks := ⟨s _ _ h.lst, h.len, h.nd, fun j a ha => by
  obtain ⟨k1, c, k2, k3⟩ := h.kid j a ha
  exact ⟨k1, c, s _ _ k2, k3⟩⟩
def UpTo (H : Hp) (us : List V) (t : Tr) (k j : Nat) : Prop := ∀ (m p i : Nat) (pi : List Nat), t.paths[p]? = some pi → t.paths[m]? = some (pi ++ [i]) → (p < k ∨ p = k ∧ i < j) → ∃ g, us[m]? = some (.ref g) ∧ H g = some (.tup [.int (p : Int), .int (i : Int)])
def spUps : Sp := fun vs H Q _ => ∃ (l : Addr) (us : List V) (rows : List Rw) (t : Tr), vs = [.ref l] ∧ RowsIn H l us rows ∧ RowsOf t rows ∧ rows.length ≤ 5000 ∧ ∀ p H', Same H H' → H p = none → UpsAt H' p t → Q (.ref p) H'
theorem ok_ups (T : Txt K mg) : FnOk P w K mg base CX0 2 T.a_law_ups T.fd_law_ups ["rows"] spUps := by
  have G_law_kids : FnOk P w K mg base CX0 1 T.a_law_kids T.fd_law_kids ["rows"] spKids := ok_kids T
  refine T.F_law_ups.ok sc_law_ups (fun vs H Q E h => ?_) (fun cdv A outer s H vs Q E hr h => ?_)
  · obtain ⟨l, us, rows, t, rfl, _⟩ := h
    rfl
  · have hr_law_kids : Room 1 _ := hr
    obtain ⟨l, us, rows, t, rfl, hR, hO, hn, q⟩ := h
    refine ⟨_, (pss_cons (ps_set (i := 1) sc_law_ups.nd rfl (.inl rfl) (pe_op op_rep (pe_lst (pa_cons (pe_tup (pa_cons (pe_un un_neg pe_int) (pa_cons pe_int pa_nil))) pa_nil)) (pe_callB call_len_seq (by rfl) T.m_len PySem.boot_len (pa_cons (pv 0) pa_nil))))
      (pss_cons (ps_set (i := 2) sc_law_ups.nd rfl (.inl rfl) (pe_call G_law_kids hr_law_kids (by rfl) T.g_law_kids T.F_law_kids.kp T.b_law_kids .nil pass0 (pa_cons (pv 0) pa_nil)))
      (pss_cons (ps_for PassesOwn.never rfl (pi_range1 (by rfl) T.m_range (pa_cons (pe_callB call_len_seq (by rfl) T.m_len PySem.boot_len (pa_cons (pv 0) pa_nil)) pa_nil)) (pg_name (i := 3) sc_law_ups.nd rfl (.inl rfl)) (pss_one (ps_for PassesOwn.never rfl (pi_range1 (by rfl) T.m_range (pa_cons (pe_callB call_len_seq (by rfl) T.m_len PySem.boot_len (pa_cons (pe_ix ix_list (pv 2) (pv 3) (fun _ _ => rfl)) pa_nil)) pa_nil)) (pg_name (i := 4) sc_law_ups.nd rfl (.inl rfl)) (pss_one (ps_asg (pe_tup (pa_cons (pv 3) (pa_cons (pv 4) pa_nil))) (pg_sub (pv 1) (pe_ix ix_list (pe_ix ix_list (pv 2) (pv 3) (fun _ _ => rfl)) (pv 4) (fun _ _ => rfl)) set_list))))))
      (pss_one (ps_ret (pv 1)))))), ?_⟩
    have lu := paired_len hR.row
    refine ⟨1, rfl, by show 2 ≤ sizeLine; decide, fun g0 ng0 => ⟨by show 1 ≤ sizeLine; decide, fun p1 np1 => ?_⟩⟩
    have s1 := (same_upd (o := .tup [.int (-1), .int 0]) ng0).trans (same_upd (o := .lst [.ref g0]) np1)
    refine ⟨_, rfl, l, us, rfl, .inl (SqL.of (s1 _ _ hR.lst)), ?_⟩
    rw [lu]
    have en : (List.replicate ((rows.length : Nat) : Int).toNat [V.ref g0]).flatten = List.replicate rows.length (V.ref g0) := by
      rw [show ((rows.length : Nat) : Int).toNat = rows.length by omega]
      induction rows.length with
      | zero => rfl
      | succ m ih => rw [List.replicate_succ, List.replicate_succ, List.flatten_cons, ih]; rfl
    refine ⟨p1, _, _, rfl, rfl, upd_same, by omega, by omega, by show 1 * _ ≤ _; exact Nat.le_trans (show 1 * ((rows.length : Nat) : Int).toNat ≤ 5000 by omega) (by decide), fun U nU => ?_⟩
    rw [en]
    have s2 := s1.trans (same_upd (o := .lst (List.replicate rows.length (V.ref g0))) nU)
    have nU0 : H U = none := s1.free nU
    refine ⟨_, rfl, l, us, rows, t, rfl, hR.same s2, hO, hn, fun kp ks H1 sk nkp KA fk => ?_⟩
    have sm := s2.trans sk
    have hU1 : H1 U = some (.lst (List.replicate rows.length (V.ref g0))) := sk _ _ upd_same
    have hkU : kp ≠ U := fun z => by
      rw [z] at nkp
      rw [upd_same] at nkp
      cases nkp
    refine ⟨_, rfl, l, _, rfl, .inl (SqL.of (sm _ _ hR.lst)), ?_⟩
    refine ⟨_, rfl, by omega, by omega, ?_⟩
    have kid_ne : ∀ a ∈ ks, a ≠ U := fun a ha z => by
      have := fk a ha
      rw [z, upd_same] at this
      cases this
    have lk := KA.len
    refine for_range (lo := 0) (n := ((us.length : Nat) : Int).toNat) (fun k σ H' => Same H H' ∧ (∃ y3 y4 : Option V, σ = [some (.ref l), some (.ref U), some (.ref kp), y3, y4]) ∧ KidsAt H' kp t rows.length ks ∧ ∃ us2, H' U = some (.lst us2) ∧ us2.length = rows.length ∧ UpTo H' us2 t k 0)
      ⟨sm, ⟨none, none, rfl⟩, KA, _, hU1, List.length_replicate, fun m p i pi _ _ h => by omega⟩ ?_ ?_
    · rintro k σ H2 hi ⟨sm2, ⟨y3, y4, rfl⟩, KA2, us2, hU2, lu2, up2⟩
      have hin : k < rows.length := by omega
      have en0 : (0 : Int) + (k : Int) = (k : Int) := by omega
      obtain ⟨a, ha⟩ : ∃ a, ks[k]? = some a := ⟨_, List.getElem?_eq_getElem (by rw [lk, ← hO.len]; exact hin)⟩
      obtain ⟨pk, hpk⟩ : ∃ pi, t.paths[k]? = some pi := ⟨_, List.getElem?_eq_getElem (by rw [← hO.len]; exact hin)⟩
      obtain ⟨ak, c, hc, lc, kt⟩ := KA2.kid k a ha
      obtain ⟨kA, kB⟩ := kt pk hpk
      have hka : (ks.map V.ref)[k]? = some (V.ref a) := by rw [List.getElem?_map, ha]; rfl
      have lcz : ((natsZ c).map V.int).length = c.length := by unfold natsZ; rw [List.length_map, List.length_map]
      have atk : ∀ {H' : Hp}, KidsAt H' kp t rows.length ks → SqL K H' kp (ks.map V.ref) ∧ atI (ks.map V.ref) (0 + (k : Int)) = some (V.ref a) := fun h => ⟨SqL.of h.lst, by rw [en0]; exact atI_nat hka⟩
      refine ⟨_, rfl, _, rfl, kp, _, _, V.ref a, rfl, rfl, (atk KA2).1, (atk KA2).2, a, _, rfl, .inl (SqL.of hc), ?_⟩
      rw [lcz]
      refine ⟨_, rfl, by omega, by omega, ?_⟩
      refine for_range (lo := 0) (n := ((c.length : Nat) : Int).toNat) (fun j σ H' => Same H H' ∧ (∃ y4 : Option V, σ = [some (.ref l), some (.ref U), some (.ref kp), some (.int (0 + (k : Int))), y4]) ∧ KidsAt H' kp t rows.length ks ∧ H' a = some (.lst ((natsZ c).map V.int)) ∧ ∃ us2, H' U = some (.lst us2) ∧ us2.length = rows.length ∧ UpTo H' us2 t k j)
        ⟨sm2, ⟨_, rfl⟩, KA2, hc, us2, hU2, lu2, up2⟩ ?_ ?_
      · rintro j σ H3 hj ⟨sm3, ⟨y4, rfl⟩, KA3, hc3, us3, hU3, lu3, up3⟩
        have hjc : j < c.length := by omega
        obtain ⟨m0, hm0⟩ : ∃ m, c[j]? = some m := ⟨_, List.getElem?_eq_getElem hjc⟩
        obtain ⟨hm1, hm2⟩ := kA j m0 hm0
        have ej : (0 : Int) + (j : Int) = (j : Int) := by omega
        have hcm : ((natsZ c).map V.int)[j]? = some (V.int (m0 : Int)) := by
          unfold natsZ
          rw [List.getElem?_map, List.getElem?_map, hm0]
          rfl
        refine ⟨_, rfl, _, rfl, by show 2 ≤ sizeLine; decide, fun g ng => ?_⟩
        have s4 := same_upd (o := .tup [.int (0 + (k : Int)), .int (0 + (j : Int))]) ng
        have hU4 := s4 _ _ hU3
        have KA4 := KA3.same s4
        have ixU : ixN us3.length (m0 : Int) = some m0 := by
          unfold ixN
          rw [if_pos (by omega), if_pos (by omega)]
          rfl
        refine ⟨_, rfl, _, rfl, _, rfl, kp, _, _, V.ref a, rfl, rfl, (atk KA4).1, (atk KA4).2, _, rfl, a, _, _, V.int (m0 : Int), rfl, rfl, SqL.of (s4 _ _ hc3), (by rw [ej]; exact atI_nat hcm), U, us3, _, m0, rfl, rfl, hU4, ixU, ?_⟩
        have hgU : g ≠ U := fun z => by
          rw [z, hU3] at ng
          cases ng
        have hka2 := kid_ne
        have hkpU := hkU
        refine ⟨same_mut (sm3.trans s4) nU0, ⟨_, rfl⟩, ⟨by rw [upd_ne hkpU]; exact KA4.lst, KA4.len, KA4.nd, fun x b hb => ?_⟩, by rw [upd_ne (kid_ne a (List.mem_of_getElem? ha))]; exact s4 _ _ hc3, us3.set m0 (.ref g), upd_same, by rw [List.length_set, lu3], ?_⟩
        · obtain ⟨k1, c2, k2, k3⟩ := KA4.kid x b hb
          exact ⟨k1, c2, by rw [upd_ne (kid_ne b (List.mem_of_getElem? hb))]; exact k2, k3⟩
        · intro m p i pi hp hm h
          by_cases hmm : m = m0
          · subst hmm
            rw [hm2] at hm
            have e := List.append_inj' (Option.some.inj hm) rfl
            rw [← e.1] at hp
            obtain rfl := paths_uniq hp hpk
            obtain rfl : j = i := by injection e.2
            refine ⟨g, ?_, ?_⟩
            · rw [List.getElem?_set_self (by omega)]
            · rw [upd_ne hgU, upd_same, en0, ej]
          · have h' : p < k ∨ p = k ∧ i < j := by
              rcases h with h | ⟨rfl, h⟩
              · exact .inl h
              · refine .inr ⟨rfl, ?_⟩
                rcases Nat.lt_succ_iff_lt_or_eq.mp h with h | rfl
                · exact h
                · exfalso
                  obtain rfl : pk = pi := Option.some.inj (hpk.symm.trans hp)
                  exact hmm (paths_uniq hm hm2)
            obtain ⟨g1, e1, e2⟩ := up3 m p i pi hp hm h'
            refine ⟨g1, by rw [List.getElem?_set_ne (fun z => hmm z.symm)]; exact e1, ?_⟩
            rw [upd_ne (fun z => by rw [z, hU3] at e2; cases e2)]
            exact s4 _ _ e2
      · rintro σ H3 ⟨sm3, ⟨y4, rfl⟩, KA3, hc3, us3, hU3, lu3, up3⟩
        refine ⟨sm3, ⟨_, _, rfl⟩, KA3, us3, hU3, lu3, fun m p i pi hp hm h => up3 m p i pi hp hm ?_⟩
        rcases h with h | ⟨_, h⟩
        · rcases Nat.lt_succ_iff_lt_or_eq.mp h with h | rfl
          · exact .inl h
          · refine .inr ⟨rfl, ?_⟩
            obtain rfl : pk = pi := Option.some.inj (hpk.symm.trans hp)
            have hml : m < rows.length := by rw [hO.len]; exact (List.getElem?_eq_some_iff.mp hm).1
            have := (List.getElem?_eq_some_iff.mp (kB i m hml hm)).1
            omega
        · omega
    · rintro σ H2 ⟨sm2, ⟨y3, y4, rfl⟩, KA2, us2, hU2, lu2, up2⟩
      refine ⟨_, rfl, q U H2 sm2 nU0 ⟨⟨us2, hU2, by rw [lu2, hO.len], fun m p i pi hp hm => up2 m p i pi hp hm (.inl ?_)⟩⟩⟩
      have := (List.getElem?_eq_some_iff.mp hp).1
      have := hO.len
      omega

/-! ### what is told, looked at -/
def spIsPath (K : PySem.W.Frag) : Sp := fun vs H Q _ => ∃ (a b : Addr) (xs : List Int), vs = [.ref a, .ref b] ∧ H a = some (.tup (xs.map V.int)) ∧ SqT K H b (xs.map V.int) ∧ xs.length ≤ 5000 ∧ Q (.bl true) H
theorem ok_is_path (T : Txt K mg) : FnOk P w K mg base CX0 1 T.a_law_is_path T.fd_law_is_path ["told", "due"] (spIsPath K) := by
  refine T.F_law_is_path.ok sc_law_is_path (fun vs H Q E h => ?_) (fun cdv A outer s H vs Q E hr h => ?_)
  · obtain ⟨a, b, xs, rfl, _⟩ := h
    rfl
  · obtain ⟨a, b, xs, rfl, ha, hb, hx, q⟩ := h
    refine ⟨_, (pss_cons (ps_if (PW.pt (pw_or (pt_not (pt_val (pe_callB call_isi (by rfl) T.m_isinstance (by decide +kernel) (pa_cons (pv 0) (pa_cons (pe_bltn (v := .ty "tuple") (by rfl) T.m_tuple (by decide +kernel) rfl) pa_nil))))) (pw_or1 (pt_cmpR (OwnOp.op_neTS hr.units) (pv 0) (pv 1) (nomark _))))) (pss_one (ps_ret pe_bl)) pss_nil)
      (pss_cons (ps_for PassesOwn.never rfl (pi_tup (pv 0)) (pg_name (i := 2) sc_law_is_path.nd rfl (.inl rfl)) (pss_one (ps_if (PW.pt (pw_or (pt_not (pt_val (pe_callB call_isi (by rfl) T.m_isinstance (by decide +kernel) (pa_cons (pv 2) (pa_cons (pe_bltn (v := .ty "int") (by rfl) T.m_int (by decide +kernel) rfl) pa_nil))))) (pw_or1 (pt_val (pe_callB call_isi (by rfl) T.m_isinstance (by decide +kernel) (pa_cons (pv 2) (pa_cons (pe_bltn (v := .ty "bool") (by rfl) T.m_bool (by decide +kernel) rfl) pa_nil))))))) (pss_one (ps_ret pe_bl)) pss_nil)))
      (pss_one (ps_ret pe_bl)))), ?_⟩
    have hi : ∀ v ∈ xs.map V.int, OwnOp.itemB v := fun v hv => by
      obtain ⟨i, _, rfl⟩ := List.mem_map.mp hv
      exact .inl rfl
    refine ts_if (A := False) (Ts.imp (A := False ∨ False) (Ts.or (A := False) (B := False) (fun Q q => ⟨_, rfl, _, _, _, _, true, rfl, .ty _, .base (.tup ha), kit_ty (by decide +kernel), true, rfl, q _ (by simp)⟩) fun _ Q q => ⟨_, rfl, _, rfl, a, b, _, rfl, rfl, SqT.of ha, hb, hi, _, rfl, q _ (by simp)⟩) (by simp)) (fun h => h.elim) (fun _ => ?_)
    refine ⟨_, rfl, a, rfl, ⟨_, SqT.of ha⟩, ?_⟩
    refine for_tup (K := K) (a := a) (xs := xs.map V.int) (fun i σ H' => H' = H ∧ ∃ y2, σ = [some (.ref a), some (.ref b), y2]) ⟨rfl, none, rfl⟩ (fun i σ H' _ ⟨e, _⟩ => by rw [e]; exact SqT.of ha) ?_ ?_
    · rintro i x σ H1 hx ⟨rfl, y2, rfl⟩
      rw [List.getElem?_map] at hx
      obtain ⟨z, hz, rfl⟩ : ∃ z, xs[i]? = some z ∧ x = V.int z := by
        cases hz : xs[i]? with
        | none =>
          rw [hz] at hx
          cases hx
        | some z =>
          rw [hz] at hx
          exact ⟨z, rfl, (Option.some.inj hx).symm⟩
      refine ⟨_, rfl, _, _, _, _, true, rfl, .ty _, .base (.int _), kit_ty (by decide +kernel), true, rfl, iteF ?_⟩
      exact ⟨_, rfl, _, _, _, _, false, rfl, .ty _, .base (.int _), kit_ty (by decide +kernel), false, rfl, iteF ⟨rfl, _, rfl⟩⟩
    · rintro σ H1 ⟨rfl, y2, rfl⟩
      exact q

/-! ### refused paths and places -/
theorem kit_self {K : PySem.W.Frag} {c : Value} : PySem.W.kitOne K c c = some true := by
  unfold PySem.W.kitOne
  rw [if_pos (by simp)]
/-- a place that no leaf contains -/
def NoLeafAt (t : Tr) (o : Int) : Prop := (o < 0 ∨ t.d.wid ≤ o) ∧ (t.d.kind = "root" → o ≠ t.d.wid)
def spNoLeaf (K : PySem.W.Frag) (C : Addr) : Sp := fun vs H Q _ => ∃ (t : Tr) (o : Int), vs = [.ref t.at, .int o] ∧ NodeAt K C H t ∧ t.ats.length ≤ 5000 ∧ NoLeafAt t o ∧ ∀ H', Same H H' → Q (.bl true) H'
theorem ok_no_leaf_by_base (T : Txt K mg) : FnOk P w K mg base CX0 7 T.a_law_no_leaf_by_base T.fd_law_no_leaf_by_base ["node", "place"] (spNoLeaf K T.C_Node) := by
  have G_path_to : FnOk P w K mg base (L2N.CX P w) 6 T.a_path_to T.fd_path_to ["node", "place"] (spTo K T.C_Node T.C_NoNode) := ok_path_to T
  refine T.F_law_no_leaf_by_base.ok sc_law_no_leaf_by_base (fun vs H Q E h => ?_) (fun cdv A outer s H vs Q E hr h => ?_)
  · obtain ⟨t, o, rfl, _⟩ := h
    rfl
  · have hr_path_to : Room 6 _ := hr
    obtain ⟨t, o, rfl, hn, ht, hb, q⟩ := h
    refine ⟨_, (pss_cons (L2N.ps_try_as (i := 2) (Wout := fun _ _ _ _ => False) rfl rfl sc_law_no_leaf_by_base.nd rfl rfl ⟨rfl, by decide, .inl T.G_MendedError⟩ OwnHot.takes0N (fun W pn xe tk _ => (pss_one (ps_expr (pe_callS G_path_to hr_path_to rfl T.g_path_to T.F_path_to.kp T.b_path_to (fun σ => L2N.passAt tk σ) (pa_cons (pv 0) (pa_cons (pv 1) pa_nil)))))) (fun a oe cls d pn hn hf => (pss_one (ps_ret (pe_and (pe_callB (call_isX hn.zc hf) (by rfl) T.m_isinstance (by decide +kernel) (pa_cons (pv 2) (pa_cons (pe_glob (v := .ref T.C_NoNode) (by rfl) T.G_NoNode rfl) pa_nil))) (pe_one (pe_callB (call_isX hn.zc hf) (by rfl) T.m_isinstance (by decide +kernel) (pa_cons (pv 2) (pa_cons (pe_bltn (v := .ty "ValueError") (by rfl) T.m_ValueError (by decide +kernel) rfl) pa_nil)))))))))
      (pss_one (ps_ret pe_bl))), ?_⟩
    refine ⟨_, rfl, _, rfl, t, o, rfl, hn, ht, .inr (.inr ⟨hb.1, hb.2, fun d pa H1 sm nd hp hd => ?_⟩)⟩
    refine ⟨true, T.x_NoNode_MendedError, fun _ a ha => ?_, fun z => Bool.noConfusion z⟩
    refine ⟨_, rfl, _, d, rfl, rfl, T.E_NoNode.exc, _, _, true, _, rfl, .own _, hd, kit_self, true, rfl, iteT ?_⟩
    refine ⟨_, rfl, _, d, rfl, rfl, T.E_NoNode.exc, _, _, true, _, rfl, .ty _, hd, T.k_NoNode_ValueError, ?_⟩
    exact q _ sm

def spFound (K : PySem.W.Frag) (C : Addr) : Sp := fun vs H Q _ => ∃ (a b : Addr) (q : Int) (s : Tr), vs = [.ref a, .ref b] ∧ H a = some (.tup [.int q, .ref s.at]) ∧ H b = some (.tup [.int q, .ref s.at]) ∧ NodeAt K C H s ∧ Q (.bl true) H
theorem ok_found (T : Txt K mg) : FnOk P w K mg base CX0 1 T.a_law_found T.fd_law_found ["told", "due"] (spFound K T.C_Node) := by
  refine T.F_law_found.ok sc_law_found (fun vs H Q E h => ?_) (fun cdv A outer s H vs Q E hr h => ?_)
  · obtain ⟨a, b, q, s, rfl, _⟩ := h
    rfl
  · obtain ⟨a, b, q, s, rfl, ha, hb, hn, qq⟩ := h
    refine ⟨_, (pss_cons (ps_if (PW.pt (pw_or (pt_not (pt_val (pe_callB call_isi (by rfl) T.m_isinstance (by decide +kernel) (pa_cons (pv 0) (pa_cons (pe_bltn (v := .ty "tuple") (by rfl) T.m_tuple (by decide +kernel) rfl) pa_nil))))) (pw_or (pt_cmpR op_ne (pe_callB call_len_seq (by rfl) T.m_len PySem.boot_len (pa_cons (pv 0) pa_nil)) pe_int (nomark _)) (pw_or1 (pt_not (pt_val (pe_callB (C8.call_isC T.IC_Node) (by rfl) T.m_isinstance (by decide +kernel) (pa_cons (pe_ix ix_tup (pv 0) pe_int (fun _ _ => rfl)) (pa_cons (pe_glob (v := .ref T.C_Node) (by rfl) T.G_Node rfl) pa_nil))))))))) (pss_one (ps_ret pe_bl)) pss_nil)
      (pss_one (ps_ret (pe_and (pe_callB call_isi (by rfl) T.m_isinstance (by decide +kernel) (pa_cons (pe_ix ix_tup (pv 0) pe_int (fun _ _ => rfl)) (pa_cons (pe_bltn (v := .ty "int") (by rfl) T.m_int (by decide +kernel) rfl) pa_nil))) (pe_and (pe_not (pe_callB call_isi (by rfl) T.m_isinstance (by decide +kernel) (pa_cons (pe_ix ix_tup (pv 0) pe_int (fun _ _ => rfl)) (pa_cons (pe_bltn (v := .ty "bool") (by rfl) T.m_bool (by decide +kernel) rfl) pa_nil)))) (pe_one (pe_cmpR (OwnOp.op_eqTS hr.units) (pv 0) (pv 1) (nomark _)))))))), ?_⟩
    obtain ⟨dx, tp, hs, _⟩ := hn.it
    have hi : ∀ v ∈ [V.int q, V.ref s.at], OwnOp.itemB v := fun v hv => by
      rcases List.mem_cons.mp hv with rfl | hv
      · exact .inl rfl
      · rw [List.mem_singleton.mp hv]
        exact .inr ⟨_, rfl⟩
    refine ts_if (A := False) (Ts.imp (A := False ∨ False ∨ False) (Ts.or (A := False) (B := False ∨ False) (fun Q q => ⟨_, rfl, _, _, _, _, true, rfl, .ty _, .base (.tup ha), kit_ty (by decide +kernel), true, rfl, q _ (by simp)⟩) fun _ => Ts.or (A := False) (B := False) (fun Q q => ⟨_, rfl, a, _, rfl, .inr (SqT.of ha), rfl, _, rfl, q _ (by simp)⟩) fun _ Q q => ⟨_, rfl, a, _, 1, _, rfl, rfl, SqT.of ha, rfl, ?_⟩) (by simp)) (fun h => h.elim) (fun _ => ?_)
    · exact ⟨s.at, dx, _, rfl, hs, true, rfl, q _ (by simp)⟩
    · refine ⟨_, rfl, a, _, 0, .int q, rfl, rfl, SqT.of ha, rfl, _, _, _, _, true, rfl, .ty _, .base (.int _), kit_ty (by decide +kernel), true, rfl, iteT ?_⟩
      refine ⟨_, rfl, a, _, 0, .int q, rfl, rfl, SqT.of ha, rfl, _, _, _, _, false, rfl, .ty _, .base (.int _), kit_ty (by decide +kernel), false, rfl, true, rfl, iteT ?_⟩
      exact ⟨_, rfl, _, rfl, a, b, _, rfl, rfl, SqT.of ha, SqT.of hb, hi, qq⟩

/-! ### what is told, looked at where an error is handled; no such path, no such leaf -/
theorem ok_is_pathH (T : Txt K mg) : L2H.FnH P w K mg base CX0 1 T.a_law_is_path T.fd_law_is_path ["told", "due"] (spIsPath K) := by
  refine OwnHot.okH T.F_law_is_path sc_law_is_path (fun vs H Q E h => ?_) (fun cdv A outer s H vs Q E p hot hr h => ?_)
  · obtain ⟨a, b, xs, rfl, _⟩ := h
    rfl
  · obtain ⟨a, b, xs, rfl, ha, hb, hx, q⟩ := h
    refine ⟨_, (pss_cons (ps_if (PW.pt (pw_or (pt_not (pt_val (pe_callB call_isi (by rfl) T.m_isinstance (by decide +kernel) (pa_cons (pv 0) (pa_cons (pe_bltn (v := .ty "tuple") (by rfl) T.m_tuple (by decide +kernel) rfl) pa_nil))))) (pw_or1 (pt_cmpR (OwnOp.op_neTS (OwnHot.unitsH hr)) (pv 0) (pv 1) (nomark _))))) (pss_one (ps_ret pe_bl)) pss_nil)
      (pss_cons (L2H.ps_forH (passes_of rfl) ⟨p, hot, List.mem_singleton.mpr rfl⟩ (OwnHot.pi_tupH (pv 0)) (pg_name (i := 2) sc_law_is_path.nd rfl (.inl rfl)) (pss_one (ps_if (PW.pt (pw_or (pt_not (pt_val (pe_callB call_isi (by rfl) T.m_isinstance (by decide +kernel) (pa_cons (pv 2) (pa_cons (pe_bltn (v := .ty "int") (by rfl) T.m_int (by decide +kernel) rfl) pa_nil))))) (pw_or1 (pt_val (pe_callB call_isi (by rfl) T.m_isinstance (by decide +kernel) (pa_cons (pv 2) (pa_cons (pe_bltn (v := .ty "bool") (by rfl) T.m_bool (by decide +kernel) rfl) pa_nil))))))) (pss_one (ps_ret pe_bl)) pss_nil)))
      (pss_one (ps_ret pe_bl)))), ?_⟩
    have hi : ∀ v ∈ xs.map V.int, OwnOp.itemB v := fun v hv => by
      obtain ⟨i, _, rfl⟩ := List.mem_map.mp hv
      exact .inl rfl
    refine ts_if (A := False) (Ts.imp (A := False ∨ False) (Ts.or (A := False) (B := False) (fun Q q => ⟨_, rfl, _, _, _, _, true, rfl, .ty _, .base (.tup ha), kit_ty (by decide +kernel), true, rfl, q _ (by simp)⟩) fun _ Q q => ⟨_, rfl, _, rfl, a, b, _, rfl, rfl, SqT.of ha, hb, hi, _, rfl, q _ (by simp)⟩) (by simp)) (fun h => h.elim) (fun _ => ?_)
    refine ⟨_, rfl, a, rfl, ⟨_, SqT.of ha⟩, ?_⟩
    refine for_tup (K := K) (a := a) (xs := xs.map V.int) (fun i σ H' => H' = H ∧ ∃ y2, σ = [some (.ref a), some (.ref b), y2]) ⟨rfl, none, rfl⟩ (fun i σ H' _ ⟨e, _⟩ => by rw [e]; exact SqT.of ha) ?_ ?_
    · rintro i x σ H1 hx ⟨rfl, y2, rfl⟩
      rw [List.getElem?_map] at hx
      obtain ⟨z, hz, rfl⟩ : ∃ z, xs[i]? = some z ∧ x = V.int z := by
        cases hz : xs[i]? with
        | none =>
          rw [hz] at hx
          cases hx
        | some z =>
          rw [hz] at hx
          exact ⟨z, rfl, (Option.some.inj hx).symm⟩
      refine ⟨_, rfl, _, _, _, _, true, rfl, .ty _, .base (.int _), kit_ty (by decide +kernel), true, rfl, iteF ?_⟩
      exact ⟨_, rfl, _, _, _, _, false, rfl, .ty _, .base (.int _), kit_ty (by decide +kernel), false, rfl, iteF ⟨rfl, _, rfl⟩⟩
    · rintro σ H1 ⟨rfl, y2, rfl⟩
      exact q
def othA (T : Txt K mg) : List V := [.ref T.C_BadMark, .ref T.C_EditError, .ref T.C_Entangled, .ref T.C_GrammarError, .ref T.C_HistoryError, .ref T.C_NoLayer, .ref T.C_NoMark]
def othB (T : Txt K mg) : List V := [.ref T.C_NoWitness, .ref T.C_PatternError, .ref T.C_QueryError, .ref T.C_TableError, .ref T.C_TreeError, .ref T.C_UnknownLanguage]
theorem kit_a (T : Txt K mg) : PySem.W.kitAny K (.ref T.C_NoNode) [.ref T.C_BadMark, .ref T.C_EditError, .ref T.C_Entangled, .ref T.C_GrammarError, .ref T.C_HistoryError, .ref T.C_NoLayer, .ref T.C_NoMark] = some false :=
  kitAny_cons T.k_NoNode_BadMark (fun _ => kitAny_cons T.k_NoNode_EditError (fun _ => kitAny_cons T.k_NoNode_Entangled (fun _ => kitAny_cons T.k_NoNode_GrammarError (fun _ => kitAny_cons T.k_NoNode_HistoryError (fun _ => kitAny_cons T.k_NoNode_NoLayer (fun _ => kitAny_cons T.k_NoNode_NoMark (fun _ => kitAny_nil) (fun z => Bool.noConfusion z)) (fun z => Bool.noConfusion z)) (fun z => Bool.noConfusion z)) (fun z => Bool.noConfusion z)) (fun z => Bool.noConfusion z)) (fun z => Bool.noConfusion z)) (fun z => Bool.noConfusion z)
theorem kit_b (T : Txt K mg) : PySem.W.kitAny K (.ref T.C_NoNode) [.ref T.C_NoWitness, .ref T.C_PatternError, .ref T.C_QueryError, .ref T.C_TableError, .ref T.C_TreeError, .ref T.C_UnknownLanguage] = some false :=
  kitAny_cons T.k_NoNode_NoWitness (fun _ => kitAny_cons T.k_NoNode_PatternError (fun _ => kitAny_cons T.k_NoNode_QueryError (fun _ => kitAny_cons T.k_NoNode_TableError (fun _ => kitAny_cons T.k_NoNode_TreeError (fun _ => kitAny_cons T.k_NoNode_UnknownLanguage (fun _ => kitAny_nil) (fun z => Bool.noConfusion z)) (fun z => Bool.noConfusion z)) (fun z => Bool.noConfusion z)) (fun z => Bool.noConfusion z)) (fun z => Bool.noConfusion z)) (fun z => Bool.noConfusion z)
def spNoPath (K : PySem.W.Frag) (C : Addr) : Sp := fun vs H Q _ => ∃ (t : Tr) (pa : Addr) (pl : Int) (xs : List Int) (l : List Nat) (q : Int) (s : Tr) (x : Int) (more : List Int), vs = [.ref t.at, .ref pa, .int pl] ∧ NodeAt K C H t ∧ t.ats.length ≤ 5000 ∧ H pa = some (.tup (xs.map V.int)) ∧ xs.length ≤ 5000 ∧ (∀ i ∈ xs, i.natAbs ≤ 1000000) ∧
  follow t pl l = some (q, s) ∧ xs = natsZ l ++ x :: more ∧ (x < 0 ∨ (s.ks.length : Int) ≤ x) ∧ ∀ H', Same H H' → Q (.bl true) H'
theorem ok_no_path (T : Txt K mg) : FnOk P w K mg base CX0 8 T.a_law_no_path T.fd_law_no_path ["node", "path", "place"] (spNoPath K T.C_Node) := by
  have G_at_path : FnOk P w K mg base (L2N.CX P w) 6 T.a_at_path T.fd_at_path ["node", "path", "place"] (spAt K T.C_Node T.C_NoNode) := ok_at_path T
  have GH_law_is_path : L2H.FnH P w K mg base CX0 1 T.a_law_is_path T.fd_law_is_path ["told", "due"] (spIsPath K) := ok_is_pathH T
  refine T.F_law_no_path.ok sc_law_no_path (fun vs H Q E h => ?_) (fun cdv A outer s H vs Q E hr h => ?_)
  · obtain ⟨t, pa, pl, xs, l, q, s, x, more, rfl, _⟩ := h
    rfl
  · have hr_at_path : Room 6 _ := hr.mono (by decide)
    have hr_law_is_path : Room 1 _ := hr.mono (by decide)
    obtain ⟨t, pa, pl, xs, l, q, s, x, more, rfl, hn, ht, hp, hx, hxs, hf, ex, hb, qq⟩ := h
    refine ⟨_, (pss_cons (L2N.ps_try_as (i := 3) (Wout := fun _ _ _ _ => False) rfl rfl sc_law_no_path.nd rfl rfl ⟨rfl, by decide, .inl T.G_NoNode⟩ OwnHot.takes0N (fun W pn xe tk _ => (pss_one (ps_expr (pe_callSD G_at_path hr_at_path rfl T.g_at_path T.FD_at_path.kp (bd_at_path3 T).choose_spec.2 (bd_at_path3 T).choose_spec.1 (fun σ => L2N.passAt tk σ) (pa_cons (pv 0) (pa_cons (pv 1) (pa_cons (pv 2) pa_nil))))))) (fun a oe cls d pn hn hf => (pss_cons (ps_if (pt_val (pe_callB (call_isXT hn.zc hf) (by rfl) T.m_isinstance (by decide +kernel) (pa_cons (pv 3) (pa_cons (pe_tup (pa_cons (pe_glob (v := .ref T.C_BadMark) (by rfl) T.G_BadMark rfl) (pa_cons (pe_glob (v := .ref T.C_EditError) (by rfl) T.G_EditError rfl) (pa_cons (pe_glob (v := .ref T.C_Entangled) (by rfl) T.G_Entangled rfl) (pa_cons (pe_glob (v := .ref T.C_GrammarError) (by rfl) T.G_GrammarError rfl) (pa_cons (pe_glob (v := .ref T.C_HistoryError) (by rfl) T.G_HistoryError rfl) (pa_cons (pe_glob (v := .ref T.C_NoLayer) (by rfl) T.G_NoLayer rfl) (pa_cons (pe_glob (v := .ref T.C_NoMark) (by rfl) T.G_NoMark rfl) pa_nil)))))))) pa_nil)))) (pss_one (ps_ret pe_bl)) pss_nil)
      (pss_cons (ps_if (pt_val (pe_callB (call_isXT hn.zc hf) (by rfl) T.m_isinstance (by decide +kernel) (pa_cons (pv 3) (pa_cons (pe_tup (pa_cons (pe_glob (v := .ref T.C_NoWitness) (by rfl) T.G_NoWitness rfl) (pa_cons (pe_glob (v := .ref T.C_PatternError) (by rfl) T.G_PatternError rfl) (pa_cons (pe_glob (v := .ref T.C_QueryError) (by rfl) T.G_QueryError rfl) (pa_cons (pe_glob (v := .ref T.C_TableError) (by rfl) T.G_TableError rfl) (pa_cons (pe_glob (v := .ref T.C_TreeError) (by rfl) T.G_TreeError rfl) (pa_cons (pe_glob (v := .ref T.C_UnknownLanguage) (by rfl) T.G_UnknownLanguage rfl) pa_nil))))))) pa_nil)))) (pss_one (ps_ret pe_bl)) pss_nil)
      (pss_one (ps_ret (pe_and (pe_callB (call_isX hn.zc hf) (by rfl) T.m_isinstance (by decide +kernel) (pa_cons (pv 3) (pa_cons (pe_glob (v := .ref T.C_MendedError) (by rfl) T.G_MendedError rfl) pa_nil))) (pe_and (pe_callB (call_isX hn.zc hf) (by rfl) T.m_isinstance (by decide +kernel) (pa_cons (pv 3) (pa_cons (pe_bltn (v := .ty "ValueError") (by rfl) T.m_ValueError (by decide +kernel) rfl) pa_nil))) (pe_one (L2H.pe_callH GH_law_is_path ⟨hr_law_is_path.dp, hr_law_is_path.un⟩ ⟨(a, oe), ⟨rfl, hf.choose, hf.choose_spec, hn.2.2 _ hf.choose_spec⟩, List.mem_cons_self⟩ (by rfl) T.g_law_is_path T.F_law_is_path.kp T.b_law_is_path (fun _ => OwnHot.passA0) (pa_cons (pe_xf T.E_NoNode.xf T.n_NoNode_path hn.zc hf (pv 3)) (pa_cons (pv 1) pa_nil))))))))))))
      (pss_one (ps_ret pe_bl))), ?_⟩
    refine ⟨_, rfl, _, rfl, _, rfl, t, pa, pl, xs, l, q, s, rfl, hn, ht, SqT.of hp, hx, hxs, hf, .inr ⟨x, more, ex, hb, fun d H1 sm nd hd => ?_⟩⟩
    refine ⟨true, T.E_NoNode.self, fun _ a ha => ?_, fun z => Bool.noConfusion z⟩
    refine ⟨_, rfl, by show 7 ≤ sizeLine; decide, fun tp ntp => ?_⟩
    have s1 := same_upd (o := .tup (othA T)) ntp
    refine ⟨_, d, rfl, rfl, T.E_NoNode.exc, tp, _, _, false, _, rfl, upd_same, .cons (.own _) (.cons (.own _) (.cons (.own _) (.cons (.own _) (.cons (.own _) (.cons (.own _) (.cons (.own _) .nil)))))), s1 _ _ hd, kit_a T, false, rfl, iteF ?_⟩
    show tSeq _ _ _ _ (upd H1 tp (.tup (othA T)))
    obtain ⟨H2, hH2⟩ : ∃ H2, H2 = upd H1 tp (.tup (othA T)) := ⟨_, rfl⟩
    rw [← hH2] at s1 ⊢
    refine ⟨_, rfl, by show 6 ≤ sizeLine; decide, fun tq ntq => ?_⟩
    have s2 := same_upd (o := .tup (othB T)) ntq
    refine ⟨_, d, rfl, rfl, T.E_NoNode.exc, tq, _, _, false, _, rfl, upd_same, .cons (.own _) (.cons (.own _) (.cons (.own _) (.cons (.own _) (.cons (.own _) (.cons (.own _) .nil))))), s2 _ _ (s1 _ _ hd), kit_b T, false, rfl, iteF ?_⟩
    have s3 := s1.trans s2
    have hd3 := s3 _ _ hd
    refine ⟨_, rfl, _, d, rfl, rfl, T.E_NoNode.exc, _, _, true, _, rfl, .own _, hd3, T.k_NoNode_MendedError, true, rfl, iteT ?_⟩
    refine ⟨_, rfl, _, d, rfl, rfl, T.E_NoNode.exc, _, _, true, _, rfl, .ty _, hd3, T.k_NoNode_ValueError, true, rfl, iteT ?_⟩
    have hp3 := s3 _ _ (sm _ _ hp)
    exact ⟨_, rfl, rfl, rfl, d, _, _, rfl, hd3, rfl, _, rfl, pa, pa, xs, rfl, hp3, SqT.of hp3, hx, qq _ (sm.trans s3)⟩
theorem ok_no_leaf (T : Txt K mg) : FnOk P w K mg base CX0 8 T.a_law_no_leaf T.fd_law_no_leaf ["node", "place"] (spNoLeaf K T.C_Node) := by
  have G_path_to : FnOk P w K mg base (L2N.CX P w) 6 T.a_path_to T.fd_path_to ["node", "place"] (spTo K T.C_Node T.C_NoNode) := ok_path_to T
  have GH_law_is_path : L2H.FnH P w K mg base CX0 1 T.a_law_is_path T.fd_law_is_path ["told", "due"] (spIsPath K) := ok_is_pathH T
  refine T.F_law_no_leaf.ok sc_law_no_leaf (fun vs H Q E h => ?_) (fun cdv A outer s H vs Q E hr h => ?_)
  · obtain ⟨t, o, rfl, _⟩ := h
    rfl
  · have hr_path_to : Room 6 _ := hr.mono (by decide)
    have hr_law_is_path : Room 1 _ := hr.mono (by decide)
    obtain ⟨t, o, rfl, hn, ht, hb, q⟩ := h
    refine ⟨_, (pss_cons (L2N.ps_try_as (i := 2) (Wout := fun _ _ _ _ => False) rfl rfl sc_law_no_leaf.nd rfl rfl ⟨rfl, by decide, .inl T.G_NoNode⟩ OwnHot.takes0N (fun W pn xe tk _ => (pss_one (ps_expr (pe_callS G_path_to hr_path_to rfl T.g_path_to T.F_path_to.kp T.b_path_to (fun σ => L2N.passAt tk σ) (pa_cons (pv 0) (pa_cons (pv 1) pa_nil)))))) (fun a oe cls d pn hn hf => (pss_cons (ps_if (pt_val (pe_callB (call_isXT hn.zc hf) (by rfl) T.m_isinstance (by decide +kernel) (pa_cons (pv 2) (pa_cons (pe_tup (pa_cons (pe_glob (v := .ref T.C_BadMark) (by rfl) T.G_BadMark rfl) (pa_cons (pe_glob (v := .ref T.C_EditError) (by rfl) T.G_EditError rfl) (pa_cons (pe_glob (v := .ref T.C_Entangled) (by rfl) T.G_Entangled rfl) (pa_cons (pe_glob (v := .ref T.C_GrammarError) (by rfl) T.G_GrammarError rfl) (pa_cons (pe_glob (v := .ref T.C_HistoryError) (by rfl) T.G_HistoryError rfl) (pa_cons (pe_glob (v := .ref T.C_NoLayer) (by rfl) T.G_NoLayer rfl) (pa_cons (pe_glob (v := .ref T.C_NoMark) (by rfl) T.G_NoMark rfl) pa_nil)))))))) pa_nil)))) (pss_one (ps_ret pe_bl)) pss_nil)
      (pss_cons (ps_if (pt_val (pe_callB (call_isXT hn.zc hf) (by rfl) T.m_isinstance (by decide +kernel) (pa_cons (pv 2) (pa_cons (pe_tup (pa_cons (pe_glob (v := .ref T.C_NoWitness) (by rfl) T.G_NoWitness rfl) (pa_cons (pe_glob (v := .ref T.C_PatternError) (by rfl) T.G_PatternError rfl) (pa_cons (pe_glob (v := .ref T.C_QueryError) (by rfl) T.G_QueryError rfl) (pa_cons (pe_glob (v := .ref T.C_TableError) (by rfl) T.G_TableError rfl) (pa_cons (pe_glob (v := .ref T.C_TreeError) (by rfl) T.G_TreeError rfl) (pa_cons (pe_glob (v := .ref T.C_UnknownLanguage) (by rfl) T.G_UnknownLanguage rfl) pa_nil))))))) pa_nil)))) (pss_one (ps_ret pe_bl)) pss_nil)
      (pss_one (ps_ret (pe_and (pe_callB (call_isX hn.zc hf) (by rfl) T.m_isinstance (by decide +kernel) (pa_cons (pv 2) (pa_cons (pe_glob (v := .ref T.C_MendedError) (by rfl) T.G_MendedError rfl) pa_nil))) (pe_and (pe_callB (call_isX hn.zc hf) (by rfl) T.m_isinstance (by decide +kernel) (pa_cons (pv 2) (pa_cons (pe_bltn (v := .ty "ValueError") (by rfl) T.m_ValueError (by decide +kernel) rfl) pa_nil))) (pe_one (L2H.pe_callH GH_law_is_path ⟨hr_law_is_path.dp, hr_law_is_path.un⟩ ⟨(a, oe), ⟨rfl, hf.choose, hf.choose_spec, hn.2.2 _ hf.choose_spec⟩, List.mem_cons_self⟩ (by rfl) T.g_law_is_path T.F_law_is_path.kp T.b_law_is_path (fun _ => OwnHot.passA0) (pa_cons (pe_xf T.E_NoNode.xf T.n_NoNode_path hn.zc hf (pv 2)) (pa_cons (pe_tup pa_nil) pa_nil))))))))))))
      (pss_one (ps_ret pe_bl))), ?_⟩
    refine ⟨_, rfl, _, rfl, t, o, rfl, hn, ht, .inr (.inr ⟨hb.1, hb.2, fun d pa H1 sm nd hp hd => ?_⟩)⟩
    refine ⟨true, T.E_NoNode.self, fun _ a ha => ?_, fun z => Bool.noConfusion z⟩
    refine ⟨_, rfl, by show 7 ≤ sizeLine; decide, fun tp ntp => ?_⟩
    have s1 := same_upd (o := .tup (othA T)) ntp
    refine ⟨_, d, rfl, rfl, T.E_NoNode.exc, tp, _, _, false, _, rfl, upd_same, .cons (.own _) (.cons (.own _) (.cons (.own _) (.cons (.own _) (.cons (.own _) (.cons (.own _) (.cons (.own _) .nil)))))), s1 _ _ hd, kit_a T, false, rfl, iteF ?_⟩
    show tSeq _ _ _ _ (upd H1 tp (.tup (othA T)))
    obtain ⟨H2, hH2⟩ : ∃ H2, H2 = upd H1 tp (.tup (othA T)) := ⟨_, rfl⟩
    rw [← hH2] at s1 ⊢
    refine ⟨_, rfl, by show 6 ≤ sizeLine; decide, fun tq ntq => ?_⟩
    have s2 := same_upd (o := .tup (othB T)) ntq
    refine ⟨_, d, rfl, rfl, T.E_NoNode.exc, tq, _, _, false, _, rfl, upd_same, .cons (.own _) (.cons (.own _) (.cons (.own _) (.cons (.own _) (.cons (.own _) (.cons (.own _) .nil))))), s2 _ _ (s1 _ _ hd), kit_b T, false, rfl, iteF ?_⟩
    have s3 := s1.trans s2
    have hd3 := s3 _ _ hd
    refine ⟨_, rfl, _, d, rfl, rfl, T.E_NoNode.exc, _, _, true, _, rfl, .own _, hd3, T.k_NoNode_MendedError, true, rfl, iteT ?_⟩
    refine ⟨_, rfl, _, d, rfl, rfl, T.E_NoNode.exc, _, _, true, _, rfl, .ty _, hd3, T.k_NoNode_ValueError, true, rfl, iteT ?_⟩
    have hp3 := s3 _ _ hp
    refine ⟨_, rfl, rfl, rfl, d, _, _, rfl, hd3, rfl, by show 0 ≤ sizeLine; decide, fun r nr => ?_⟩
    have s4 := same_upd (o := .tup []) nr
    exact ⟨pa, r, [], rfl, s4 _ _ hp3, SqT.of upd_same, Nat.zero_le _, q _ ((sm.trans s3).trans s4)⟩

/-! ### a tree with its rows and nodes -/
mutual
theorem ats_ras : ∀ (t : Tr) (l : Int), (t.ras l).map (fun x => x.2.2) = t.ats
  | .mk p d ks, l => by
    show p :: (rasL (l + 1) ks).map (fun x => x.2.2) = p :: atsL ks
    rw [atsL_ras ks]
theorem atsL_ras : ∀ (ts : List Tr) (l : Int), (rasL l ts).map (fun x => x.2.2) = atsL ts
  | [], _ => rfl
  | t :: ts, l => by
    show (t.ras l ++ rasL l ts).map (fun x => x.2.2) = t.ats ++ atsL ts
    rw [List.map_append, ats_ras t, atsL_ras ts]
end
theorem pathsL_one : ∀ {ts : List Tr} {i0 j : Nat}, j < ts.length → [i0 + j] ∈ pathsL i0 ts
  | t :: ts, i0, 0, _ => by
    refine List.mem_append_left _ (List.mem_map.mpr ⟨[], ?_, rfl⟩)
    cases t
    exact List.mem_cons_self
  | t :: ts, i0, j + 1, h => by
    have := pathsL_one (ts := ts) (i0 := i0 + 1) (j := j) (Nat.lt_of_succ_lt_succ h)
    refine List.mem_append_right _ ?_
    rw [show i0 + (j + 1) = i0 + 1 + j by omega]
    exact this
mutual
/-- the paths of a spot's kids -/
theorem spots_kid {x : Spot} {i : Nat} : ∀ {t : Tr} {pl : Int}, x ∈ t.spots pl → i < x.2.2.ks.length → (x.1 ++ [i]) ∈ t.paths
  | .mk p d ks, pl, h, hi => by
    rcases List.mem_cons.mp h with rfl | h
    · refine List.mem_cons_of_mem _ ?_
      have := pathsL_one (ts := ks) (i0 := 0) (j := i) hi
      rw [Nat.zero_add] at this
      exact this
    · exact List.mem_cons_of_mem _ (spotsL_kid h hi)
theorem spotsL_kid {x : Spot} {i : Nat} : ∀ {ts : List Tr} {pl : Int} {i0 : Nat}, x ∈ spotsL pl i0 ts → i < x.2.2.ks.length → (x.1 ++ [i]) ∈ pathsL i0 ts
  | [], _, _, h, _ => absurd h List.not_mem_nil
  | t :: ts, pl, i0, h, hi => by
    rcases List.mem_append.mp h with h | h
    · obtain ⟨y, hy, rfl⟩ := List.mem_map.mp h
      exact List.mem_append_left _ (List.mem_map.mpr ⟨y.1 ++ [i], spots_kid (x := y) hy hi, rfl⟩)
    · exact List.mem_append_right _ (spotsL_kid h hi)
end
theorem KidsTo.count {t : Tr} {n k : Nat} {pi c : List Nat} {pl q : Int} {s : Tr} (h : KidsTo t n k c) (hp : t.paths[k]? = some pi) (hs : (pi, q, s) ∈ t.spots pl) (hn : n = t.paths.length) : s.ks.length ≤ c.length := by
  refine Nat.le_of_not_lt fun lt => ?_
  have := spots_kid (x := (pi, q, s)) (i := c.length) hs lt
  obtain ⟨m, hm⟩ := List.mem_iff_getElem?.mp this
  have := (h pi hp).2 c.length m (by rw [hn]; exact (List.getElem?_eq_some_iff.mp hm).1) hm
  have := (List.getElem?_eq_some_iff.mp this).1
  omega
structure TreeIn (K : PySem.W.Frag) (C : Addr) (H : Hp) (l m : Addr) (us : List V) (rows : List Rw) (as : List Addr) (t : Tr) : Prop where
  rws : RowsIn H l us rows
  mds : H m = some (.lst (as.map V.ref))
  len : as.length = rows.length
  ras : t.ras 0 = rasOf rows as
  nd : NodeAt K C H t
  wok : WOk t
  sz : rows.length ≤ 4500
theorem Keeps.but {K : PySem.W.Frag} {C : Addr} {H H' : Hp} {b : Addr} {xs : List V} (h : H b = some (.lst xs)) (k : But b H H') : Keeps K C H H' :=
  ⟨fun q dx d tp e => k q _ (fun z => by rw [z, h] at e; cases e) e, fun tp us e => by
    rcases e with (e | ⟨x, e⟩) | e
    · exact .inl (.inl (k _ _ (fun z => by rw [z, h] at e; cases e) e))
    · exact .inl (.inr ⟨x, k _ _ (fun z => by rw [z, h] at e; cases e) e⟩)
    · exact .inr e⟩
section
variable {C : Addr} {H H' : Hp} {l m : Addr} {us : List V} {rows : List Rw} {as : List Addr} {t : Tr}
theorem TreeIn.same (h : TreeIn K C H l m us rows as t) (s : Same H H') : TreeIn K C H' l m us rows as t := ⟨h.rws.same s, s _ _ h.mds, h.len, h.ras, h.nd.keep (Keeps.of s), h.wok, h.sz⟩
theorem RowsIn.but {r : Addr} (h : RowsIn H l us rows) (b : But r H H') (R : ReelAt H r) (n : l ≠ r) : RowsIn H' l us rows := ⟨b _ _ n h.lst, Paired.mapP h.row fun _ _ x => x.tups (b.tups R)⟩
theorem keeps_but {r : Addr} (b : But r H H') (R : ReelAt H r) : Keeps K C H H' := by
  obtain ⟨z, c, e, _⟩ := R
  exact Keeps.but e b
theorem TreeIn.but {r : Addr} (h : TreeIn K C H l m us rows as t) (b : But r H H') (R : ReelAt H r) (nl : l ≠ r) (nm : m ≠ r) : TreeIn K C H' l m us rows as t := ⟨h.rws.but b R nl, b _ _ nm h.mds, h.len, h.ras, h.nd.keep (keeps_but b R), h.wok, h.sz⟩
theorem TreeIn.ats (h : TreeIn K C H l m us rows as t) : t.ats = as := by
  rw [← ats_ras t 0, h.ras]
  unfold rasOf
  rw [List.map_map]
  show (rows.zip as).map Prod.snd = as
  exact List.map_snd_zip (by rw [h.len]; exact Nat.le_refl _)
theorem TreeIn.prs (h : TreeIn K C H l m us rows as t) (pl : Int) : (t.spots pl).map (fun x => (((x.1.length : Nat) : Int), x.2.2.d)) = rows := by
  have e : (t.spots pl).map (fun x => (((x.1.length : Nat) : Int), x.2.2.d)) = ((t.spots pl).map (spR 0)).map (fun x => (x.1, x.2.1)) := by
    rw [List.map_map]
    refine List.map_congr_left fun x _ => ?_
    show (((x.1.length : Nat) : Int), x.2.2.d) = ((0 : Int) + ((x.1.length : Nat) : Int), x.2.2.d)
    rw [Int.zero_add]
  rw [e, spots_ras, h.ras]
  unfold rasOf
  rw [List.map_map]
  show (rows.zip as).map Prod.fst = rows
  exact List.map_fst_zip (by rw [h.len]; exact Nat.le_refl _)
theorem TreeIn.addrs (h : TreeIn K C H l m us rows as t) (pl : Int) : (t.spots pl).map (fun x => x.2.2.at) = as := by
  rw [← h.ats, ← ats_ras t 0, ← spots_ras t pl 0, List.map_map]
  rfl
theorem TreeIn.slen (h : TreeIn K C H l m us rows as t) (pl : Int) : (t.spots pl).length = rows.length := by
  have := congrArg List.length (h.prs pl)
  rw [List.length_map] at this
  exact this
theorem TreeIn.plen (h : TreeIn K C H l m us rows as t) : rows.length = t.paths.length := by
  rw [← spots_paths t 0, List.length_map, h.slen]
theorem TreeIn.of (h : TreeIn K C H l m us rows as t) : RowsOf t rows := by
  refine ⟨h.plen, fun k r pi e1 e2 => ?_⟩
  rw [← h.prs 0, List.getElem?_map] at e1
  rw [← spots_paths t 0, List.getElem?_map] at e2
  cases hx : (t.spots 0)[k]? with
  | none =>
    rw [hx] at e1
    cases e1
  | some x =>
    rw [hx] at e1 e2
    rw [← Option.some.inj e1, ← Option.some.inj e2]
theorem TreeIn.spot (h : TreeIn K C H l m us rows as t) (pl : Int) {k : Nat} (hk : k < rows.length) : ∃ pi s, t.paths[k]? = some pi ∧ (t.spots pl)[k]? = some (pi, sumTo pl rows k, s) ∧ as[k]? = some s.at ∧ rows[k]? = some (((pi.length : Nat) : Int), s.d) := by
  obtain ⟨x, hx⟩ : ∃ x, (t.spots pl)[k]? = some x := ⟨_, List.getElem?_eq_getElem (by rw [h.slen]; exact hk)⟩
  have e1 : sumTo pl rows k = x.2.1 := by
    rw [spots_place h.wok hx]
    unfold sumTo leafSum
    have e : (rows.take k).map (fun x => leafW x.2) = ((t.spots pl).take k).map fun x => leafW x.2.2.d := by
      rw [← h.prs pl, ← List.map_take, List.map_map]
      rfl
    rw [e]
  refine ⟨x.1, x.2.2, ?_, ?_, ?_, ?_⟩
  · rw [← spots_paths t pl, List.getElem?_map, hx]
    rfl
  · rw [e1]
    exact hx
  · rw [← h.addrs pl, List.getElem?_map, hx]
    rfl
  · rw [← h.prs pl, List.getElem?_map, hx]
    rfl
theorem UpsAt.but {r u : Addr} (h : UpsAt H u t) (b : But r H H') (R : ReelAt H r) (n : u ≠ r) : UpsAt H' u t := by
  obtain ⟨us, h1, h2, h3⟩ := h.ex
  refine ⟨⟨us, b _ _ n h1, h2, fun k p i pi e1 e2 => ?_⟩⟩
  obtain ⟨g, e3, e4⟩ := h3 k p i pi e1 e2
  exact ⟨g, e3, b.tups R _ _ e4⟩
theorem KidsAt.but {r kp : Addr} {n : Nat} {ks : List Addr} (h : KidsAt H kp t n ks) (b : But r H H') (nk : kp ≠ r) (na : ∀ a ∈ ks, a ≠ r) : KidsAt H' kp t n ks := ⟨b _ _ nk h.lst, h.len, h.nd, fun j a ha => by
  obtain ⟨k1, c, k2, k3⟩ := h.kid j a ha
  exact ⟨k1, c, b _ _ (na a (List.mem_of_getElem? ha)) k2, k3⟩⟩
end

/-! ### every node asked is found by its path -/
theorem ReelAt.same {H H' : Hp} {r : Addr} (h : ReelAt H r) (s : Same H H') : ReelAt H' r := by
  obtain ⟨z, c, e, x⟩ := h
  exact ⟨z, c, s _ _ e, x⟩
def spNodes (K : PySem.W.Frag) (C : Addr) : Sp := fun vs H Q _ => ∃ (l m A r : Addr) (us : List V) (rows : List Rw) (as : List Addr) (t : Tr) (asks : List Nat) (start : Int), vs = [.ref l, .ref m, .ref A, .int start, .ref r] ∧ TreeIn K C H l m us rows as t ∧
  H A = some (.lst ((natsZ asks).map V.int)) ∧ (∀ k ∈ asks, k < rows.length) ∧ l ≠ r ∧ m ≠ r ∧ A ≠ r ∧ ReelAt H r ∧ ∀ H', But r H H' → ReelAt H' r → Q (.bl true) H'
theorem natsZ_small {n : Nat} {l : List Nat} (h : ∀ i ∈ l, i ≤ n) (hn : n ≤ 1000000) : ∀ i ∈ natsZ l, i.natAbs ≤ 1000000 := fun i hi => by
  obtain ⟨j, hj, rfl⟩ := List.mem_map.mp hi
  have := h j hj
  show ((j : Int)).natAbs ≤ _
  omega
theorem natsZ_len (l : List Nat) : (natsZ l).length = l.length := by
  unfold natsZ
  rw [List.length_map]
theorem idx_lt {t : Tr} {i : Nat} : ∀ {k : Nat} {pi : List Nat}, t.paths[k]? = some (pi ++ [i]) → i < k := by
  induction i with
  | zero =>
    intro k pi h
    rcases Nat.eq_zero_or_pos k with rfl | hk
    · rw [path_zero] at h
      exact (snoc_nil (Option.some.inj h).symm).elim
    · exact hk
  | succ i ih =>
    intro k pi h
    obtain ⟨m, h1, h2⟩ := paths_prev h
    have := ih h2
    omega
theorem path_small {t : Tr} : ∀ {k : Nat} {pi : List Nat}, t.paths[k]? = some pi → ∀ i ∈ pi, i < k := fun {k} => by
  induction k using Nat.strongRecOn with
  | ind k ih =>
    intro pi h j hj
    rcases List.eq_nil_or_concat pi with rfl | ⟨p', i, rfl⟩
    · exact absurd hj List.not_mem_nil
    · rw [List.concat_eq_append] at h hj
      obtain ⟨p, h1, h2, _⟩ := paths_par h
      rcases List.mem_append.mp hj with hj | hj
      · have := ih p h1 h2 j hj
        omega
      · rw [List.mem_singleton.mp hj]
        exact idx_lt h
theorem natsZ_at {l : List Nat} {i : Nat} {v : V} (h : ((natsZ l).map V.int)[i]? = some v) : ∃ k : Nat, l[i]? = some k ∧ v = .int (k : Int) := by
  unfold natsZ at h
  rw [List.getElem?_map, List.getElem?_map] at h
  cases hk : l[i]? with
  | none =>
    rw [hk] at h
    cases h
  | some k =>
    rw [hk] at h
    exact ⟨k, rfl, (Option.some.inj h).symm⟩
theorem cat_any {a b : Addr} {xs ys : List V} {H : Hp} {Q : VK} (ha : H a = some (.tup xs)) (hb : H b = some (.tup ys)) (hz : xs.length + ys.length ≤ sizeLine) (q : ∀ z H', Same H H' → H' z = some (.tup (xs ++ ys)) → Q (.ref z) H') : rCatA K (.ref a) (.ref b) H Q := by
  refine ⟨a, b, xs, ys, rfl, rfl, SqT.of ha, SqT.of hb, hz, fun e => ?_, fun _ e => ?_, fun _ _ p np => q p _ (same_upd np) upd_same⟩
  · subst e
    exact q b H (Same.refl H) hb
  · subst e
    exact q a H (Same.refl H) (by rw [List.append_nil]; exact ha)
theorem ok_nodes (T : Txt K mg) : FnOk P w K mg base CX0 9 T.a_law_nodes_found T.fd_law_nodes_found ["rows", "made", "asked", "start", "reel"] (spNodes K T.C_Node) := by
  have G_law_places : FnOk P w K mg base CX0 2 T.a_law_places T.fd_law_places ["rows", "start"] spPlaces := ok_places T
  have G_law_ups : FnOk P w K mg base CX0 2 T.a_law_ups T.fd_law_ups ["rows"] spUps := ok_ups T
  have G_law_kids : FnOk P w K mg base CX0 1 T.a_law_kids T.fd_law_kids ["rows"] spKids := ok_kids T
  have G_law_path : FnOk P w K mg base CX0 1 T.a_law_path T.fd_law_path ["ups", "at"] spPath := ok_path T
  have G_at_path : FnOk P w K mg base (L2N.CX P w) 6 T.a_at_path T.fd_at_path ["node", "path", "place"] (spAt K T.C_Node T.C_NoNode) := ok_at_path T
  have G_law_found : FnOk P w K mg base CX0 1 T.a_law_found T.fd_law_found ["told", "due"] (spFound K T.C_Node) := ok_found T
  have G_law_draw : FnOk P w K mg base CX0 1 T.a_law_draw T.fd_law_draw ["reel", "size"] spDraw := ok_draw T
  have G_law_pick : FnOk P w K mg base CX0 2 T.a_law_pick T.fd_law_pick ["reel", "row"] (spPick K) := ok_pick T
  have G_law_no_path : FnOk P w K mg base CX0 8 T.a_law_no_path T.fd_law_no_path ["node", "path", "place"] (spNoPath K T.C_Node) := ok_no_path T
  refine T.F_law_nodes_found.ok sc_law_nodes_found (fun vs H Q E h => ?_) (fun cdv A outer s H vs Q E hr h => ?_)
  · obtain ⟨l, m, A, r, us, rows, as, t, asks, start, rfl, _⟩ := h
    rfl
  · have hr_law_places : Room 2 _ := hr.mono (by decide)
    have hr_law_ups : Room 2 _ := hr.mono (by decide)
    have hr_law_kids : Room 1 _ := hr.mono (by decide)
    have hr_law_path : Room 1 _ := hr.mono (by decide)
    have hr_at_path : Room 6 _ := hr.mono (by decide)
    have hr_law_found : Room 1 _ := hr.mono (by decide)
    have hr_law_draw : Room 1 _ := hr.mono (by decide)
    have hr_law_pick : Room 2 _ := hr.mono (by decide)
    have hr_law_no_path : Room 8 _ := hr.mono (by decide)
    obtain ⟨l, m, A, r, us, rows, as, t, asks, start, rfl, TI, hA, hask, nl, nm, nA, R, q⟩ := h
    refine ⟨_, (pss_cons (ps_set (i := 5) sc_law_nodes_found.nd rfl (.inl rfl) (pe_call G_law_places hr_law_places (by rfl) T.g_law_places T.F_law_places.kp T.b_law_places .nil pass0 (pa_cons (pv 0) (pa_cons pe_int pa_nil))))
      (pss_cons (ps_set (i := 6) sc_law_nodes_found.nd rfl (.inl rfl) (pe_call G_law_ups hr_law_ups (by rfl) T.g_law_ups T.F_law_ups.kp T.b_law_ups .nil pass0 (pa_cons (pv 0) pa_nil)))
      (pss_cons (ps_set (i := 7) sc_law_nodes_found.nd rfl (.inl rfl) (pe_call G_law_kids hr_law_kids (by rfl) T.g_law_kids T.F_law_kids.kp T.b_law_kids .nil pass0 (pa_cons (pv 0) pa_nil)))
      (pss_cons (ps_for PassesOwn.never rfl (pi_list (pv 2)) (pg_name (i := 8) sc_law_nodes_found.nd rfl (.inl rfl)) (pss_cons (ps_set (i := 9) sc_law_nodes_found.nd rfl (.inl rfl) (pe_call G_law_path hr_law_path (by rfl) T.g_law_path T.F_law_path.kp T.b_law_path .nil pass0 (pa_cons (pv 6) (pa_cons (pv 8) pa_nil))))
      (pss_cons (ps_if (pt_not (pt_val (pe_call G_law_found hr_law_found (by rfl) T.g_law_found T.F_law_found.kp T.b_law_found .nil pass0 (pa_cons (pe_call G_at_path hr_at_path (by rfl) T.g_at_path T.FD_at_path.kp (bd_at_path3 T).choose_spec.2 (bd_at_path3 T).choose_spec.1 (OwnHot.passX0N rfl rfl) (pa_cons (pe_ix ix_list (pv 1) pe_int (fun _ _ => rfl)) (pa_cons (pv 9) (pa_cons (pv 3) pa_nil)))) (pa_cons (pe_tup (pa_cons (pe_op op_add (pv 3) (pe_ix ix_list (pv 5) (pv 8) (fun _ _ => rfl))) (pa_cons (pe_ix ix_list (pv 1) (pv 8) (fun _ _ => rfl)) pa_nil))) pa_nil))))) (pss_one (ps_ret pe_bl)) pss_nil)
      (pss_cons (ps_set (i := 10) sc_law_nodes_found.nd rfl (.inl rfl) (pe_callB call_len_seq (by rfl) T.m_len PySem.boot_len (pa_cons (pe_ix ix_list (pv 7) (pv 8) (fun _ _ => rfl)) pa_nil)))
      (pss_cons (ps_set (i := 11) sc_law_nodes_found.nd rfl (.inl rfl) (pe_call G_law_pick hr_law_pick (by rfl) T.g_law_pick T.F_law_pick.kp T.b_law_pick .nil pass0 (pa_cons (pv 4) (pa_cons (pe_lst (pa_cons (pv 10) (pa_cons (pe_op op_add (pe_op op_add (pv 10) pe_int) (pe_call G_law_draw hr_law_draw (by rfl) T.g_law_draw T.F_law_draw.kp T.b_law_draw .nil pass0 (pa_cons (pv 4) (pa_cons pe_int pa_nil)))) (pa_cons (pe_un un_neg pe_int) (pa_cons (pe_op op_sub (pe_un un_neg pe_int) (pe_call G_law_draw hr_law_draw (by rfl) T.g_law_draw T.F_law_draw.kp T.b_law_draw .nil pass0 (pa_cons (pv 4) (pa_cons (pe_op op_add (pv 10) pe_int) pa_nil)))) pa_nil))))) pa_nil))))
      (pss_cons (ps_if (pt_not (pt_val (pe_call G_law_no_path hr_law_no_path (by rfl) T.g_law_no_path T.F_law_no_path.kp T.b_law_no_path .nil pass0 (pa_cons (pe_ix ix_list (pv 1) pe_int (fun _ _ => rfl)) (pa_cons (pe_op op_catA (pe_op op_catA (pv 9) (pe_tup (pa_cons (pv 11) pa_nil))) (pe_call G_law_pick hr_law_pick (by rfl) T.g_law_pick T.F_law_pick.kp T.b_law_pick .nil pass0 (pa_cons (pv 4) (pa_cons (pe_lst (pa_cons (pe_tup pa_nil) (pa_cons (pe_tup (pa_cons pe_int pa_nil)) (pa_cons (pe_tup (pa_cons pe_int (pa_cons pe_int pa_nil))) (pa_cons (pe_tup (pa_cons (pe_un un_neg pe_int) pa_nil)) pa_nil))))) pa_nil)))) (pa_cons (pv 3) pa_nil)))))) (pss_one (ps_ret pe_bl)) pss_nil)
      (pss_one (ps_if (pt_not (pt_val (pe_call G_law_found hr_law_found (by rfl) T.g_law_found T.F_law_found.kp T.b_law_found .nil pass0 (pa_cons (pe_call G_at_path hr_at_path (by rfl) T.g_at_path T.FD_at_path.kp (bd_at_path2 T).choose_spec.2 (bd_at_path2 T).choose_spec.1 (OwnHot.passX0N rfl rfl) (pa_cons (pe_ix ix_list (pv 1) pe_int (fun _ _ => rfl)) (pa_cons (pv 9) pa_nil))) (pa_cons (pe_tup (pa_cons (pe_ix ix_list (pv 5) (pv 8) (fun _ _ => rfl)) (pa_cons (pe_ix ix_list (pv 1) (pv 8) (fun _ _ => rfl)) pa_nil))) pa_nil))))) (pss_one (ps_ret pe_bl)) pss_nil))))))))
      (pss_one (ps_ret pe_bl)))))), ?_⟩
    have big : sizeLine = 2 ^ 24 := rfl
    have lr := TI.sz
    have lp := TI.plen
    refine ⟨_, rfl, l, us, rows, 0, rfl, TI.rws, by omega, fun pp ns H1 s1 npp hpp lns hns => ?_⟩
    have TI1 := TI.same s1
    refine ⟨_, rfl, l, us, rows, t, rfl, TI1.rws, TI1.of, by omega, fun up H2 s2 nup U2 => ?_⟩
    have TI2 := TI1.same s2
    refine ⟨_, rfl, l, us, rows, t, rfl, TI2.rws, TI2.of, by omega, fun kp ks H3 s3 nkp KA fk => ?_⟩
    have s123 := (s1.trans s2).trans s3
    have TI3 := TI2.same s3
    have U3 := U2.same s3
    have hpp3 := s3 _ _ (s2 _ _ hpp)
    have hA3 := s123 _ _ hA
    have R1 := R.same s1
    have R2 := R1.same s2
    have R3 := R2.same s3
    have npr : pp ≠ r := (R.ne npp).symm
    have nur : up ≠ r := (R1.ne nup).symm
    have nkr : kp ≠ r := (R2.ne nkp).symm
    have nkr2 : ∀ a ∈ ks, a ≠ r := fun a ha => (R2.ne (fk a ha)).symm
    refine ⟨_, rfl, A, rfl, ⟨_, SqL.of hA3⟩, ?_⟩
    refine for_list (K := K) (a := A) (xs := (natsZ asks).map V.int) (fun i σ H' => But r H3 H' ∧ ReelAt H' r ∧ ∃ y8 y9 y10 y11 : Option V, σ = [some (.ref l), some (.ref m), some (.ref A), some (.int start), some (.ref r), some (.ref pp), some (.ref up), some (.ref kp), y8, y9, y10, y11])
      ⟨But.refl _ _, R3, none, none, none, none, rfl⟩ (fun i σ H' _ ⟨b, _⟩ => SqL.of (b _ _ nA hA3)) ?_ ?_
    · rintro i v σ H4 hv ⟨b4, R4, y8, y9, y10, y11, rfl⟩
      obtain ⟨k, hk, rfl⟩ := natsZ_at hv
      have hkr : k < rows.length := hask k (List.mem_of_getElem? hk)
      have TI4 := TI3.but b4 R3 nl nm
      obtain ⟨pi, s1', hpi, hsp, has, hrow⟩ := TI.spot start hkr
      refine ⟨_, rfl, _, rfl, up, t, k, pi, rfl, U3.but b4 R3 nur, by omega, hpi, fun pa H5 s5 hpa => ?_⟩
      have TI5 := TI4.same s5
      have e0 : (as.map V.ref)[0]? = some (.ref t.at) := by
        rw [← TI.ats]
        cases t
        rfl
      have est : start + sumTo 0 rows k = sumTo start rows k := by
        unfold sumTo
        omega
      have lats : t.ats.length ≤ 5000 := by rw [TI.ats, TI.len]; omega
      have dl := depth_le hpi
      have psm := natsZ_small (l := pi) (n := 5000) (fun i hi => by have := path_small hpi i hi; omega) (by decide)
      have hfol := spots_follow (List.mem_of_getElem? hsp)
      have asl := (List.getElem?_eq_some_iff.mp has).1
      have hmk : (as.map V.ref)[k]? = some (.ref s1'.at) := by rw [List.getElem?_map, has]; rfl
      have hnk : (ns.map V.int)[k]? = some (.int (sumTo 0 rows k)) := by rw [List.getElem?_map, hns k hkr]; rfl
      refine ⟨_, rfl, m, _, 0, .ref t.at, rfl, rfl, SqL.of TI5.mds, atI_nat (j := 0) e0, _, rfl, _, rfl, t, pa, start, natsZ pi, pi, sumTo start rows k, s1', rfl, TI5.nd, lats, SqT.of hpa, by rw [natsZ_len]; omega, psm, hfol, .inl ⟨rfl, fun g H6 s6 hg => ?_⟩⟩
      have b6 := (b4.trans (.of s5)).trans (.of s6)
      have R6 := (R4.same s5).same s6
      have TI6 := TI3.but b6 R3 nl nm
      have nd1 : NodeAt K T.C_Node H6 s1' := follow_node TI6.nd hfol
      refine ⟨_, rfl, _, rfl, _, rfl, pp, _, _, .int (sumTo 0 rows k), rfl, rfl, SqL.of (b6 _ _ npr hpp3), atI_nat hnk, _, _, rfl, rfl, _, rfl, _, rfl, m, _, _, .ref s1'.at, rfl, rfl, SqL.of TI6.mds, atI_nat hmk, by show 2 ≤ sizeLine; decide, fun d nd => ?_⟩
      have s7 := same_upd (o := .tup [.int (start + sumTo 0 rows k), .ref s1'.at]) nd
      rw [← est] at hg
      refine ⟨g, d, start + sumTo 0 rows k, s1', rfl, s7 _ _ hg, upd_same, nd1.keep (Keeps.of s7), true, rfl, iteF ?_⟩
      have b7 := b6.trans (.of s7)
      have R7 := R6.same s7
      have hpa7 := s7 _ _ (s6 _ _ hpa)
      have npa : pa ≠ r := fun z => by
        obtain ⟨_, _, e, _⟩ := R7
        rw [z, e] at hpa7
        cases hpa7
      clear TI6 TI5 nd1 hg hpa s6 s5 R6
      -- the number of kids
      have KA7 := KA.but b7 nkr nkr2
      obtain ⟨a, ha⟩ : ∃ a, ks[k]? = some a := ⟨_, List.getElem?_eq_getElem (by rw [KA.len, ← lp]; exact hkr)⟩
      obtain ⟨ak, c, hc, lc, kt⟩ := KA7.kid k a ha
      have hka : (ks.map V.ref)[k]? = some (V.ref a) := by rw [List.getElem?_map, ha]; rfl
      have cnt : s1'.ks.length ≤ c.length := KidsTo.count (pl := start) (q := sumTo start rows k) kt hpi (List.mem_of_getElem? hsp) lp
      have lcz : ((natsZ c).map V.int).length = c.length := by rw [List.length_map, natsZ_len]
      refine ⟨_, rfl, _, rfl, kp, _, _, V.ref a, rfl, rfl, SqL.of KA7.lst, atI_nat hka, a, _, rfl, .inl (SqL.of hc), ?_⟩
      rw [lcz]
      clear KA7 hc lcz
      refine ⟨_, rfl, _, rfl, _, rfl, _, _, rfl, rfl, _, rfl, r, 5, rfl, R7, by decide, fun d1 H8 d10 d11 b8 R8 => ⟨_, _, rfl, rfl, _, rfl, _, rfl, _, rfl, _, rfl, _, _, rfl, rfl, r, _, rfl, R8, by omega, fun d2 H9 d20 d21 b9 R9 => ⟨_, _, rfl, rfl, by show 4 ≤ sizeLine; decide, fun lq nlq => ?_⟩⟩⟩
      have nlqr : lq ≠ r := (R9.ne nlq).symm
      refine ⟨r, .ref lq, rfl, R9.new nlq, .inr ⟨lq, _, rfl, nlqr, SqL.of upd_same, by show 0 < 4; decide, fun v H10 hv b10 R10 => ?_⟩⟩
      obtain ⟨x, rfl, hx1, hx2⟩ : ∃ x : Int, v = .int x ∧ (x < 0 ∨ (c.length : Int) ≤ x) ∧ x.natAbs ≤ 10000 := by
        rcases List.mem_cons.mp hv with rfl | hv
        · exact ⟨_, rfl, .inr (Int.le_refl _), by omega⟩
        rcases List.mem_cons.mp hv with rfl | hv
        · exact ⟨_, rfl, .inr (by omega), by omega⟩
        rcases List.mem_cons.mp hv with rfl | hv
        · exact ⟨_, rfl, .inl (by omega), by omega⟩
        · rw [List.mem_singleton.mp hv]
          exact ⟨_, rfl, .inl (by omega), by omega⟩
      have b710 : But r _ H10 := ((b8.trans b9).trans (.new nlq)).trans b10
      have b10' := b7.trans b710
      clear b8 b9 b10 nlq nlqr hv d10 d11 d20 d21 R8 R9
      have TI10 := TI3.but b10' R3 nl nm
      have hpa10 := b710 _ _ npa hpa7
      have lpz := natsZ_len pi
      refine ⟨_, rfl, m, _, 0, .ref t.at, rfl, rfl, SqL.of TI10.mds, atI_nat (j := 0) e0, _, rfl, _, rfl, by show 1 ≤ sizeLine; decide, fun q1 nq1 => ?_⟩
      have s11 := same_upd (o := .tup [.int x]) nq1
      refine cat_any (s11 _ _ hpa10) upd_same (by rw [List.length_map, lpz, big]; show _ + 1 ≤ _; omega) fun z1 H12 s12 hz1 => ?_
      have b12 := (b10'.trans (.of s11)).trans (.of s12)
      have R12 := (R10.new nq1).same s12
      have nz1 : z1 ≠ r := fun z => by
        obtain ⟨_, _, e, _⟩ := R12
        rw [z, e] at hz1
        cases hz1
      have hpa12 := s12 _ _ (s11 _ _ hpa10)
      clear TI10 hpa10 s11 s12 nq1 hpa7
      refine ⟨_, rfl, by show 0 ≤ sizeLine; decide, fun e1 ne1 => ⟨by show 1 ≤ sizeLine; decide, fun e2 ne2 => ⟨by show 2 ≤ sizeLine; decide, fun e3 ne3 => ⟨_, rfl, by show 1 ≤ sizeLine; decide, fun e4 ne4 => ⟨by show 4 ≤ sizeLine; decide, fun lq nlq => ?_⟩⟩⟩⟩⟩
      have t1 := same_upd (o := .tup []) ne1
      have t2 := same_upd (o := .tup [.int 0]) ne2
      have t3 := same_upd (o := .tup [.int 0, .int 1]) ne3
      have t4 := same_upd (o := .tup [.int (-1)]) ne4
      have t5 := same_upd (o := .lst [.ref e1, .ref e2, .ref e3, .ref e4]) nlq
      have R16 := (R12.same (((t1.trans t2).trans t3).trans t4))
      have nlqr : lq ≠ r := (R16.ne nlq).symm
      have ner : ∀ {H' : Hp} {e : Addr} {zs : List V}, ReelAt H' r → H' e = some (.tup zs) → e ≠ r := fun {H' e zs} R' h z => by
        obtain ⟨_, _, e5, _⟩ := R'
        rw [z, e5] at h
        cases h
      have f1 := t5 _ _ (t4 _ _ (t3 _ _ (t2 _ _ (upd_same (a := e1) (o := .tup [])))))
      have f2 := t5 _ _ (t4 _ _ (t3 _ _ (upd_same (a := e2) (o := .tup [.int 0]))))
      have f3 := t5 _ _ (t4 _ _ (upd_same (a := e3) (o := .tup [.int 0, .int 1])))
      have f4 := t5 _ _ (upd_same (a := e4) (o := .tup [.int (-1)]))
      have R17 := R16.same t5
      have t15 := (((t1.trans t2).trans t3).trans t4).trans t5
      refine ⟨r, .ref lq, rfl, R17, .inr ⟨lq, _, rfl, nlqr, SqL.of upd_same, by show 0 < 4; decide, fun v H18 hv b18 R18 => ?_⟩⟩
      obtain ⟨e, ys, rfl, he, ly, hy⟩ : ∃ (e : Addr) (ys : List Int), v = .ref e ∧ H18 e = some (.tup (ys.map V.int)) ∧ ys.length ≤ 2 ∧ ∀ i ∈ ys, i.natAbs ≤ 1000000 := by
        rcases List.mem_cons.mp hv with rfl | hv
        · exact ⟨e1, [], rfl, b18 _ _ (ner R17 f1) f1, by decide, fun i hi => absurd hi List.not_mem_nil⟩
        rcases List.mem_cons.mp hv with rfl | hv
        · exact ⟨e2, [0], rfl, b18 _ _ (ner R17 f2) f2, by decide, by decide⟩
        rcases List.mem_cons.mp hv with rfl | hv
        · exact ⟨e3, [0, 1], rfl, b18 _ _ (ner R17 f3) f3, by decide, by decide⟩
        · rw [List.mem_singleton.mp hv]
          exact ⟨e4, [-1], rfl, b18 _ _ (ner R17 f4) f4, by decide, by decide⟩
      have b1218 := (But.of t15).trans b18
      have hz18 := b1218 _ _ nz1 hz1
      have hpa18 := b1218 _ _ npa hpa12
      have b18' := b12.trans b1218
      clear f1 f2 f3 f4 t1 t2 t3 t4 t5 t15 R16 R17 nlqr hv ne1 ne2 ne3 ne4 nlq b18 hz1 hpa12
      refine cat_any hz18 he (by rw [List.length_append, List.length_map, List.length_map, lpz, big]; show _ + 1 + _ ≤ _; omega) fun z2 H19 s19 hz2 => ?_
      have b19 := b18'.trans (.of s19)
      have R19 := R18.same s19
      have TI19 := TI3.but b19 R3 nl nm
      have exs : (natsZ pi).map V.int ++ [V.int x] ++ ys.map V.int = (natsZ pi ++ x :: ys).map V.int := by
        rw [List.map_append, List.append_assoc]
        rfl
      rw [exs] at hz2
      have hpa19 := s19 _ _ hpa18
      refine ⟨_, rfl, t, z2, start, natsZ pi ++ x :: ys, pi, sumTo start rows k, s1', x, ys, rfl, TI19.nd, lats, hz2, by rw [List.length_append, lpz, List.length_cons]; omega, fun i hi => ?_, hfol, rfl, by omega, fun H20 s20 => ⟨true, rfl, iteF ?_⟩⟩
      · rcases List.mem_append.mp hi with hi | hi
        · exact psm i hi
        · rcases List.mem_cons.mp hi with rfl | hi
          · omega
          · exact hy i hi
      have b20 := b19.trans (.of s20)
      have R20 := R19.same s20
      have TI20 := TI19.same s20
      obtain ⟨pi', s0, hpi', hsp0, has0, _⟩ := TI.spot 0 hkr
      obtain rfl : pi = pi' := Option.some.inj (hpi.symm.trans hpi')
      have hfol0 := spots_follow (List.mem_of_getElem? hsp0)
      have hmk0 : (as.map V.ref)[k]? = some (.ref s0.at) := by rw [List.getElem?_map, has0]; rfl
      refine ⟨_, rfl, m, _, 0, .ref t.at, rfl, rfl, SqL.of TI20.mds, atI_nat (j := 0) e0, _, rfl, t, pa, 0, natsZ pi, pi, sumTo 0 rows k, s0, rfl, TI20.nd, lats, SqT.of (s20 _ _ hpa19), by rw [natsZ_len]; omega, psm, hfol0, .inl ⟨rfl, fun g H21 s21 hg => ?_⟩⟩
      have b21 := b20.trans (.of s21)
      have TI21 := TI20.same s21
      have nd1 : NodeAt K T.C_Node H21 s0 := follow_node TI21.nd hfol0
      refine ⟨_, rfl, _, rfl, pp, _, _, .int (sumTo 0 rows k), rfl, rfl, SqL.of (b21 _ _ npr hpp3), atI_nat hnk, _, rfl, _, rfl, m, _, _, .ref s0.at, rfl, rfl, SqL.of TI21.mds, atI_nat hmk0, by show 2 ≤ sizeLine; decide, fun d nd => ?_⟩
      have s22 := same_upd (o := .tup [.int (sumTo 0 rows k), .ref s0.at]) nd
      refine ⟨g, d, sumTo 0 rows k, s0, rfl, s22 _ _ hg, upd_same, nd1.keep (Keeps.of s22), true, rfl, iteF ?_⟩
      exact ⟨b21.trans (.of s22), (R20.same s21).same s22, _, _, _, _, rfl⟩
    · rintro σ H4 ⟨b4, R4, y8, y9, y10, y11, rfl⟩
      exact q H4 ((But.of s123).trans b4) R4

/-! ### the spots below a spot -/
theorem spotsL_head {x : Spot} : ∀ {ts : List Tr} {pl : Int} {i : Nat}, (spotsL pl i ts).head? = some x → x.1 = [i]
  | [], _, _, h => by cases h
  | .mk p d ks :: ts, pl, i, h => by
    obtain rfl : (([i], pl, .mk p d ks) : Spot) = x := Option.some.inj h
    rfl
mutual
theorem spots_sub {pa : List Nat} {qa : Int} {sa : Tr} : ∀ {t : Tr} {pl : Int} {k : Nat}, (t.spots pl)[k]? = some (pa, qa, sa) → ∃ rest, (t.spots pl).drop k = (sa.spots qa).map (fun x => ((pa ++ x.1, x.2) : Spot)) ++ rest ∧ ∀ x, rest.head? = some x → x.1.length ≤ pa.length
  | .mk p d ks, pl, 0, h => by
    have h : some (([], pl, .mk p d ks) : Spot) = some (pa, qa, sa) := h
    cases h
    refine ⟨[], ?_, fun x hx => by cases hx⟩
    rw [List.append_nil]
    exact (List.map_id _).symm
  | .mk p d ks, pl, k + 1, h => by
    have h : (spotsL pl 0 ks)[k]? = some (pa, qa, sa) := h
    exact spotsL_sub h
theorem spotsL_sub {pa : List Nat} {qa : Int} {sa : Tr} : ∀ {ts : List Tr} {pl : Int} {i k : Nat}, (spotsL pl i ts)[k]? = some (pa, qa, sa) → ∃ rest, (spotsL pl i ts).drop k = (sa.spots qa).map (fun x => ((pa ++ x.1, x.2) : Spot)) ++ rest ∧ ∀ x, rest.head? = some x → x.1.length ≤ pa.length
  | [], _, _, _, h => by cases h
  | t :: ts, pl, i, k, h => by
    have h : ((t.spots pl).map (fun x => ((i :: x.1, x.2) : Spot)) ++ spotsL (pl + t.d.wid) (i + 1) ts)[k]? = some (pa, qa, sa) := h
    show ∃ rest, ((t.spots pl).map (fun x => ((i :: x.1, x.2) : Spot)) ++ spotsL (pl + t.d.wid) (i + 1) ts).drop k = _ ∧ _
    by_cases hk : k < (t.spots pl).length
    · rw [List.getElem?_append_left (by rw [List.length_map]; exact hk), List.getElem?_map] at h
      cases hy : (t.spots pl)[k]? with
      | none =>
        rw [hy] at h
        cases h
      | some y =>
        rw [hy] at h
        obtain ⟨y1, y2, y3⟩ := y
        have h : some ((i :: y1, y2, y3) : Spot) = some (pa, qa, sa) := h
        cases h
        obtain ⟨rest, e, hr⟩ := spots_sub hy
        refine ⟨rest.map (fun x => ((i :: x.1, x.2) : Spot)) ++ spotsL (pl + t.d.wid) (i + 1) ts, ?_, fun x hx => ?_⟩
        · rw [List.drop_append_of_le_length (by rw [List.length_map]; omega), ← List.map_drop, e, List.map_append, List.map_map, List.append_assoc]
          rfl
        · cases rest with
          | nil =>
            rw [spotsL_head hx]
            show 1 ≤ y1.length + 1
            omega
          | cons z zs =>
            obtain rfl : ((i :: z.1, z.2) : Spot) = x := Option.some.inj hx
            have := hr z rfl
            show z.1.length + 1 ≤ y1.length + 1
            omega
    · rw [List.getElem?_append_right (by rw [List.length_map]; omega), List.length_map] at h
      obtain ⟨rest, e, hr⟩ := spotsL_sub h
      refine ⟨rest, ?_, hr⟩
      rw [List.drop_append, List.drop_of_length_le (by rw [List.length_map]; omega), List.nil_append, List.length_map]
      exact e
end
theorem TreeIn.sub {C : Addr} {H : Hp} {l m : Addr} {us : List V} {rows : List Rw} {as : List Addr} {t : Tr} (h : TreeIn K C H l m us rows as t) {a k e : Nat} {pa pk : List Nat} {qa qk : Int} {sa sk : Tr} (he : EndIs rows a e) (h1 : a ≤ k) (h2 : k < e) (ha : (t.spots 0)[a]? = some (pa, qa, sa)) (hk : (t.spots 0)[k]? = some (pk, qk, sk)) :
    ∃ l, pk = pa ++ l ∧ (l, qk, sk) ∈ sa.spots qa := by
  obtain ⟨rest, e1, hr⟩ := spots_sub ha
  have hk2 : ((t.spots 0).drop a)[k - a]? = some (pk, qk, sk) := by
    rw [List.getElem?_drop, show a + (k - a) = k by omega]
    exact hk
  rw [e1] at hk2
  have n1 : 0 < (sa.spots qa).length := by
    cases sa
    exact Nat.succ_pos _
  by_cases hn : k - a < (sa.spots qa).length
  · rw [List.getElem?_append_left (by rw [List.length_map]; exact hn), List.getElem?_map] at hk2
    cases hy : (sa.spots qa)[k - a]? with
    | none =>
      rw [hy] at hk2
      cases hk2
    | some y =>
      rw [hy] at hk2
      obtain ⟨y1, y2⟩ := y
      have hk2 : some ((pa ++ y1, y2) : Spot) = some (pk, qk, sk) := hk2
      cases hk2
      exact ⟨y1, rfl, List.mem_of_getElem? hy⟩
  · exfalso
    rw [List.getElem?_append_right (by rw [List.length_map]; omega), List.length_map] at hk2
    cases rest with
    | nil => cases hk2
    | cons y ys =>
      have ly := hr y rfl
      have hm : (t.spots 0)[a + (sa.spots qa).length]? = some y := by
        have : ((t.spots 0).drop a)[(sa.spots qa).length]? = some y := by
          rw [e1, List.getElem?_append_right (by rw [List.length_map]; exact Nat.le_refl _), List.length_map, Nat.sub_self]
          rfl
        rw [List.getElem?_drop] at this
        exact this
      have ra : rows[a]? = some (((pa.length : Nat) : Int), sa.d) := by
        rw [← h.prs 0, List.getElem?_map, ha]
        rfl
      have rm : rows[a + (sa.spots qa).length]? = some (((y.1.length : Nat) : Int), y.2.2.d) := by
        rw [← h.prs 0, List.getElem?_map, hm]
        rfl
      have := (he.2.2 _ ra).1 _ _ (by omega) (by omega) rm
      have this : ((pa.length : Nat) : Int) < ((y.1.length : Nat) : Int) := this
      omega
theorem sl_any {a : Addr} {pa l : List Nat} {H : Hp} {Q : VK} (ha : H a = some (.tup ((natsZ (pa ++ l)).map V.int))) (q : ∀ z H', Same H H' → H' z = some (.tup ((natsZ l).map V.int)) → Q (.ref z) H') : rSlA K (.ref a) (some ((pa.length : Nat) : Int)) none H Q := by
  have lx : ((natsZ (pa ++ l)).map V.int).length = pa.length + l.length := by rw [List.length_map, natsZ_len, List.length_append]
  have ec : cutV ((natsZ (pa ++ l)).map V.int) (some ((pa.length : Nat) : Int)) none = (natsZ l).map V.int := by
    unfold cutV
    rw [HT.sIx_nat, HT.sIx_none, lx, Nat.min_eq_left (by omega), show pa.length + l.length - pa.length = l.length by omega]
    unfold natsZ
    rw [List.map_append, List.map_append, List.drop_append_of_le_length (by rw [List.length_map, List.length_map]; exact Nat.le_refl _), List.drop_of_length_le (by rw [List.length_map, List.length_map]; exact Nat.le_refl _), List.nil_append, List.take_of_length_le (by rw [List.length_map, List.length_map]; exact Nat.le_refl _)]
  refine ⟨a, _, rfl, SqT.of ha, fun h => ?_, fun _ p np => ?_⟩
  · have h0 : pa.length = 0 := by
      have := h.1
      rw [HT.sIx_nat, lx] at this
      omega
    obtain rfl : pa = [] := List.eq_nil_of_length_eq_zero h0
    exact q a H (Same.refl H) ha
  · rw [ec]
    exact q p _ (same_upd np) upd_same

/-! ### every leaf asked is found by its places -/
theorem no_part {σ : L2.St} {H : Hp} {Q : Option Int → Hp → Prop} (h : Q none H) : tNoPart σ H Q := h
theorem g_seqD {i : Nat} {x : V} {σ : L2.St} {H : Hp} {t u : L2.TS} {D D2 : L2.Ends} (h : tSeq t u D (σ.set i (some x)) H) : gName i x σ H { D2 with nx := tSeq t u D }.nx := h
def RootOk (t : Tr) : Prop := ∀ x ∈ t.spots 0, x.2.2.d.kind = "root" → x.2.2.ks.length = 2
def spLeaves (K : PySem.W.Frag) (C : Addr) : Sp := fun vs H Q _ => ∃ (l m A : Addr) (us : List V) (rows : List Rw) (as : List Addr) (t : Tr) (asks : List Nat) (a : Nat), vs = [.ref l, .ref m, .ref A, .int (a : Int)] ∧ TreeIn K C H l m us rows as t ∧ RootOk t ∧
  H A = some (.lst ((natsZ asks).map V.int)) ∧ (∀ k ∈ asks, k < rows.length) ∧ a < rows.length ∧ ∀ H', Same H H' → Q (.bl true) H'
theorem ok_leaves (T : Txt K mg) : FnOk P w K mg base CX0 9 T.a_law_leaves_found T.fd_law_leaves_found ["rows", "made", "asked", "at"] (spLeaves K T.C_Node) := by
  have G_law_places : FnOk P w K mg base CX0 2 T.a_law_places T.fd_law_places ["rows", "start"] spPlaces := ok_places T
  have G_law_ups : FnOk P w K mg base CX0 2 T.a_law_ups T.fd_law_ups ["rows"] spUps := ok_ups T
  have G_law_path : FnOk P w K mg base CX0 1 T.a_law_path T.fd_law_path ["ups", "at"] spPath := ok_path T
  have G_law_end : FnOk P w K mg base CX0 1 T.a_law_end T.fd_law_end ["rows", "at"] spEnd := ok_end T
  have G_law_is_leaf : FnOk P w K mg base CX0 1 T.a_law_is_leaf T.fd_law_is_leaf ["row"] (spRowB K) := ok_is_leafL T
  have G_path_to : FnOk P w K mg base (L2N.CX P w) 6 T.a_path_to T.fd_path_to ["node", "place"] (spTo K T.C_Node T.C_NoNode) := ok_path_to T
  have G_law_is_path : FnOk P w K mg base CX0 1 T.a_law_is_path T.fd_law_is_path ["told", "due"] (spIsPath K) := ok_is_path T
  have G_law_no_leaf : FnOk P w K mg base CX0 8 T.a_law_no_leaf T.fd_law_no_leaf ["node", "place"] (spNoLeaf K T.C_Node) := ok_no_leaf T
  refine T.F_law_leaves_found.ok sc_law_leaves_found (fun vs H Q E h => ?_) (fun cdv A outer s H vs Q E hr h => ?_)
  · obtain ⟨l, m, A, us, rows, as, t, asks, a, rfl, _⟩ := h
    rfl
  · have hr_law_places : Room 2 _ := hr.mono (by decide)
    have hr_law_ups : Room 2 _ := hr.mono (by decide)
    have hr_law_path : Room 1 _ := hr.mono (by decide)
    have hr_law_end : Room 1 _ := hr.mono (by decide)
    have hr_law_is_leaf : Room 1 _ := hr.mono (by decide)
    have hr_path_to : Room 6 _ := hr.mono (by decide)
    have hr_law_is_path : Room 1 _ := hr.mono (by decide)
    have hr_law_no_leaf : Room 8 _ := hr.mono (by decide)
    obtain ⟨l, m, A, us, rows, as, t, asks, a, rfl, TI, RO, hA, hask, har, q⟩ := h
    refine ⟨_, (pss_cons (ps_set (i := 4) sc_law_leaves_found.nd rfl (.inl rfl) (pe_call G_law_places hr_law_places (by rfl) T.g_law_places T.F_law_places.kp T.b_law_places .nil pass0 (pa_cons (pv 0) (pa_cons pe_int pa_nil))))
      (pss_cons (ps_set (i := 5) sc_law_leaves_found.nd rfl (.inl rfl) (pe_call G_law_ups hr_law_ups (by rfl) T.g_law_ups T.F_law_ups.kp T.b_law_ups .nil pass0 (pa_cons (pv 0) pa_nil)))
      (pss_cons (ps_set (i := 6) sc_law_leaves_found.nd rfl (.inl rfl) (pe_callB call_len_seq (by rfl) T.m_len PySem.boot_len (pa_cons (pe_call G_law_path hr_law_path (by rfl) T.g_law_path T.F_law_path.kp T.b_law_path .nil pass0 (pa_cons (pv 5) (pa_cons (pv 3) pa_nil))) pa_nil)))
      (pss_cons (ps_set (i := 7) sc_law_leaves_found.nd rfl (.inl rfl) (pe_call G_law_end hr_law_end (by rfl) T.g_law_end T.F_law_end.kp T.b_law_end .nil pass0 (pa_cons (pv 0) (pa_cons (pv 3) pa_nil))))
      (pss_cons (ps_for PassesOwn.never rfl (pi_list (pv 2)) (pg_name (i := 8) sc_law_leaves_found.nd rfl (.inl rfl)) (pss_one (ps_if (PW.pt (pw_and (pt_cmpR op_le (pv 3) (pv 8) (nomark _)) (pw_and (pt_cmpR op_lt (pv 8) (pv 7) (nomark _)) (pw_and (pt_val (pe_call G_law_is_leaf hr_law_is_leaf (by rfl) T.g_law_is_leaf T.F_law_is_leaf.kp T.b_law_is_leaf .nil pass0 (pa_cons (pe_ix ix_list (pv 0) (pv 8) (fun _ _ => rfl)) pa_nil))) (pw_and1 (pt_cmpR op_gt (pe_ix ix_tup (pe_ix ix_list (pv 0) (pv 8) (fun _ _ => rfl)) pe_int (fun _ _ => rfl)) pe_int (nomark _))))))) (pss_cons (ps_set (i := 9) sc_law_leaves_found.nd rfl (.inl rfl) (pe_slice sl_tupA (pe_call G_law_path hr_law_path (by rfl) T.g_law_path T.F_law_path.kp T.b_law_path .nil pass0 (pa_cons (pv 5) (pa_cons (pv 8) pa_nil))) (po_some (pv 6)) po_none))
      (pss_cons (ps_set (i := 10) sc_law_leaves_found.nd rfl (.inl rfl) (pe_op op_sub (pe_ix ix_list (pv 4) (pv 8) (fun _ _ => rfl)) (pe_ix ix_list (pv 4) (pv 3) (fun _ _ => rfl))))
      (pss_one (ps_for PassesOwn.never rfl (pi_list (pe_lst (pa_cons pe_int (pa_cons (pe_op op_sub (pe_ix ix_tup (pe_ix ix_list (pv 0) (pv 8) (fun _ _ => rfl)) pe_int (fun _ _ => rfl)) pe_int) (pa_cons (pe_op op_fdiv (pe_ix ix_tup (pe_ix ix_list (pv 0) (pv 8) (fun _ _ => rfl)) pe_int (fun _ _ => rfl)) pe_int) pa_nil))))) (pg_name (i := 11) sc_law_leaves_found.nd rfl (.inl rfl)) (pss_one (ps_if (pt_not (pt_val (pe_call G_law_is_path hr_law_is_path (by rfl) T.g_law_is_path T.F_law_is_path.kp T.b_law_is_path .nil pass0 (pa_cons (pe_call G_path_to hr_path_to (by rfl) T.g_path_to T.F_path_to.kp T.b_path_to .nil (OwnHot.passX0N rfl rfl) (pa_cons (pe_ix ix_list (pv 1) (pv 3) (fun _ _ => rfl)) (pa_cons (pe_op op_add (pv 10) (pv 11)) pa_nil))) (pa_cons (pv 9) pa_nil))))) (pss_one (ps_ret pe_bl)) pss_nil)))))) pss_nil)))
      (pss_cons (ps_set (i := 12) sc_law_leaves_found.nd rfl (.inl rfl) (pe_ix ix_tup (pe_ix ix_list (pv 0) (pv 3) (fun _ _ => rfl)) pe_int (fun _ _ => rfl)))
      (pss_cons (ps_if (pt_cmpR op_eq (pe_ix ix_tup (pe_ix ix_list (pv 0) (pv 3) (fun _ _ => rfl)) pe_int (fun _ _ => rfl)) pe_str (nomark _)) (pss_one (ps_ret (pe_and (pe_call G_law_is_path hr_law_is_path (by rfl) T.g_law_is_path T.F_law_is_path.kp T.b_law_is_path .nil pass0 (pa_cons (pe_call G_path_to hr_path_to (by rfl) T.g_path_to T.F_path_to.kp T.b_path_to .nil (OwnHot.passX0N rfl rfl) (pa_cons (pe_ix ix_list (pv 1) (pv 3) (fun _ _ => rfl)) (pa_cons (pv 12) pa_nil))) (pa_cons (pe_tup (pa_cons pe_int pa_nil)) pa_nil))) (pe_one (pe_call G_law_no_leaf hr_law_no_leaf (by rfl) T.g_law_no_leaf T.F_law_no_leaf.kp T.b_law_no_leaf .nil pass0 (pa_cons (pe_ix ix_list (pv 1) (pv 3) (fun _ _ => rfl)) (pa_cons (pe_op op_add (pv 12) pe_int) pa_nil))))))) pss_nil)
      (pss_one (ps_ret (pe_and (pe_call G_law_no_leaf hr_law_no_leaf (by rfl) T.g_law_no_leaf T.F_law_no_leaf.kp T.b_law_no_leaf .nil pass0 (pa_cons (pe_ix ix_list (pv 1) (pv 3) (fun _ _ => rfl)) (pa_cons (pv 12) pa_nil))) (pe_one (pe_call G_law_no_leaf hr_law_no_leaf (by rfl) T.g_law_no_leaf T.F_law_no_leaf.kp T.b_law_no_leaf .nil pass0 (pa_cons (pe_ix ix_list (pv 1) (pv 3) (fun _ _ => rfl)) (pa_cons (pe_op op_add (pv 12) pe_int) pa_nil)))))))))))))), ?_⟩
    have big : sizeLine = 2 ^ 24 := rfl
    have lr := TI.sz
    have lp := TI.plen
    refine ⟨_, rfl, l, us, rows, 0, rfl, TI.rws, by omega, fun pp ns H1 s1 npp hpp lns hns => ?_⟩
    have TI1 := TI.same s1
    refine ⟨_, rfl, l, us, rows, t, rfl, TI1.rws, TI1.of, by omega, fun up H2 s2 nup U2 => ?_⟩
    have TI2 := TI1.same s2
    obtain ⟨pa, sa, hpa, hsa, hasa, hrowa⟩ := TI.spot 0 har
    refine ⟨_, rfl, _, rfl, up, t, a, pa, rfl, U2, by omega, hpa, fun ga H3 s3 hga => ?_⟩
    have TI3 := TI2.same s3
    refine ⟨ga, _, rfl, .inr (SqT.of hga), ?_⟩
    have lga : ((natsZ pa).map V.int).length = pa.length := by rw [List.length_map, natsZ_len]
    rw [lga]
    refine ⟨_, rfl, _, rfl, l, us, rows, a, rfl, TI3.rws, by omega, har, fun e he => ?_⟩
    have s123 := (s1.trans s2).trans s3
    have hA3 := s123 _ _ hA
    have U3 := U2.same s3
    have hpp3 := s3 _ _ (s2 _ _ hpp)
    have wsa : WOk sa := spots_wok (x := (pa, sumTo 0 rows a, sa)) TI.wok (List.mem_of_getElem? hsa)
    have lats : t.ats.length ≤ 5000 := by rw [TI.ats, TI.len]; omega
    have hfa := spots_follow (List.mem_of_getElem? hsa)
    have lsa : sa.ats.length ≤ 5000 := Nat.le_trans (follow_ats hfa) lats
    have hma : (as.map V.ref)[a]? = some (.ref sa.at) := by rw [List.getElem?_map, hasa]; rfl
    have hna : (ns.map V.int)[a]? = some (.int (sumTo 0 rows a)) := by rw [List.getElem?_map, hns a har]; rfl
    have rowAt : ∀ {H' : Hp} {k : Nat} {r : Rw}, TreeIn K T.C_Node H' l m us rows as t → rows[k]? = some r → ∃ g, us[k]? = some (.ref g) ∧ H' g = some (.tup (rwV r)) := fun {H' k r} TI' hr1 => by
      obtain ⟨x', hx', g, rfl, hg⟩ := paired_get TI'.rws.row hr1
      exact ⟨g, hx', hg⟩
    refine ⟨_, rfl, A, rfl, ⟨_, SqL.of hA3⟩, ?_⟩
    refine for_list (K := K) (a := A) (xs := (natsZ asks).map V.int) (fun i σ H' => Same H3 H' ∧ ∃ y8 y9 y10 y11 : Option V, σ = [some (.ref l), some (.ref m), some (.ref A), some (.int (a : Int)), some (.ref pp), some (.ref up), some (.int (pa.length : Nat)), some (.int (e : Nat)), y8, y9, y10, y11, none])
      ⟨Same.refl _, none, none, none, none, rfl⟩ (fun i σ H' _ ⟨sm, _⟩ => SqL.of (sm _ _ hA3)) ?_ ?_
    · rintro i v σ H4 hv ⟨s4, y8, y9, y10, y11, rfl⟩
      obtain ⟨k, hk, rfl⟩ := natsZ_at hv
      have hkr : k < rows.length := hask k (List.mem_of_getElem? hk)
      have TI4 := TI3.same s4
      obtain ⟨pk, sk, hpk, hsk, hask2, hrowk⟩ := TI.spot 0 hkr
      obtain ⟨gk, hgk, hgk4⟩ := rowAt TI4 hrowk
      refine ts_ite (A := (a : Int) ≤ (k : Int) ∧ (k : Int) < (e : Int) ∧ leafB sk.d = true ∧ 0 < sk.d.wid) (Ts.and (A := (a : Int) ≤ (k : Int)) (fun Q q => ⟨_, rfl, _, rfl, _, _, rfl, rfl, _, rfl, q _ decide_eq_true_iff⟩) fun _ => Ts.and (A := (k : Int) < (e : Int)) (fun Q q => ⟨_, rfl, _, rfl, _, _, rfl, rfl, _, rfl, q _ decide_eq_true_iff⟩) fun _ => Ts.and (A := leafB sk.d = true) (fun Q q => ⟨_, rfl, _, rfl, l, _, _, _, rfl, rfl, SqL.of TI4.rws.lst, atI_nat hgk, gk, _, _, rfl, SqT.of hgk4, _, rfl, q _ Iff.rfl⟩) fun _ Q q => ?_) (fun hc => ?_) (fun hc => ?_)
      · exact ⟨_, rfl, _, rfl, l, _, _, _, rfl, rfl, SqL.of TI4.rws.lst, atI_nat hgk, gk, _, 5, .int sk.d.wid, rfl, rfl, SqT.of hgk4, rfl, _, _, rfl, rfl, _, rfl, q _ decide_eq_true_iff⟩
      · obtain ⟨c1, c2, c3, c4⟩ := hc
        obtain ⟨lk, rfl, hin⟩ := TI.sub he (by omega) (by omega) hsa hsk
        have hbd := spots_in (x := (lk, sumTo 0 rows k, sk)) wsa hin
        have hbd1 : sumTo 0 rows a ≤ sumTo 0 rows k := hbd.1
        have hbd2 : sumTo 0 rows k + sk.d.wid ≤ sumTo 0 rows a + sa.d.wid := hbd.2
        have hnk : (ns.map V.int)[k]? = some (.int (sumTo 0 rows k)) := by rw [List.getElem?_map, hns k hkr]; rfl
        have dlk := depth_le hpk
        have llk : (natsZ lk).length ≤ 5000 := by
          rw [natsZ_len]
          rw [List.length_append] at dlk
          omega
        refine ⟨_, rfl, _, rfl, up, t, k, pa ++ lk, rfl, U3.same s4, by omega, hpk, fun gp H5 s5 hgp => ⟨_, rfl, _, rfl, no_part (sl_any hgp fun z H6 s6 hz => ?_)⟩⟩
        have s46 := (s4.trans s5).trans s6
        have TI6 := TI3.same s46
        have hpp6 := s46 _ _ hpp3
        have hgk6 := s6 _ _ (s5 _ _ hgk4)
        clear TI4 hgk4 s5 s6 hgp
        refine ⟨_, rfl, _, rfl, pp, _, _, .int (sumTo 0 rows k), rfl, rfl, SqL.of hpp6, atI_nat hnk, _, rfl, _, rfl, pp, _, _, .int (sumTo 0 rows a), rfl, rfl, SqL.of hpp6, atI_nat hna, _, _, rfl, rfl, ?_⟩
        refine ⟨_, rfl, _, rfl, l, _, _, _, rfl, rfl, SqL.of TI6.rws.lst, atI_nat hgk, gk, _, 5, .int sk.d.wid, rfl, rfl, SqT.of hgk6, rfl, _, _, rfl, rfl, _, rfl, _, rfl, l, _, _, _, rfl, rfl, SqL.of TI6.rws.lst, atI_nat hgk, gk, _, 5, .int sk.d.wid, rfl, rfl, SqT.of hgk6, rfl, _, _, rfl, rfl, ⟨by decide, by decide⟩, by show 3 ≤ sizeLine; decide, fun lq nlq => ⟨lq, rfl, ⟨_, SqL.of upd_same⟩, ?_⟩⟩
        have s7 := same_upd (o := .lst [.int 0, .int (sk.d.wid - 1), .int (sk.d.wid / 2)]) nlq
        have s47 := s46.trans s7
        have hz7 := s7 _ _ hz
        have TI7 := TI6.same s7
        have nsa : NodeAt K T.C_Node _ sa := follow_node TI7.nd hfa
        clear TI6 hpp6 hgk6 hz s46
        refine for_list (K := K) (a := lq) (xs := [.int 0, .int (sk.d.wid - 1), .int (sk.d.wid / 2)]) (fun j σ H' => Same (upd H6 lq (.lst [.int 0, .int (sk.d.wid - 1), .int (sk.d.wid / 2)])) H' ∧ ∃ y11 : Option V, σ = [some (.ref l), some (.ref m), some (.ref A), some (.int (a : Int)), some (.ref pp), some (.ref up), some (.int (pa.length : Nat)), some (.int (e : Nat)), some (.int (k : Int)), some (.ref z), some (.int (sumTo 0 rows k - sumTo 0 rows a)), y11, none])
          ⟨Same.refl _, _, rfl⟩ (fun j σ H' _ ⟨sm, _⟩ => SqL.of (sm _ _ upd_same)) ?_ ?_
        · rintro j v σ H8 hv ⟨s8, y, rfl⟩
          obtain ⟨o, rfl, o0, o1⟩ : ∃ o : Int, v = .int o ∧ 0 ≤ o ∧ o < sk.d.wid := by
            rcases List.mem_cons.mp (List.mem_of_getElem? hv) with rfl | hv
            · exact ⟨_, rfl, by omega, by omega⟩
            rcases List.mem_cons.mp hv with rfl | hv
            · exact ⟨_, rfl, by omega, by omega⟩
            · rw [List.mem_singleton.mp hv]
              exact ⟨_, rfl, by omega, by omega⟩
          have hL := spots_leads (x := (lk, sumTo 0 rows k, sk)) (o := o) wsa hin c3 o0 o1
          refine ⟨_, rfl, _, rfl, m, _, _, .ref sa.at, rfl, rfl, SqL.of (s8 _ _ TI7.mds), atI_nat hma, _, rfl, _, rfl, _, _, rfl, rfl, sa, _, rfl, nsa.keep (Keeps.of s8), lsa, .inl ⟨lk, by omega, by omega, hL, fun g H9 s9 hg => ?_⟩⟩
          refine ⟨_, rfl, g, z, natsZ lk, rfl, hg, SqT.of (s9 _ _ (s8 _ _ hz7)), llk, true, rfl, iteF ?_⟩
          exact ⟨s8.trans s9, _, rfl⟩
        · rintro σ H8 ⟨s8, y, rfl⟩
          exact ⟨s47.trans s8, _, _, _, _, rfl⟩
      · exact ⟨s4, _, _, _, _, rfl⟩
    · rintro σ H4 ⟨s4, y8, y9, y10, y11, rfl⟩
      have TI4 := TI3.same s4
      obtain ⟨ga2, hga2, hga4⟩ := rowAt TI4 hrowa
      have nsa : NodeAt K T.C_Node H4 sa := follow_node TI4.nd hfa
      refine ⟨_, rfl, _, rfl, l, _, _, _, rfl, rfl, SqL.of TI4.rws.lst, atI_nat hga2, ga2, _, 5, .int sa.d.wid, rfl, rfl, SqT.of hga4, rfl, ?_⟩
      have w0 := WOk.nn wsa
      refine g_seqD ?_
      refine ts_if (A := sa.d.kind = "root") (fun Q q => ⟨_, rfl, _, rfl, l, _, _, _, rfl, rfl, SqL.of TI4.rws.lst, atI_nat hga2, ga2, _, 1, .str sa.d.kind, rfl, rfl, SqT.of hga4, rfl, rfl, _, rfl, q _ ?_⟩) (fun hk => ?_) (fun hk => ?_)
      · rw [decS, decide_eq_true_eq]
      · have k2 := RO _ (List.mem_of_getElem? hsa) hk
        have k2 : sa.ks.length = 2 := k2
        refine ⟨_, rfl, _, rfl, m, _, _, .ref sa.at, rfl, rfl, SqL.of TI4.mds, atI_nat hma, _, rfl, sa, _, rfl, nsa, lsa, .inr (.inl ⟨hk, rfl, (fun z => by rw [z] at k2; cases k2), fun g H5 s5 hg => ?_⟩)⟩
        rw [k2] at hg
        refine ⟨by show 1 ≤ sizeLine; decide, fun r nr => ?_⟩
        have s6 := same_upd (o := .tup [.int 1]) nr
        refine ⟨g, r, [1], rfl, s6 _ _ hg, SqT.of upd_same, by decide, true, rfl, iteT ?_⟩
        have s56 := s5.trans s6
        refine ⟨_, rfl, _, rfl, m, _, _, .ref sa.at, rfl, rfl, SqL.of (s56 _ _ TI4.mds), atI_nat hma, _, rfl, _, _, rfl, rfl, sa, _, rfl, nsa.keep (Keeps.of s56), lsa, ⟨by omega, fun _ => by omega⟩, fun H7 s7 => ?_⟩
        exact q _ (((s123.trans s4).trans s56).trans s7)
      · refine ⟨_, rfl, _, rfl, m, _, _, .ref sa.at, rfl, rfl, SqL.of TI4.mds, atI_nat hma, _, rfl, sa, _, rfl, nsa, lsa, ⟨by omega, fun z => absurd z hk⟩, fun H5 s5 => ⟨true, rfl, iteT ?_⟩⟩
        refine ⟨_, rfl, _, rfl, m, _, _, .ref sa.at, rfl, rfl, SqL.of (s5 _ _ TI4.mds), atI_nat hma, _, rfl, _, _, rfl, rfl, sa, _, rfl, nsa.keep (Keeps.of s5), lsa, ⟨by omega, fun _ => by omega⟩, fun H7 s7 => ?_⟩
        exact q _ (((s123.trans s4).trans s5).trans s7)

/-! ### the source of every node asked -/
def spSources (K : PySem.W.Frag) (C : Addr) : Sp := fun vs H Q _ => ∃ (l m A r : Addr) (us : List V) (rows : List Rw) (as : List Addr) (t : Tr) (asks : List Nat), vs = [.ref l, .ref m, .ref A, .ref r] ∧ TreeIn K C H l m us rows as t ∧ t.d.wid ≤ 45000 ∧
  H A = some (.lst ((natsZ asks).map V.int)) ∧ (∀ k ∈ asks, k < rows.length) ∧ l ≠ r ∧ m ≠ r ∧ A ≠ r ∧ ReelAt H r ∧ ∀ H', But r H H' → ReelAt H' r → Q (.bl true) H'
theorem row_at {C : Addr} {H' : Hp} {k : Nat} {r : Rw} {l m : Addr} {us : List V} {rows : List Rw} {as : List Addr} {t : Tr} (TI' : TreeIn K C H' l m us rows as t) (hr1 : rows[k]? = some r) : ∃ g, us[k]? = some (.ref g) ∧ H' g = some (.tup (rwV r)) := by
  obtain ⟨x', hx', g, rfl, hg⟩ := paired_get TI'.rws.row hr1
  exact ⟨g, hx', hg⟩
theorem len_word (x : Str) : x.length = (cs x).length := by
  rw [len_cs]
theorem ok_sources (T : Txt K mg) : FnOk P w K mg base CX0 4 T.a_law_sources T.fd_law_sources ["rows", "made", "asked", "reel"] (spSources K T.C_Node) := by
  have G_law_places : FnOk P w K mg base CX0 2 T.a_law_places T.fd_law_places ["rows", "start"] spPlaces := ok_places T
  have G_law_draw : FnOk P w K mg base CX0 1 T.a_law_draw T.fd_law_draw ["reel", "size"] spDraw := ok_draw T
  have G_law_word : FnOk P w K mg base CX0 3 T.a_law_word T.fd_law_word ["reel", "letters", "least", "most"] spWord := ok_word T
  have G_source : FnOk P w K mg base CX0 1 T.a_source T.fd_source ["node", "place", "text"] (spSource K T.C_Node) := ok_source T
  refine T.F_law_sources.ok sc_law_sources (fun vs H Q E h => ?_) (fun cdv A outer s H vs Q E hr h => ?_)
  · obtain ⟨l, m, A, r, us, rows, as, t, asks, rfl, _⟩ := h
    rfl
  · have hr_law_places : Room 2 _ := hr.mono (by decide)
    have hr_law_draw : Room 1 _ := hr.mono (by decide)
    have hr_law_word : Room 3 _ := hr.mono (by decide)
    have hr_source : Room 1 _ := hr.mono (by decide)
    obtain ⟨l, m, A, r, us, rows, as, t, asks, rfl, TI, hwid, hA, hask, nl, nm, nA, R, q⟩ := h
    refine ⟨_, (pss_cons (ps_set (i := 4) sc_law_sources.nd rfl (.inl rfl) (pe_call G_law_places hr_law_places (by rfl) T.g_law_places T.F_law_places.kp T.b_law_places .nil pass0 (pa_cons (pv 0) (pa_cons pe_int pa_nil))))
      (pss_cons (ps_set (i := 5) sc_law_sources.nd rfl (.inl rfl) pe_str)
      (pss_cons (ps_set (i := 5) sc_law_sources.nd rfl (.inl rfl) (pe_op op_add_str (pv 5) pe_str))
      (pss_cons (ps_set (i := 6) sc_law_sources.nd rfl (.inl rfl) (pe_call G_law_draw hr_law_draw (by rfl) T.g_law_draw T.F_law_draw.kp T.b_law_draw .nil pass0 (pa_cons (pv 3) (pa_cons pe_int pa_nil))))
      (pss_cons (ps_set (i := 7) sc_law_sources.nd rfl (.inl rfl) (pe_call G_law_word hr_law_word (by rfl) T.g_law_word T.F_law_word.kp T.b_law_word .nil pass0 (pa_cons (pv 3) (pa_cons (pv 5) (pa_cons (pe_op op_add (pv 6) (pe_ix ix_tup (pe_ix ix_list (pv 0) pe_int (fun _ _ => rfl)) pe_int (fun _ _ => rfl))) (pa_cons (pe_op op_add (pe_op op_add (pv 6) (pe_ix ix_tup (pe_ix ix_list (pv 0) pe_int (fun _ _ => rfl)) pe_int (fun _ _ => rfl))) pe_int) pa_nil))))))
      (pss_cons (ps_for PassesOwn.never rfl (pi_list (pv 2)) (pg_name (i := 8) sc_law_sources.nd rfl (.inl rfl)) (pss_cons (ps_set (i := 9) sc_law_sources.nd rfl (.inl rfl) (pe_call G_source hr_source (by rfl) T.g_source T.F_source.kp T.b_source .nil pass0 (pa_cons (pe_ix ix_list (pv 1) (pv 8) (fun _ _ => rfl)) (pa_cons (pe_op op_add (pv 6) (pe_ix ix_list (pv 4) (pv 8) (fun _ _ => rfl))) (pa_cons (pv 7) pa_nil)))))
      (pss_cons (ps_if (pt_not (pt_val (pe_callB call_isi (by rfl) T.m_isinstance (by decide +kernel) (pa_cons (pv 9) (pa_cons (pe_bltn (v := .ty "str") (by rfl) T.m_str (by decide +kernel) rfl) pa_nil))))) (pss_one (ps_ret pe_bl)) pss_nil)
      (pss_one (ps_if (pt_cmpR op_ne (pv 9) (pe_slice sl_str (pv 7) (po_some (pe_op op_add (pe_op op_add (pv 6) (pe_ix ix_list (pv 4) (pv 8) (fun _ _ => rfl))) (pe_ix ix_tup (pe_ix ix_list (pv 0) (pv 8) (fun _ _ => rfl)) pe_int (fun _ _ => rfl)))) (po_some (pe_op op_add (pe_op op_add (pv 6) (pe_ix ix_list (pv 4) (pv 8) (fun _ _ => rfl))) (pe_ix ix_tup (pe_ix ix_list (pv 0) (pv 8) (fun _ _ => rfl)) pe_int (fun _ _ => rfl))))) (nomark _)) (pss_one (ps_ret pe_bl)) pss_nil)))))
      (pss_one (ps_ret pe_bl)))))))), ?_⟩
    have big : sizeLine = 2 ^ 24 := rfl
    have lr := TI.sz
    refine ⟨_, rfl, l, us, rows, 0, rfl, TI.rws, by omega, fun pp ns H1 s1 npp hpp lns hns => ?_⟩
    have TI1 := TI.same s1
    have R1 := R.same s1
    have npr : pp ≠ r := (R.ne npp).symm
    refine ⟨_, rfl, _, _, rfl, rfl, by decide +kernel, ?_⟩
    refine ⟨_, rfl, r, 9, rfl, R1, by decide, fun sh H2 s0 s9 b2 R2 => ?_⟩
    have TI2 := TI1.but b2 R1 nl nm
    obtain ⟨g0, hg0, hg02⟩ : ∃ g, us[0]? = some (.ref g) ∧ H2 g = some (.tup (rwV (0, t.d))) := by
      have h0 : 0 < rows.length := by
        rw [TI.plen]
        cases t
        exact Nat.succ_pos _
      obtain ⟨pi, s, e1, e2, e3, e4⟩ := TI.spot 0 h0
      have e5 : (t.spots 0)[0]? = some (([], 0, t) : Spot) := by
        cases t
        rfl
      rw [e5] at e2
      have e2 := Option.some.inj e2
      injection e2 with e6 e7
      injection e7 with e7 e8
      rw [← e6, ← e8] at e4
      exact row_at TI2 e4
    have w0 := WOk.nn TI.wok
    refine ⟨_, rfl, _, rfl, _, rfl, _, rfl, l, _, 0, _, rfl, rfl, SqL.of TI2.rws.lst, atI_nat (j := 0) hg0, g0, _, 5, .int t.d.wid, rfl, rfl, SqT.of hg02, rfl, _, _, rfl, rfl, _, rfl, _, rfl, l, _, 0, _, rfl, rfl, SqL.of TI2.rws.lst, atI_nat (j := 0) hg0, g0, _, 5, .int t.d.wid, rfl, rfl, SqT.of hg02, rfl, _, _, rfl, rfl, _, _, rfl, rfl, ?_⟩
    refine ⟨r, _, _, _, rfl, R2, by decide +kernel, by decide +kernel, by omega, by omega, by omega, fun x H3 lx1 lx2 _ b3 R3 => ?_⟩
    have b13 := b2.trans b3
    have TI3 := TI1.but b13 R1 nl nm
    have hpp3 := b13 _ _ npr hpp
    have hA3 := b13 _ _ nA (s1 _ _ hA)
    have lx : x.length ≤ 50000 := by
      rw [len_word]
      omega
    refine ⟨_, rfl, A, rfl, ⟨_, SqL.of hA3⟩, ?_⟩
    refine for_list (K := K) (a := A) (xs := (natsZ asks).map V.int) (fun i σ H' => H' = H3 ∧ ∃ (sg : Str) (y8 y9 : Option V), σ = [some (.ref l), some (.ref m), some (.ref A), some (.ref r), some (.ref pp), some (.str sg), some (.int sh), some (.str x), y8, y9])
      ⟨rfl, _, none, none, rfl⟩ (fun i σ H' _ ⟨e, _⟩ => by rw [e]; exact SqL.of hA3) ?_ ?_
    · rintro i v σ H4 hv ⟨rfl, sg, y8, y9, rfl⟩
      obtain ⟨k, hk, rfl⟩ := natsZ_at hv
      have hkr : k < rows.length := hask k (List.mem_of_getElem? hk)
      obtain ⟨pk, sk, hpk, hsk, hask2, hrowk⟩ := TI.spot 0 hkr
      obtain ⟨gk, hgk, hgk4⟩ := row_at TI3 hrowk
      have hmk : (as.map V.ref)[k]? = some (.ref sk.at) := by rw [List.getElem?_map, hask2]; rfl
      have hnk : (ns.map V.int)[k]? = some (.int (sumTo 0 rows k)) := by rw [List.getElem?_map, hns k hkr]; rfl
      have nsk : NodeAt K T.C_Node H4 sk := follow_node TI3.nd (spots_follow (List.mem_of_getElem? hsk))
      refine ⟨_, rfl, _, rfl, m, _, _, .ref sk.at, rfl, rfl, SqL.of TI3.mds, atI_nat hmk, _, rfl, _, rfl, _, rfl, pp, _, _, .int (sumTo 0 rows k), rfl, rfl, SqL.of hpp3, atI_nat hnk, _, _, rfl, rfl, _, rfl, sk, _, x, rfl, nsk, by omega, ?_⟩
      refine ⟨_, rfl, _, _, _, _, true, rfl, .ty _, .base (.str _), kit_ty (by decide +kernel), true, rfl, iteF ?_⟩
      refine ⟨_, rfl, _, rfl, _, rfl, _, rfl, _, rfl, pp, _, _, .int (sumTo 0 rows k), rfl, rfl, SqL.of hpp3, atI_nat hnk, _, _, rfl, rfl, _, rfl, _, rfl, l, _, _, _, rfl, rfl, SqL.of TI3.rws.lst, atI_nat hgk, gk, _, 4, .int sk.d.lead, rfl, rfl, SqT.of hgk4, rfl, _, _, rfl, rfl, _, rfl, _, rfl, _, rfl, _, rfl, pp, _, _, .int (sumTo 0 rows k), rfl, rfl, SqL.of hpp3, atI_nat hnk, _, _, rfl, rfl, _, rfl, _, rfl, l, _, _, _, rfl, rfl, SqL.of TI3.rws.lst, atI_nat hgk, gk, _, 5, .int sk.d.wid, rfl, rfl, SqT.of hgk4, rfl, _, _, rfl, rfl, _, rfl, x, rfl, ?_⟩
      refine ⟨Nat.le_trans lx (by decide), rfl, _, rfl, itF (by rw [decide_eq_true rfl]; rfl) ?_⟩
      exact ⟨rfl, _, _, _, rfl⟩
    · rintro σ H4 ⟨rfl, sg, y8, y9, rfl⟩
      exact q H4 ((But.of s1).trans b13) R3

/-! ### the rows and nodes of a part -/
theorem ras_ne (t : Tr) (l : Int) : t.ras l ≠ [] := by
  cases t
  exact List.cons_ne_nil _ _
theorem ras_one {t : Tr} {d : Nd} {a : Addr} (h : t.ras 0 = [(0, d, a)]) : t = .mk a d [] := by
  obtain ⟨p, d2, ks⟩ := t
  have h : ((0, d2, p) : Ra) :: rasL (0 + 1) ks = [(0, d, a)] := h
  injection h with h1 h2
  injection h1 with _ h1
  injection h1 with h3 h4
  cases ks with
  | nil => rw [h3, h4]
  | cons c cs =>
    exfalso
    have h2 : c.ras (0 + 1) ++ rasL (0 + 1) cs = [] := h2
    exact ras_ne c _ (List.append_eq_nil_iff.mp h2).1
structure PartAt (rows : List Rw) (as : List Addr) (a e : Nat) (sa : Tr) (lv : Int) : Prop where
  e : e = a + sa.ats.length
  le : a + sa.ats.length ≤ rows.length
  rs : (rows.drop a).take sa.ats.length = (sa.ras lv).map fun x => (x.1, x.2.1)
  ads : (as.drop a).take sa.ats.length = sa.ats
theorem ras_len (t : Tr) (l : Int) : (t.ras l).length = t.ats.length := by
  rw [← ats_ras t l, List.length_map]
theorem TreeIn.part {C : Addr} {H : Hp} {l m : Addr} {us : List V} {rows : List Rw} {as : List Addr} {t : Tr} (h : TreeIn K C H l m us rows as t) {a e : Nat} {pa : List Nat} {qa : Int} {sa : Tr} (he : EndIs rows a e) (ha : (t.spots 0)[a]? = some (pa, qa, sa)) : PartAt rows as a e sa ((pa.length : Nat) : Int) := by
  obtain ⟨rest, e1, hr⟩ := spots_sub ha
  have hal := (List.getElem?_eq_some_iff.mp ha).1
  have ln : (sa.spots qa).length = sa.ats.length := by
    rw [← ats_ras sa 0, ← spots_ras sa qa 0, List.length_map, List.length_map]
  have er : rows.drop a = ((sa.ras ((pa.length : Nat) : Int)).map fun x => ((x.1, x.2.1) : Rw)) ++ rest.map fun x => (((x.1.length : Nat) : Int), x.2.2.d) := by
    rw [← h.prs 0, ← List.map_drop, e1, List.map_append, ← spots_ras sa qa, List.map_map, List.map_map]
    congr 1
    refine List.map_congr_left fun x _ => ?_
    show ((((pa ++ x.1).length : Nat) : Int), x.2.2.d) = (((pa.length : Nat) : Int) + ((x.1.length : Nat) : Int), x.2.2.d)
    rw [List.length_append, Int.natCast_add]
  have ea : as.drop a = sa.ats ++ rest.map fun x => x.2.2.at := by
    rw [← h.addrs 0, ← List.map_drop, e1, List.map_append, List.map_map, ← ats_ras sa 0, ← spots_ras sa qa 0, List.map_map]
    rfl
  have lr : rows.length = a + (sa.ats.length + rest.length) := by
    have e2 := congrArg List.length er
    rw [List.length_drop, List.length_append, List.length_map, List.length_map, ras_len] at e2
    rw [h.slen 0] at hal
    omega
  have n1 : 0 < sa.ats.length := by
    cases sa
    exact Nat.succ_pos _
  have ra : rows[a]? = some (((pa.length : Nat) : Int), sa.d) := by
    rw [← h.prs 0, List.getElem?_map, ha]
    rfl
  have up : e ≤ a + sa.ats.length := by
    refine Nat.le_of_not_lt fun lt => ?_
    have hm : rows[a + sa.ats.length]? = (rest.map fun x => ((((x.1.length : Nat) : Int), x.2.2.d) : Rw))[0]? := by
      have : (rows.drop a)[sa.ats.length]? = (rest.map fun x => ((((x.1.length : Nat) : Int), x.2.2.d) : Rw))[0]? := by
        rw [er, List.getElem?_append_right (by rw [List.length_map, ras_len]; exact Nat.le_refl _), List.length_map, ras_len, Nat.sub_self]
      rw [List.getElem?_drop] at this
      exact this
    cases rest with
    | nil =>
      have := he.2.1
      rw [List.length_nil] at lr
      omega
    | cons y ys =>
      have ly := hr y rfl
      have := (he.2.2 _ ra).1 _ _ (by omega) lt hm
      have this : ((pa.length : Nat) : Int) < ((y.1.length : Nat) : Int) := this
      omega
  have dn : a + sa.ats.length ≤ e := by
    refine Nat.le_of_not_lt fun lt => ?_
    have ha1 := he.1
    have hx : (rows.drop a)[e - a]? = ((sa.ras ((pa.length : Nat) : Int)).map fun x => ((x.1, x.2.1) : Rw))[e - a]? := by
      rw [er, List.getElem?_append_left (by rw [List.length_map, ras_len]; omega)]
    rw [List.getElem?_drop, show a + (e - a) = e by omega, ← spots_ras sa qa, List.map_map, List.getElem?_map] at hx
    obtain ⟨y, hy⟩ : ∃ y, (sa.spots qa)[e - a]? = some y := ⟨_, List.getElem?_eq_getElem (by rw [ln]; omega)⟩
    rw [hy] at hx
    have := (he.2.2 _ ra).2 _ hx
    have this : ((pa.length : Nat) : Int) + ((y.1.length : Nat) : Int) ≤ ((pa.length : Nat) : Int) := this
    have hy0 : y.1 = [] := List.eq_nil_of_length_eq_zero (by omega)
    have hy2 : sa.paths[e - a]? = some [] := by
      rw [← spots_paths sa qa, List.getElem?_map, hy, ← hy0]
      rfl
    have := paths_uniq hy2 path_zero
    omega
  refine ⟨by omega, by omega, ?_, ?_⟩
  · rw [er, List.take_append_of_le_length (by rw [List.length_map, ras_len]; exact Nat.le_refl _), List.take_of_length_le (by rw [List.length_map, ras_len]; exact Nat.le_refl _)]
  · rw [ea, List.take_append_of_le_length (Nat.le_refl _), List.take_length]
mutual
theorem ras_lift : ∀ (t : Tr) (l k : Int), t.ras (l + k) = (t.ras l).map fun x => (x.1 + k, x.2)
  | .mk p d ks, l, k => by
    show ((l + k, d, p) : Ra) :: rasL (l + k + 1) ks = (l + k, d, p) :: (rasL (l + 1) ks).map _
    rw [show l + k + 1 = l + 1 + k by omega, rasL_lift ks]
theorem rasL_lift : ∀ (ts : List Tr) (l k : Int), rasL (l + k) ts = (rasL l ts).map fun x => (x.1 + k, x.2)
  | [], _, _ => rfl
  | t :: ts, l, k => by
    show t.ras (l + k) ++ rasL (l + k) ts = (t.ras l ++ rasL l ts).map _
    rw [ras_lift t, rasL_lift ts, List.map_append]
end

/-! ### one part twice in another tree -/
theorem rasOf_id : ∀ xs : List Ra, rasOf (xs.map fun x => (x.1, x.2.1)) (xs.map fun x => x.2.2) = xs
  | [] => rfl
  | x :: xs => by
    have ih := rasOf_id xs
    show x :: rasOf (xs.map fun x => (x.1, x.2.1)) (xs.map fun x => x.2.2) = x :: xs
    rw [ih]
theorem rasOf_app : ∀ {rs rs' : List Rw} {as as' : List Addr}, rs.length = as.length → rasOf (rs ++ rs') (as ++ as') = rasOf rs as ++ rasOf rs' as'
  | [], _, [], _, _ => rfl
  | r :: rs, rs', a :: as, as', h => by
    have ih := rasOf_app (rs := rs) (rs' := rs') (as := as) (as' := as') (by simpa using h)
    show (r.1, r.2, a) :: rasOf (rs ++ rs') (as ++ as') = (r.1, r.2, a) :: (rasOf rs as ++ rasOf rs' as')
    rw [ih]
def liftR (sa : Tr) : List Rw := (sa.ras 1).map fun x => (x.1, x.2.1)
theorem lift_len (sa : Tr) : (liftR sa).length = sa.ats.length := by
  unfold liftR
  rw [List.length_map, ras_len]
def dPr (w ld : Int) : Nd := ⟨"pair", "pair", 3, ld, w, 9, 5, 0⟩
def tPr (sa : Tr) (top f1 f2 : Addr) (d1 d2 : Nd) : Tr := .mk top (dPr (d1.wid + d2.wid + 2 * sa.d.wid) d1.lead) [.mk f1 d1 [], sa, .mk f2 d2 [], sa]
def rowsPr (sa : Tr) (d1 d2 : Nd) : List Rw := [(0, dPr (d1.wid + d2.wid + 2 * sa.d.wid) d1.lead), (1, d1)] ++ liftR sa ++ [(1, d2)] ++ liftR sa
def adsPr (sa : Tr) (top f1 f2 : Addr) : List Addr := [top, f1] ++ sa.ats ++ [f2] ++ sa.ats
theorem pr_ras (sa : Tr) (top f1 f2 : Addr) (d1 d2 : Nd) : (tPr sa top f1 f2 d1 d2).ras 0 = rasOf (rowsPr sa d1 d2) (adsPr sa top f1 f2) := by
  have e : rasOf (liftR sa) sa.ats = sa.ras 1 := by
    unfold liftR
    rw [← ats_ras sa 1]
    exact rasOf_id _
  have l := lift_len sa
  unfold rowsPr adsPr
  rw [rasOf_app (by rw [List.length_append, List.length_append, List.length_append, List.length_append, l]; rfl), rasOf_app (by rw [List.length_append, List.length_append, l]; rfl), rasOf_app (by rfl), e]
  show _ :: (((1, d1, f1) : Ra) :: []) ++ (sa.ras 1 ++ (((1, d2, f2) : Ra) :: [] ++ (sa.ras 1 ++ []))) = ((_ :: ((1, d1, f1) : Ra) :: []) ++ sa.ras 1 ++ [((1, d2, f2) : Ra)]) ++ sa.ras 1
  rw [List.append_nil, List.append_assoc, List.append_assoc]
theorem pr_wok {sa : Tr} {top f1 f2 : Addr} {d1 d2 : Nd} (h1 : LeafOk d1) (h2 : LeafOk d2) (hs : WOk sa) : WOk (tPr sa top f1 f2 d1 d2) := by
  have lf : ∀ {f : Addr} {d : Nd}, LeafOk d → WOk (.mk f d []) := fun {f d} h => ⟨fun z => (by rw [h.leaf] at z; cases z), fun _ => ⟨rfl, h.w0⟩, True.intro⟩
  refine ⟨fun _ => ?_, fun z => (by rw [root_not (.inr (.inr (show (5 : Int) ≠ -1 from by decide)))] at z; cases z), lf h1, hs, lf h2, hs, True.intro⟩
  show d1.wid + d2.wid + 2 * sa.d.wid = d1.wid + (sa.d.wid + (d2.wid + (sa.d.wid + 0)))
  omega
theorem pr_len (sa : Tr) (d1 d2 : Nd) : (rowsPr sa d1 d2).length = 2 * sa.ats.length + 3 := by
  unfold rowsPr
  rw [List.length_append, List.length_append, List.length_append, lift_len]
  show 2 + _ + 1 + _ = _
  omega
theorem pr_alen (sa : Tr) (top f1 f2 : Addr) : (adsPr sa top f1 f2).length = 2 * sa.ats.length + 3 := by
  unfold adsPr
  rw [List.length_append, List.length_append, List.length_append]
  show 2 + _ + 1 + _ = _
  omega
/-- no root among the nodes: nothing asked of it -/
theorem root_none {t : Tr} (h : ∀ x ∈ t.ras 0, x.2.1.kind ≠ "root") : RootOk t := fun x hx hk => by
  refine absurd hk (h (spR 0 x) ?_)
  rw [← spots_ras t 0 0]
  exact List.mem_map.mpr ⟨x, hx, rfl⟩
theorem leaf_noroot {d : Nd} (h : leafB d = true) : d.kind ≠ "root" := fun e => by
  rw [root_not (.inr (.inl e))] at h
  cases h
theorem ras_kind {t : Tr} {p : Nd → Prop} (l l' : Int) (h : ∀ x ∈ t.ras l, p x.2.1) : ∀ x ∈ t.ras l', p x.2.1 := fun x hx => by
  rw [show l' = l + (l' - l) by omega, ras_lift] at hx
  obtain ⟨y, hy, rfl⟩ := List.mem_map.mp hx
  exact h y hy
theorem pr_root {sa : Tr} {top f1 f2 : Addr} {d1 d2 : Nd} (h1 : LeafOk d1) (h2 : LeafOk d2) (hs : ∀ x ∈ sa.ras 0, x.2.1.kind ≠ "root") : RootOk (tPr sa top f1 f2 d1 d2) := by
  refine root_none fun x hx => ?_
  have hs1 := ras_kind (p := fun d => d.kind ≠ "root") 0 1 hs
  have hx : x ∈ ((0, dPr (d1.wid + d2.wid + 2 * sa.d.wid) d1.lead, top) : Ra) :: ((1, d1, f1) : Ra) :: (sa.ras 1 ++ (((1, d2, f2) : Ra) :: (sa.ras 1 ++ []))) := hx
  rcases List.mem_cons.mp hx with rfl | hx
  · show (Str.ofString "pair") ≠ "root"
    decide +kernel
  rcases List.mem_cons.mp hx with rfl | hx
  · exact leaf_noroot h1.leaf
  rcases List.mem_append.mp hx with hx | hx
  · exact hs1 x hx
  rcases List.mem_cons.mp hx with rfl | hx
  · exact leaf_noroot h2.leaf
  rw [List.append_nil] at hx
  exact hs1 x hx

theorem upd_at {H : Hp} {e : Addr} {o : HO} (_ : H e = none) : (upd H e o) e = some o := upd_same
theorem op_catTK {X : Cx} {K : PySem.W.Frag} (h : X.K = K) : OpR X (binaryOp .Add) (rCatT K) := by
  subst h
  exact op_catT
theorem sl_tupK {X : Cx} {K : PySem.W.Frag} (h : X.K = K) : SlR X (rSlT K) := by
  subst h
  exact sl_tup
def spTwice (K : PySem.W.Frag) (C : Addr) : Sp := fun vs H Q _ => ∃ (l m r : Addr) (us : List V) (rows : List Rw) (as : List Addr) (t : Tr) (start : Int) (skip : Nat), vs = [.ref r, .ref l, .ref m, .int start, .int (skip : Int)] ∧ TreeIn K C H l m us rows as t ∧ rows.length ≤ 2110 ∧
  2 * skip + 1 ≤ rows.length ∧ (∀ (k : Nat) (x : Rw), rows[k]? = some x → x.2.kind = "root" → k < skip) ∧ t.d.wid ≤ 20000 ∧ l ≠ r ∧ m ≠ r ∧ ReelAt H r ∧ ∀ H', But r H H' → ReelAt H' r → Q (.bl true) H'
theorem cut_midA {us : List V} {a e : Nat} (he : a + e ≤ us.length) : cutV us (some ((a : Nat) : Int)) (some (((a + e : Nat)) : Int)) = (us.drop a).take e := by
  unfold cutV
  rw [HT.sIx_nat, HT.sIx_nat, Nat.min_eq_left (show a ≤ us.length by omega), Nat.min_eq_left he, show a + e - a = e by omega]
theorem lift_at {sa : Tr} {lv : Int} {prs : List Rw} (h : prs = (sa.ras lv).map fun x => (x.1, x.2.1)) : liftR sa = prs.map fun x => (x.1 - lv + 1, x.2) := by
  unfold liftR
  have e : sa.ras 1 = sa.ras (lv + (1 - lv)) := by rw [show lv + (1 - lv) = 1 by omega]
  rw [h, List.map_map, e, ras_lift, List.map_map]
  refine List.map_congr_left fun x _ => ?_
  show ((x.1 + (1 - lv), x.2.1) : Rw) = (x.1 - lv + 1, x.2.1)
  rw [show x.1 + (1 - lv) = x.1 - lv + 1 by omega]
theorem tups_lst {H : Hp} {D : Addr} {xs : List V} {o : HO} (h : H D = some (.lst xs)) : Tups H (upd H D o) := fun c ys e => by
  rw [upd_ne (fun z => by rw [z, h] at e; cases e)]
  exact e
theorem tail_cut (r : Rw) : cutV (rwV r) (some 1) none = (rwV r).drop 1 := by rfl
theorem ok_twice (T : Txt K mg) : FnOk P w K mg base CX0 10 T.a_law_twice_found T.fd_law_twice_found ["reel", "rows", "made", "start", "skip"] (spTwice K T.C_Node) := by
  have G_law_draw : FnOk P w K mg base CX0 1 T.a_law_draw T.fd_law_draw ["reel", "size"] spDraw := ok_draw T
  have G_law_end : FnOk P w K mg base CX0 1 T.a_law_end T.fd_law_end ["rows", "at"] spEnd := ok_end T
  have G_law_leaf_row : FnOk P w K mg base CX0 4 T.a_law_leaf_row T.fd_law_leaf_row ["reel", "level", "skipped", "slim"] spLeafRow := ok_leaf_row T
  have G_law_made : FnOk P w K mg base CX0 3 T.a_law_made T.fd_law_made ["rows"] (spMade K T.C_Node) := ok_made T
  have G_Node_init : FnOk P w K mg base CX0 1 T.a_Node_init T.fd_Node_init psN (spNInit K T.C_Node) := ok_Node_init T
  have G_law_nodes_found : FnOk P w K mg base CX0 9 T.a_law_nodes_found T.fd_law_nodes_found ["rows", "made", "asked", "start", "reel"] (spNodes K T.C_Node) := ok_nodes T
  have G_law_leaves_found : FnOk P w K mg base CX0 9 T.a_law_leaves_found T.fd_law_leaves_found ["rows", "made", "asked", "at"] (spLeaves K T.C_Node) := ok_leaves T
  have G_law_sources : FnOk P w K mg base CX0 4 T.a_law_sources T.fd_law_sources ["rows", "made", "asked", "reel"] (spSources K T.C_Node) := ok_sources T
  refine T.F_law_twice_found.ok sc_law_twice_found (fun vs H Q E h => ?_) (fun cdv A outer s H vs Q E hr h => ?_)
  · obtain ⟨l, m, r, us, rows, as, t, start, skip, rfl, _⟩ := h
    rfl
  · have hr_law_draw : Room 1 _ := hr.mono (by decide)
    have hr_law_end : Room 1 _ := hr.mono (by decide)
    have hr_law_leaf_row : Room 4 _ := hr.mono (by decide)
    have hr_law_made : Room 3 _ := hr.mono (by decide)
    have hr_Node_init : Room 2 _ := hr.mono (by decide)
    have hr_law_nodes_found : Room 9 _ := hr.mono (by decide)
    have hr_law_leaves_found : Room 9 _ := hr.mono (by decide)
    have hr_law_sources : Room 4 _ := hr.mono (by decide)
    obtain ⟨l, m, r, us, rows, as, t, start, skip, rfl, TI, lrw, lsk, nor, hwid, nl, nm, R, q⟩ := h
    refine ⟨_, (pss_cons (ps_set (i := 5) sc_law_twice_found.nd rfl (.inl rfl) (pe_op op_add (pe_op op_modN (pe_call G_law_draw hr_law_draw (by rfl) T.g_law_draw T.F_law_draw.kp T.b_law_draw .nil pass0 (pa_cons (pv 0) (pa_cons pe_int pa_nil))) (pe_callB (call_max2 rfl) (by rfl) T.m_max (by decide +kernel) (pa_cons pe_int (pa_cons (pe_op op_sub (pe_callB call_len_seq (by rfl) T.m_len PySem.boot_len (pa_cons (pv 1) pa_nil)) (pe_op op_mul pe_int (pv 4))) pa_nil)))) (pv 4)))
      (C8.pss_cut (ps_if (pt_cmpR op_gt (pe_callB call_len_seq (by rfl) T.m_len PySem.boot_len (pa_cons (pv 1) pa_nil)) pe_int (nomark _)) (pss_one (ps_set (i := 5) sc_law_twice_found.nd rfl (.inl rfl) (pe_op op_sub (pe_op op_sub (pe_callB call_len_seq (by rfl) T.m_len PySem.boot_len (pa_cons (pv 1) pa_nil)) pe_int) (pv 4)))) pss_nil)
      (pss_cons (ps_set (i := 6) sc_law_twice_found.nd rfl (.inr rfl) (pe_slice sl_list (pv 1) (po_some (pv 5)) (po_some (pe_call G_law_end hr_law_end (by rfl) T.g_law_end T.F_law_end.kp T.b_law_end .nil pass0 (pa_cons (pv 1) (pa_cons (pv 5) pa_nil))))))
      (pss_cons (ps_setLc (i := 7) (own := [("row", 8)]) (g := gName 8) (by rfl) sc_law_twice_found.nd rfl rfl (sw_true rfl rfl rfl (by decide +kernel)) (pi_list (pv 6)) (blkOk_by (own := [("row", 8)]) (N := ["reel", "rows", "made", "start", "skip", "at", "part", "lifted", "row", "one", "two", "size", "others", "first", "second", "below", "top", "beside", "asked", "k"]) (sc := defScope s_law_twice_found) (by decide +kernel)) (fun _ _ _ _ _ => pg_name (i := 8) sc_law_twice_found.nd rfl (Or.inl rfl)) (fun _ _ _ _ _ => pts_nil) (fun _ _ _ _ _ => (pe_op (op_catTK (K := K) rfl) (pe_tup (pa_cons (pe_op op_add (pe_op op_sub (pe_ix (ix_tupK (K := K) rfl) (pv 8) pe_int (fun _ _ => rfl)) (pe_ix (ix_tupK (K := K) rfl) (pe_ix (ix_listK (K := K) rfl) (pv 6) pe_int (fun _ _ => rfl)) pe_int (fun _ _ => rfl))) pe_int) pa_nil)) (pe_slice (sl_tupK (K := K) rfl) (pv 8) (po_some pe_int) po_none))))
      (pss_cons (ps_set (i := 9) sc_law_twice_found.nd rfl (.inl rfl) (pe_call G_law_leaf_row hr_law_leaf_row (by rfl) T.g_law_leaf_row T.F_law_leaf_row.kp T.b_law_leaf_row .nil pass0 (pa_cons (pv 0) (pa_cons pe_int (pa_cons pe_bl (pa_cons pe_bl pa_nil))))))
      (pss_cons (ps_set (i := 10) sc_law_twice_found.nd rfl (.inl rfl) (pe_call G_law_leaf_row hr_law_leaf_row (by rfl) T.g_law_leaf_row T.F_law_leaf_row.kp T.b_law_leaf_row .nil pass0 (pa_cons (pv 0) (pa_cons pe_int (pa_cons pe_bl (pa_cons pe_bl pa_nil))))))
      (pss_cons (ps_set (i := 11) sc_law_twice_found.nd rfl (.inl rfl) (pe_op op_add (pe_op op_add (pe_ix ix_tup (pv 9) pe_int (fun _ _ => rfl)) (pe_ix ix_tup (pv 10) pe_int (fun _ _ => rfl))) (pe_op op_mul pe_int (pe_ix ix_tup (pe_ix ix_list (pv 6) pe_int (fun _ _ => rfl)) pe_int (fun _ _ => rfl)))))
      (C8.pss_cut (ps_set (i := 12) sc_law_twice_found.nd rfl (.inl rfl) (pe_op op_cat (pe_op op_cat (pe_op op_cat (pe_lst (pa_cons (pe_tup (pa_cons pe_int (pa_cons pe_str (pa_cons pe_str (pa_cons pe_int (pa_cons (pe_ix ix_tup (pv 9) pe_int (fun _ _ => rfl)) (pa_cons (pv 11) (pa_cons pe_int (pa_cons pe_int (pa_cons pe_int pa_nil)))))))))) (pa_cons (pv 9) pa_nil))) (pv 7)) (pe_lst (pa_cons (pv 10) pa_nil))) (pv 7)))
      (pss_cons (ps_set (i := 13) sc_law_twice_found.nd rfl (.inl rfl) (pe_ix ix_list (pe_call G_law_made hr_law_made (by rfl) T.g_law_made T.F_law_made.kp T.b_law_made .nil pass0 (pa_cons (pe_lst (pa_cons (pe_op op_catT (pe_tup (pa_cons pe_int pa_nil)) (pe_slice sl_tup (pv 9) (po_some pe_int) po_none)) pa_nil)) pa_nil)) pe_int (fun _ _ => rfl)))
      (pss_cons (ps_set (i := 14) sc_law_twice_found.nd rfl (.inl rfl) (pe_ix ix_list (pe_call G_law_made hr_law_made (by rfl) T.g_law_made T.F_law_made.kp T.b_law_made .nil pass0 (pa_cons (pe_lst (pa_cons (pe_op op_catT (pe_tup (pa_cons pe_int pa_nil)) (pe_slice sl_tup (pv 10) (po_some pe_int) po_none)) pa_nil)) pa_nil)) pe_int (fun _ _ => rfl)))
      (pss_cons (ps_set (i := 15) sc_law_twice_found.nd rfl (.inl rfl) (pe_tup (pa_cons (pv 13) (pa_cons (pe_ix ix_list (pv 2) (pv 5) (fun _ _ => rfl)) (pa_cons (pv 14) (pa_cons (pe_ix ix_list (pv 2) (pv 5) (fun _ _ => rfl)) pa_nil))))))
      (C8.pss_cut (ps_set (i := 16) sc_law_twice_found.nd rfl (.inl rfl) (pe_makeK (n := 2) T.MK_Node G_Node_init hr_Node_init (by rfl) T.G_Node (kb_Node6 T).choose_spec pass0 (pa_cons pe_str (pa_cons pe_str pa_nil)) (pk_cons pe_int (pk_cons (pe_ix ix_tup (pv 9) pe_int (fun _ _ => rfl)) (pk_cons (pv 11) (pk_cons pe_int (pk_cons pe_int (pk_cons (pv 15) pk_nil))))))))
      (pss_cons (ps_set (i := 17) sc_law_twice_found.nd rfl (.inl rfl) (pe_op op_cat (pe_op op_cat (pe_op op_cat (pe_lst (pa_cons (pv 16) (pa_cons (pv 13) pa_nil))) (pe_slice sl_list (pv 2) (po_some (pv 5)) (po_some (pe_op op_add (pv 5) (pe_callB call_len_seq (by rfl) T.m_len PySem.boot_len (pa_cons (pv 6) pa_nil)))))) (pe_lst (pa_cons (pv 14) pa_nil))) (pe_slice sl_list (pv 2) (po_some (pv 5)) (po_some (pe_op op_add (pv 5) (pe_callB call_len_seq (by rfl) T.m_len PySem.boot_len (pa_cons (pv 6) pa_nil)))))))
      (pss_cons (ps_setLc (i := 18) (own := [("k", 19)]) (g := gName 19) (by rfl) sc_law_twice_found.nd rfl rfl (sw_true rfl rfl rfl (by decide +kernel)) (pi_range1 (by rfl) T.m_range (pa_cons (pe_callB call_len_seq (by rfl) T.m_len PySem.boot_len (pa_cons (pv 12) pa_nil)) pa_nil)) (blkOk_by (own := [("k", 19)]) (N := ["reel", "rows", "made", "start", "skip", "at", "part", "lifted", "row", "one", "two", "size", "others", "first", "second", "below", "top", "beside", "asked", "k"]) (sc := defScope s_law_twice_found) (by decide +kernel)) (fun _ _ _ _ _ => pg_name (i := 19) sc_law_twice_found.nd rfl (Or.inl rfl)) (fun _ _ _ _ _ => pts_nil) (fun _ _ _ _ _ => (pv 19)))
      (pss_cons (ps_if (pt_not (pt_val (pe_call G_law_nodes_found hr_law_nodes_found (by rfl) T.g_law_nodes_found T.F_law_nodes_found.kp T.b_law_nodes_found .nil pass0 (pa_cons (pv 12) (pa_cons (pv 17) (pa_cons (pv 18) (pa_cons (pv 3) (pa_cons (pv 0) pa_nil)))))))) (pss_one (ps_ret pe_bl)) pss_nil)
      (pss_one (ps_ret (pe_and (pe_call G_law_leaves_found hr_law_leaves_found (by rfl) T.g_law_leaves_found T.F_law_leaves_found.kp T.b_law_leaves_found .nil pass0 (pa_cons (pv 12) (pa_cons (pv 17) (pa_cons (pv 18) (pa_cons pe_int pa_nil))))) (pe_one (pe_call G_law_sources hr_law_sources (by rfl) T.g_law_sources T.F_law_sources.kp T.b_law_sources .nil pass0 (pa_cons (pv 12) (pa_cons (pv 17) (pa_cons (pv 18) (pa_cons (pv 0) pa_nil)))))))))))))))))))))))), ?_⟩
    have big : sizeLine = 2 ^ 24 := rfl
    have lu := paired_len TI.rws.row
    refine ⟨_, rfl, r, 1000, rfl, R, by decide, fun v H1 v0 v1 b1 R1 => ?_⟩
    have TI1 := TI.but b1 R nl nm
    refine ⟨_, rfl, l, us, rfl, .inl (SqL.of TI1.rws.lst), _, rfl, _, _, rfl, rfl, .inl ⟨by decide, by decide⟩, _, _, rfl, rfl, 1, _, rfl, ?_⟩
    obtain ⟨N, hN, N0, N1⟩ : ∃ N : Int, N = (if (us.length : Int) - 2 * (skip : Int) > 1 then (us.length : Int) - 2 * (skip : Int) else 1) ∧ 0 < N ∧ N ≤ (us.length : Int) - 2 * (skip : Int) := by
      refine ⟨_, rfl, ?_⟩
      split <;> omega
    rw [← hN]
    have f0 := Int.fmod_nonneg_of_pos v N0
    have f1 := Int.fmod_lt_of_pos v N0
    refine ⟨_, _, rfl, rfl, by show N ≠ 0; omega, ?_⟩
    refine ⟨_, rfl, _, _, rfl, rfl, ?_⟩
    refine ⟨fun σ H' => H' = H1 ∧ ∃ a : Nat, skip ≤ a ∧ a < rows.length ∧ σ = [some (.ref r), some (.ref l), some (.ref m), some (.int start), some (.int (skip : Int)), some (.int (a : Int)), none, none, none, none, none, none, none, none, none, none, none, none, none, none], ?_, ?_⟩
    · refine ⟨_, rfl, l, us, rfl, .inl (SqL.of TI1.rws.lst), _, _, rfl, rfl, _, rfl, ite2 (fun _ => ?_) (fun _ => ?_)⟩
      · refine ⟨_, rfl, l, us, rfl, .inl (SqL.of TI1.rws.lst), _, _, rfl, rfl, _, rfl, _, _, rfl, rfl, rfl, us.length - 1 - skip, by omega, by omega, ?_⟩
        rw [show ((us.length - 1 - skip : Nat) : Int) = (us.length : Int) - 1 - (skip : Int) by omega]
        rfl
      · refine ⟨rfl, (v.fmod N).toNat + skip, by omega, by omega, ?_⟩
        rw [show (((v.fmod N).toNat + skip : Nat) : Int) = v.fmod N + (skip : Int) by omega]
        rfl
    rintro σ H1' ⟨rfl, a, ha1, ha2, rfl⟩
    obtain ⟨pa, sa, hpa, hsa, hasa, hrowa⟩ := TI.spot 0 ha2
    refine ⟨_, rfl, _, rfl, _, rfl, _, rfl, _, rfl, l, us, rows, a, rfl, TI1.rws, by omega, ha2, fun e he => ⟨_, rfl, l, us, rfl, SqL.of TI1.rws.lst, fun pt npt => ?_⟩⟩
    have PA := TI.part he hsa
    obtain ⟨n, hn⟩ : ∃ n, n = sa.ats.length := ⟨_, rfl⟩
    have n1 : 0 < n := by
      rw [hn]
      cases sa
      exact Nat.succ_pos _
    obtain ⟨pe, ple, prs, pas⟩ := PA
    rw [← hn] at pe ple prs pas
    subst pe
    rw [cut_midA (by omega)]
    obtain ⟨pus, hpus⟩ : ∃ pus, pus = (us.drop a).take n := ⟨_, rfl⟩
    obtain ⟨prw, hprw⟩ : ∃ prw, prw = (rows.drop a).take n := ⟨_, rfl⟩
    rw [← hpus]
    rw [← hprw] at prs
    have pp1 : Paired (RwAt H1') pus prw := by
      rw [hpus, hprw]
      exact paired_take _ (paired_drop _ TI1.rws.row)
    have lpu : pus.length = n := by rw [hpus, List.length_take, List.length_drop]; omega
    have lpr : prw.length = n := by rw [hprw, List.length_take, List.length_drop]; omega
    have s2 := same_upd (o := .lst pus) npt
    have hpt : (upd H1' pt (.lst pus)) pt = some (.lst pus) := upd_same
    obtain ⟨H2, hH2⟩ : ∃ H2, H2 = upd H1' pt (.lst pus) := ⟨_, rfl⟩
    rw [← hH2] at s2 hpt ⊢
    have pp2 : Paired (RwAt H2) pus prw := Paired.mapP pp1 fun _ _ x => x.tups fun b xs e => s2 b _ e
    have b2 := b1.trans (.of s2)
    have R2 := R1.same s2
    have TI2 := TI1.same s2
    have hpr0 : prw[0]? = some ((((pa.length : Nat) : Int), sa.d) : Rw) := by
      rw [prs]
      cases sa
      rfl
    obtain ⟨v0', hv0, g0, rfl, hg0⟩ := paired_get pp2 hpr0
    refine ⟨_, rfl, pt, rfl, ⟨_, SqL.of hpt⟩, fun D nD => ?_⟩
    have hDp : D ≠ pt := (ne_of_none hpt nD).symm
    have hLR := lift_at prs
    have lLR : (liftR sa).length = n := by rw [lift_len, hn]
    refine lc_list (K := K) (a := pt) (xs := pus) (fun j H' => Same H2 H' ∧ ∃ vs, H' D = some (.lst vs) ∧ vs.length = j ∧ Paired (RwAt H') vs ((liftR sa).take j)) ⟨same_upd nD, [], upd_same, rfl, .nil⟩ (fun j H' _ ⟨s, _⟩ => SqL.of (s _ _ hpt)) ?_ ?_
    · rintro j v H4 hv ⟨s4, vs, hD, lvs, pv⟩
      have hj : j < n := by
        rw [← lpu]
        exact (List.getElem?_eq_some_iff.mp hv).1
      obtain ⟨rj, hrj⟩ : ∃ x, prw[j]? = some x := ⟨_, List.getElem?_eq_getElem (by rw [lpr]; exact hj)⟩
      obtain ⟨v', hv', g, rfl, hg⟩ := paired_get pp2 hrj
      obtain rfl : v = .ref g := Option.some.inj (hv.symm.trans hv')
      have hLj : (liftR sa)[j]? = some ((rj.1 - ((pa.length : Nat) : Int) + 1, rj.2) : Rw) := by
        rw [hLR, List.getElem?_map, hrj]
        rfl
      have hg4 := s4 _ _ hg
      have ncut : ¬ (HT.sIx (rwV rj).length 0 (some 1) = 0 ∧ HT.sIx (rwV rj).length (rwV rj).length none = (rwV rj).length) := fun z => by
        have := z.1
        rw [show (1 : Int) = ((1 : Nat) : Int) from rfl, HT.sIx_nat] at this
        have l9 : (rwV rj).length = 9 := rfl
        omega
      refine ⟨rfl, _, rfl, g, _, 0, .int rj.1, rfl, rfl, SqT.of hg4, rfl, _, rfl, pt, _, 0, .ref g0, rfl, rfl, SqL.of (s4 _ _ hpt), atI_nat (j := 0) hv0, g0, _, 0, .int ((pa.length : Nat) : Int), rfl, rfl, SqT.of (s4 _ _ hg0), rfl, _, _, rfl, rfl, _, _, rfl, rfl, by show 1 ≤ sizeLine; decide, fun p1 np1 => ?_⟩
      have t1 := same_upd (o := .tup [.int (rj.1 - ((pa.length : Nat) : Int) + 1)]) np1
      refine ⟨_, rfl, _, rfl, no_part ⟨g, _, rfl, SqT.of (t1 _ _ hg4), ncut, fun p2 np2 => ?_⟩⟩
      have t2 := same_upd (o := .tup (cutV (rwV rj) (some 1) none)) np2
      refine ⟨p1, p2, _, _, rfl, rfl, SqT.of (t2 _ _ (upd_same (o := .tup [.int (rj.1 - ((pa.length : Nat) : Int) + 1)]))), SqT.of upd_same, List.cons_ne_nil _ _, by show 1 + 8 ≤ sizeLine; decide, (fun z => by cases z), fun _ p3 np3 => ?_⟩
      have t3 := same_upd (o := .tup (rwV (rj.1 - ((pa.length : Nat) : Int) + 1, rj.2))) np3
      have t13 := (t1.trans t2).trans t3
      refine ⟨vs, t13 _ _ hD, sz2 (by omega), ?_⟩
      have hD7 := t13 _ _ hD
      refine ⟨same_mut (s4.trans t13) nD, vs ++ [.ref p3], upd_same, by rw [List.length_append, lvs]; rfl, ?_⟩
      rw [takeN hLj]
      have tu : Tups H4 _ := Tups.trans (fun b xs e => t13 b _ e) (tups_lst (o := .lst (vs ++ [.ref p3])) hD7)
      refine paired_app (Paired.mapP pv fun _ _ x => x.tups tu) (.cons ⟨p3, rfl, tups_lst hD7 _ _ upd_same⟩ .nil)
    rintro H5 ⟨s5, vs, hD, lvs, pv⟩
    rw [lpu, ← lLR, List.take_length] at pv
    rw [lpu] at lvs
    have b5 := b2.trans (.of s5)
    have R5 := R2.same s5
    have nDr : D ≠ r := (R2.ne nD).symm
    have nptr : pt ≠ r := (R1.ne npt).symm
    refine ⟨_, rfl, r, 1, false, false, rfl, R5, fun v1 d1 H6 hv1 lo1 b6 R6 => ⟨_, rfl, r, 1, false, false, rfl, R6, fun v2 d2 H7 hv2 lo2 b7 R7 => ?_⟩⟩
    obtain ⟨g1, rfl, hg1⟩ := hv1
    obtain ⟨g2, rfl, hg2⟩ := hv2
    have hg17 := b7.tups R6 _ _ hg1
    have b57 := b6.trans b7
    have hpt7 := b57 _ _ nptr (s5 _ _ hpt)
    have hg07 := b57.tups R5 _ _ (s5 _ _ hg0)
    have hD7 := b57 _ _ nDr hD
    have pv7 : Paired (RwAt H7) vs (liftR sa) := Paired.mapP pv fun _ _ x => x.tups (b57.tups R5)
    have bT := b5.trans b57
    clear hD hg1 hpt hg0 pv pp1 pp2 hLR b6 b7 R6 b1
    refine ⟨_, rfl, g1, _, 5, .int d1.wid, rfl, rfl, SqT.of hg17, rfl, _, rfl, g2, _, 5, .int d2.wid, rfl, rfl, SqT.of hg2, rfl, _, _, rfl, rfl, _, rfl, pt, _, 0, .ref g0, rfl, rfl, SqL.of hpt7, atI_nat (j := 0) hv0, g0, _, 5, .int sa.d.wid, rfl, rfl, SqT.of hg07, rfl, _, _, rfl, rfl, .inl ⟨by decide, by decide⟩, _, _, rfl, rfl, ?_⟩
    refine ⟨fun σ H' => But r H H' ∧ ReelAt H' r ∧ ∃ (o5 : Addr) (us' : List V), σ = [some (.ref r), some (.ref l), some (.ref m), some (.int start), some (.int (skip : Int)), some (.int (a : Int)), some (.ref pt), some (.ref D), none, some (.ref g1), some (.ref g2), some (.int (d1.wid + d2.wid + 2 * sa.d.wid)), some (.ref o5), none, none, none, none, none, none, none] ∧
      RowsIn H' o5 us' (rowsPr sa d1 d2) ∧ H' g1 = some (.tup (rwV (1, d1))) ∧ H' g2 = some (.tup (rwV (1, d2))) ∧ H' pt = some (.lst pus) ∧ o5 ≠ r, ?_, ?_⟩
    · refine ⟨_, rfl, g1, _, 4, .int d1.lead, rfl, rfl, SqT.of hg17, rfl, _, rfl, by show 9 ≤ sizeLine; decide, fun gt ngt => ⟨_, rfl, by show 2 ≤ sizeLine; decide, fun o1 no1 => ?_⟩⟩
      have t1 := same_upd (o := .tup (rwV (0, dPr (d1.wid + d2.wid + 2 * sa.d.wid) d1.lead))) ngt
      have t2 := same_upd (o := .lst [.ref gt, .ref g1]) no1
      have t12 := t1.trans t2
      refine ⟨_, rfl, o1, D, _, _, rfl, rfl, upd_same, t12 _ _ hD7, szM (by rw [lvs]; show 2 + n ≤ _; omega), fun o2 no2 => ?_⟩
      have t3 := same_upd (o := .lst ([.ref gt, .ref g1] ++ vs)) no2
      refine ⟨_, rfl, by show 1 ≤ sizeLine; decide, fun o3 no3 => ?_⟩
      have t4 := same_upd (o := .lst [.ref g2]) no3
      refine ⟨o2, o3, _, _, rfl, rfl, t4 _ _ upd_same, upd_same, szM (by rw [List.length_append, lvs]; show 2 + n + 1 ≤ _; omega), fun o4 no4 => ?_⟩
      have t5 := same_upd (o := .lst ([.ref gt, .ref g1] ++ vs ++ [.ref g2])) no4
      have t15 := ((t12.trans t3).trans t4).trans t5
      refine ⟨_, rfl, o4, D, _, _, rfl, rfl, upd_same, t15 _ _ hD7, szM (by rw [List.length_append, List.length_append, lvs]; show 2 + n + 1 + n ≤ _; omega), fun o5 no5 => ?_⟩
      have t6 := same_upd (o := .lst ([.ref gt, .ref g1] ++ vs ++ [.ref g2] ++ vs)) no5
      have t16 := t15.trans t6
      have R8 := R7.same t15
      have hgt := t6 _ _ (t5 _ _ (t4 _ _ (t3 _ _ (t2 _ _ (upd_same (a := gt) (o := .tup (rwV (0, dPr (d1.wid + d2.wid + 2 * sa.d.wid) d1.lead))))))))
      have pv8 := Paired.mapP pv7 fun _ _ x => x.tups fun b xs e => t16 b _ e
      refine ⟨bT.trans (.of t16), R8.same t6, o5, _, rfl, ⟨upd_same, ?_⟩, t16 _ _ hg17, t16 _ _ hg2, t16 _ _ hpt7, (R8.ne no5).symm⟩
      exact paired_app (paired_app (paired_app (.cons ⟨gt, rfl, hgt⟩ (.cons ⟨g1, rfl, t16 _ _ hg17⟩ .nil)) pv8) (.cons ⟨g2, rfl, t16 _ _ hg2⟩ .nil)) pv8
    rintro σ H8 ⟨b8, R8, o5, us', rfl, RI, hg18, hg28, hpt8, no5r⟩
    clear hg17 hg2 hpt7 hg07 hD7 pv7 bT b57 R7 R5 b5
    have lev0 : ∀ d : Nd, Lev (([(0, d)] : List Rw).map Prod.fst) := fun d => ⟨[], rfl, fun x hx => absurd hx List.not_mem_nil, True.intro⟩
    have ncut : ∀ rj : Rw, ¬ (HT.sIx (rwV rj).length 0 (some 1) = 0 ∧ HT.sIx (rwV rj).length (rwV rj).length none = (rwV rj).length) := fun rj z => by
      have := z.1
      rw [show (1 : Int) = ((1 : Nat) : Int) from rfl, HT.sIx_nat] at this
      have l9 : (rwV rj).length = 9 := rfl
      omega
    refine ⟨by show 1 ≤ sizeLine; decide, fun q1 nq1 => ?_⟩
    have t1 := same_upd (o := .tup [.int 0]) nq1
    refine ⟨_, rfl, _, rfl, no_part ⟨g1, _, rfl, SqT.of (t1 _ _ hg18), ncut _, fun q2 nq2 => ?_⟩⟩
    have t2 := same_upd (o := .tup (cutV (rwV (1, d1)) (some 1) none)) nq2
    refine ⟨q1, q2, _, _, rfl, rfl, SqT.of (t2 _ _ upd_same), SqT.of upd_same, List.cons_ne_nil _ _, by show 1 + 8 ≤ sizeLine; decide, (fun z => by cases z), fun _ q3 nq3 => ⟨by show 1 ≤ sizeLine; decide, fun q4 nq4 => ?_⟩⟩
    have t3 := same_upd (o := .tup (rwV (0, d1))) nq3
    have t4 := same_upd (o := .lst [.ref q3]) nq4
    refine ⟨q4, [(0, d1)], rfl, ⟨⟨_, upd_same, .cons ⟨q3, rfl, t4 _ _ upd_same⟩ .nil⟩, lev0 d1, True.intro⟩, by show 1 ≤ 5000; decide, fun m1 as1 tr1 H9 s9 nm1 hm1 las1 hras1 nt1 => ?_⟩
    obtain ⟨f1, rfl⟩ := List.length_eq_one_iff.mp las1
    obtain rfl : tr1 = .mk f1 d1 [] := ras_one hras1
    refine ⟨m1, _, 0, .ref f1, rfl, rfl, SqL.of hm1, atI_nat (j := 0) rfl, ?_⟩
    have t89 := (((t1.trans t2).trans t3).trans t4).trans s9
    have hg29 := t89 _ _ hg28
    clear t1 t2 t3 t4 s9
    refine ⟨by show 1 ≤ sizeLine; decide, fun q1 nq1 => ?_⟩
    have t1 := same_upd (o := .tup [.int 0]) nq1
    refine ⟨_, rfl, _, rfl, no_part ⟨g2, _, rfl, SqT.of (t1 _ _ hg29), ncut _, fun q2 nq2 => ?_⟩⟩
    have t2 := same_upd (o := .tup (cutV (rwV (1, d2)) (some 1) none)) nq2
    refine ⟨q1, q2, _, _, rfl, rfl, SqT.of (t2 _ _ upd_same), SqT.of upd_same, List.cons_ne_nil _ _, by show 1 + 8 ≤ sizeLine; decide, (fun z => by cases z), fun _ q3 nq3 => ⟨by show 1 ≤ sizeLine; decide, fun q4 nq4 => ?_⟩⟩
    have t3 := same_upd (o := .tup (rwV (0, d2))) nq3
    have t4 := same_upd (o := .lst [.ref q3]) nq4
    refine ⟨q4, [(0, d2)], rfl, ⟨⟨_, upd_same, .cons ⟨q3, rfl, t4 _ _ upd_same⟩ .nil⟩, lev0 d2, True.intro⟩, by show 1 ≤ 5000; decide, fun m2 as2 tr2 H10 s10 nm2 hm2 las2 hras2 nt2 => ?_⟩
    obtain ⟨f2, rfl⟩ := List.length_eq_one_iff.mp las2
    obtain rfl : tr2 = .mk f2 d2 [] := ras_one hras2
    refine ⟨m2, _, 0, .ref f2, rfl, rfl, SqL.of hm2, atI_nat (j := 0) rfl, ?_⟩
    have t910 := (((t1.trans t2).trans t3).trans t4).trans s10
    clear t1 t2 t3 t4 s10 nq1 nq2 nq3 nq4 hg29
    have t810 := t89.trans t910
    have b10 := b8.trans (.of t810)
    have R10 := R8.same t810
    have TI10 := TI.but b10 R nl nm
    have hma : (as.map V.ref)[a]? = some (.ref sa.at) := by rw [List.getElem?_map, hasa]; rfl
    have hfa := spots_follow (List.mem_of_getElem? hsa)
    have nsa : NodeAt K T.C_Node H10 sa := follow_node TI10.nd hfa
    have nf1 := nt1.keep (Keeps.of t910)
    have hg110 := t810 _ _ hg18
    refine ⟨_, rfl, _, rfl, _, rfl, m, _, _, .ref sa.at, rfl, rfl, SqL.of TI10.mds, atI_nat hma, _, rfl, _, rfl, _, rfl, m, _, _, .ref sa.at, rfl, rfl, SqL.of TI10.mds, atI_nat hma, by show 4 ≤ sizeLine; decide, fun bt nbt => ⟨fun σ H' => But r H H' ∧ ReelAt H' r ∧ ∃ tp : Addr, σ = [some (.ref r), some (.ref l), some (.ref m), some (.int start), some (.int (skip : Int)), some (.int (a : Int)), some (.ref pt), some (.ref D), none, some (.ref g1), some (.ref g2), some (.int (d1.wid + d2.wid + 2 * sa.d.wid)), some (.ref o5), some (.ref f1), some (.ref f2), some (.ref bt), some (.ref tp), none, none, none] ∧
      RowsIn H' o5 us' (rowsPr sa d1 d2) ∧ H' pt = some (.lst pus) ∧ NodeAt K T.C_Node H' (tPr sa tp f1 f2 d1 d2), ?_, ?_⟩⟩
    · refine ⟨_, rfl, g1, _, 4, .int d1.lead, rfl, rfl, SqT.of (same_upd nbt _ _ hg110), rfl, _, rfl, _, rfl, rfl, rfl, fun tp dx ntp ndx hne => ?_⟩
      have su1 := same_upd (o := .tup [.ref f1, .ref sa.at, .ref f2, .ref sa.at]) nbt
      have hbt : (upd H10 bt (.tup [.ref f1, .ref sa.at, .ref f2, .ref sa.at])) bt = some (.tup [.ref f1, .ref sa.at, .ref f2, .ref sa.at]) := upd_same
      obtain ⟨Ha, hHa⟩ : ∃ Ha, Ha = upd H10 bt (.tup [.ref f1, .ref sa.at, .ref f2, .ref sa.at]) := ⟨_, rfl⟩
      rw [← hHa] at su1 hbt ntp ndx ⊢
      have sv1 : Same Ha (upd (upd Ha dx (.own tp)) tp (.ins T.C_Node dx [])) := (same_upd ndx).trans (same_upd (by rw [upd_ne hne.symm]; exact ntp))
      have sw1 : Same Ha (upd (upd (upd Ha dx (.own tp)) tp (.ins T.C_Node dx [])) tp (.ins T.C_Node dx (nfl (dPr (d1.wid + d2.wid + 2 * sa.d.wid) d1.lead) bt))) := by
        rw [upd_upd]
        exact (same_upd ndx).trans (same_upd (by rw [upd_ne hne.symm]; exact ntp))
      refine ⟨tp, dx, bt, dPr (d1.wid + d2.wid + 2 * sa.d.wid) d1.lead, [.ref f1, .ref sa.at, .ref f2, .ref sa.at], upd_same, rfl, .inl ⟨SqT.of (sv1 _ _ hbt), rfl, ?_⟩⟩
      have htp : (upd (upd (upd Ha dx (.own tp)) tp (.ins T.C_Node dx [])) tp (.ins T.C_Node dx (nfl (dPr (d1.wid + d2.wid + 2 * sa.d.wid) d1.lead) bt))) tp = some (.ins T.C_Node dx (nfl (dPr (d1.wid + d2.wid + 2 * sa.d.wid) d1.lead) bt)) := upd_same
      have hbt' := sw1 _ _ hbt
      have t1011 := su1.trans sw1
      have nod : NodeAt K T.C_Node _ (tPr sa tp f1 f2 d1 d2) := ⟨⟨dx, bt, htp, SqT.of hbt'⟩, nf1.keep (Keeps.of t1011), nsa.keep (Keeps.of t1011), nt2.keep (Keeps.of t1011), nsa.keep (Keeps.of t1011), True.intro⟩
      have t811 := t810.trans t1011
      exact ⟨b8.trans (.of t811), R8.same t811, tp, rfl, RI.same t811, t811 _ _ hpt8, nod⟩
    clear b10 R10 TI10 nsa nf1 hg110 t810 t910 t89 nt1 nt2 nbt b8 R8 hg18 hg28 hpt8 RI
    rintro σ H12 ⟨b12, R12, tp, rfl, RI, hpt12, nod⟩
    have TI12 := TI.but b12 R nl nm
    have lcu : us.length = rows.length := lu
    have ec : cutV (as.map V.ref) (some ((a : Nat) : Int)) (some (((a : Nat) : Int) + ((pus.length : Nat) : Int))) = sa.ats.map V.ref := by
      rw [lpu, show ((a : Nat) : Int) + ((n : Nat) : Int) = (((a + n : Nat)) : Int) by omega, cut_midA (by rw [List.length_map, TI.len]; omega), ← List.map_drop, ← List.map_take, pas]
    obtain ⟨cu, hcu⟩ : ∃ cu, cu = cutV (as.map V.ref) (some ((a : Nat) : Int)) (some (((a : Nat) : Int) + ((pus.length : Nat) : Int))) := ⟨_, rfl⟩
    have lcn : cu.length = n := by rw [hcu, ec, List.length_map, hn]
    have hm12 := TI12.mds
    refine ⟨_, rfl, _, rfl, by show 2 ≤ sizeLine; decide, fun e1 ne1 => ?_⟩
    have u1 := same_upd (o := .lst [.ref tp, .ref f1]) ne1
    refine ⟨_, rfl, _, rfl, _, rfl, _, rfl, _, rfl, pt, pus, rfl, .inl (SqL.of (u1 _ _ hpt12)), _, _, rfl, rfl, _, rfl, m, _, rfl, SqL.of (u1 _ _ hm12), fun e2 ne2 => ?_⟩
    rw [← hcu] at ec ⊢
    have u2 := same_upd (o := .lst cu) ne2
    refine ⟨e1, e2, _, _, rfl, rfl, u2 _ _ upd_same, upd_same, szM (by rw [lcn]; show 2 + n ≤ _; omega), fun e3 ne3 => ?_⟩
    have u3 := same_upd (o := .lst ([.ref tp, .ref f1] ++ cu)) ne3
    refine ⟨_, rfl, by show 1 ≤ sizeLine; decide, fun e4 ne4 => ?_⟩
    have u4 := same_upd (o := .lst [.ref f2]) ne4
    refine ⟨e3, e4, _, _, rfl, rfl, u4 _ _ upd_same, upd_same, szM (by rw [List.length_append, lcn]; show 2 + n + 1 ≤ _; omega), fun e5 ne5 => ?_⟩
    have u5 := same_upd (o := .lst ([.ref tp, .ref f1] ++ cu ++ [.ref f2])) ne5
    have u15 := (((u1.trans u2).trans u3).trans u4).trans u5
    refine ⟨_, rfl, _, rfl, _, rfl, _, rfl, _, rfl, pt, pus, rfl, .inl (SqL.of (u15 _ _ hpt12)), _, _, rfl, rfl, _, rfl, m, _, rfl, SqL.of (u15 _ _ hm12), fun e6 ne6 => ?_⟩
    rw [← hcu]
    have u6 := same_upd (o := .lst cu) ne6
    refine ⟨e5, e6, _, _, rfl, rfl, u6 _ _ upd_same, upd_same, szM (by rw [List.length_append, List.length_append, lcn]; show 2 + n + 1 + n ≤ _; omega), fun e7 ne7 => ?_⟩
    have u7 := same_upd (o := .lst ([.ref tp, .ref f1] ++ cu ++ [.ref f2] ++ cu)) ne7
    have u17 := (u15.trans u6).trans u7
    have he7 := upd_at (o := .lst ([.ref tp, .ref f1] ++ cu ++ [.ref f2] ++ cu)) ne7
    have RI19 := RI.same u17
    have lus := paired_len RI.row
    rw [pr_len] at lus
    refine ⟨_, rfl, o5, us', rfl, .inl (SqL.of RI19.lst), _, rfl, by omega, by omega, fun ak nak => ?_⟩
    have R19 := R12.same u17
    have nakr : ak ≠ r := (R19.ne nak).symm
    have ne7r : e7 ≠ r := ((R12.same (u15.trans u6)).ne ne7).symm
    refine lc_range (lo := 0) (n := ((us'.length : Nat) : Int).toNat) (fun i H' => Same _ H' ∧ H' ak = some (.lst ((natsZ (List.range i)).map V.int))) ⟨same_upd nak, upd_same⟩ ?_ ?_
    · rintro i H20 hi ⟨s20, hak⟩
      refine ⟨rfl, _, rfl, _, hak, sz2 (by rw [List.length_map, natsZ_len, List.length_range]; omega), same_mut s20 nak, ?_⟩
      rw [upd_same, List.range_succ, show (0 : Int) + (i : Int) = (i : Int) by omega]
      unfold natsZ
      rw [List.map_append, List.map_append]
      rfl
    rintro H20 ⟨s20, hak⟩
    rw [show ((us'.length : Nat) : Int).toNat = us'.length by omega] at hak
    have s220 := u17.trans s20
    have b20 := b12.trans (.of s220)
    have R20 := R12.same s220
    have lsa : n ≤ rows.length := by omega
    have wsa : WOk sa := spots_wok (x := (pa, sumTo 0 rows a, sa)) TI.wok (List.mem_of_getElem? hsa)
    have win := spots_in (x := (pa, sumTo 0 rows a, sa)) TI.wok (List.mem_of_getElem? hsa)
    have win1 : 0 ≤ sumTo 0 rows a := win.1
    have win2 : sumTo 0 rows a + sa.d.wid ≤ 0 + t.d.wid := win.2
    have TIo : TreeIn K T.C_Node H20 o5 e7 us' (rowsPr sa d1 d2) (adsPr sa tp f1 f2) (tPr sa tp f1 f2 d1 d2) := by
      refine ⟨RI.same s220, ?_, by rw [pr_len, pr_alen], pr_ras sa tp f1 f2 d1 d2, nod.keep (Keeps.of s220), pr_wok lo1 lo2 wsa, by rw [pr_len]; omega⟩
      rw [s20 _ _ he7, ec]
      unfold adsPr
      rw [List.map_append, List.map_append, List.map_append]
      rfl
    have hwo : (tPr sa tp f1 f2 d1 d2).d.wid ≤ 45000 := by
      show d1.wid + d2.wid + 2 * sa.d.wid ≤ 45000
      have := lo1.w9
      have := lo2.w9
      omega
    have hask : ∀ k ∈ List.range us'.length, k < (rowsPr sa d1 d2).length := fun k hk => by
      rw [pr_len, ← lus]
      exact List.mem_range.mp hk
    refine ⟨_, rfl, _, rfl, _, rfl, _, rfl, _, rfl, o5, e7, ak, r, us', rowsPr sa d1 d2, adsPr sa tp f1 f2, tPr sa tp f1 f2 d1 d2, List.range us'.length, start, rfl, TIo, hak, hask, no5r, ne7r, nakr, R20, fun H21 b21 R21 => ⟨true, rfl, iteF ?_⟩⟩
    have TI21 := TIo.but b21 R20 no5r ne7r
    have hak21 := b21 _ _ nakr hak
    have nosa : ∀ x ∈ sa.ras 0, x.2.1.kind ≠ "root" := by
      refine ras_kind (p := fun d => d.kind ≠ "root") ((pa.length : Nat) : Int) 0 fun x hx hk => ?_
      have hx2 : ((x.1, x.2.1) : Rw) ∈ prw := by
        rw [prs]
        exact List.mem_map.mpr ⟨x, hx, rfl⟩
      obtain ⟨j, hj⟩ := List.mem_iff_getElem?.mp hx2
      have hjn := (List.getElem?_eq_some_iff.mp hj).1
      rw [hprw, List.getElem?_take_of_lt (by omega), List.getElem?_drop] at hj
      have := nor _ _ hj hk
      omega
    refine ⟨_, rfl, _, rfl, _, rfl, o5, e7, ak, us', rowsPr sa d1 d2, adsPr sa tp f1 f2, tPr sa tp f1 f2 d1 d2, List.range us'.length, 0, rfl, TI21, pr_root lo1 lo2 nosa, hak21, hask, by rw [pr_len]; omega, fun H22 s22 => ⟨true, rfl, iteT ?_⟩⟩
    refine ⟨_, rfl, _, rfl, _, rfl, _, rfl, o5, e7, ak, r, us', rowsPr sa d1 d2, adsPr sa tp f1 f2, tPr sa tp f1 f2 d1 d2, List.range us'.length, rfl, TI21.same s22, hwo, s22 _ _ hak21, hask, no5r, ne7r, nakr, R21.same s22, fun H23 b23 R23 => ?_⟩
    exact q H23 (((b20.trans b21).trans (.of s22)).trans b23) R23

/-! ### the drawn tree: what is known of it -/
mutual
theorem grow_of : ∀ (t : Tr) (l : Int) (rest : List Ra), (∀ p, (grow rest).head? = some p → p.1 ≤ l) → grow (t.ras l ++ rest) = (l, t) :: grow rest
  | .mk p d ks, l, rest, h => by
    have ih := growL_of ks (l + 1) rest (fun p hp => by have := h p hp; omega)
    have e := take_while_is (f := fun p : Lt => p.1 == l + 1) (a := ks.map fun t => (l + 1, t)) (b := grow rest) (fun x hx => by
      obtain ⟨t, _, rfl⟩ := List.mem_map.mp hx
      exact beq_self_eq_true _) (fun x hx => by
      have := h x hx
      exact beq_eq_false_iff_ne.mpr (by omega))
    have e2 : grow ((l, d, p) :: (rasL (l + 1) ks ++ rest)) = (l, .mk p d (((grow (rasL (l + 1) ks ++ rest)).takeWhile fun p => p.1 == l + 1).map Prod.snd)) :: (grow (rasL (l + 1) ks ++ rest)).dropWhile fun p => p.1 == l + 1 := rfl
    show grow ((l, d, p) :: (rasL (l + 1) ks ++ rest)) = _
    rw [e2, ih, e.1, e.2, List.map_map]
    have e3 : ks.map (Prod.snd ∘ fun t => (l + 1, t)) = ks := List.map_id _
    rw [e3]
theorem growL_of : ∀ (ts : List Tr) (l : Int) (rest : List Ra), (∀ p, (grow rest).head? = some p → p.1 ≤ l) → grow (rasL l ts ++ rest) = (ts.map fun t => (l, t)) ++ grow rest
  | [], _, _, _ => rfl
  | t :: ts, l, rest, h => by
    have ih := growL_of ts l rest h
    show grow ((t.ras l ++ rasL l ts) ++ rest) = (l, t) :: ((ts.map fun t => (l, t)) ++ grow rest)
    rw [List.append_assoc, grow_of t l _ (fun p hp => by
      rw [ih] at hp
      cases ts with
      | nil => exact h p hp
      | cons u us =>
        obtain rfl : ((l, u) : Lt) = p := Option.some.inj hp
        exact Int.le_refl _), ih]
end
theorem prop_wok {t : Tr} {rs : List Rw} {as : List Addr} {ws : List Wt} (h : PropOk rs ws) (hl : as.length = rs.length) (hr : t.ras 0 = rasOf rs as) : WOk t := by
  have e := grow_of t 0 [] (fun p hp => by cases hp)
  rw [List.append_nil, hr] at e
  exact (h as hl).2 (0, t) (by rw [e]; exact List.mem_cons_self)
mutual
theorem ras_ge : ∀ {t : Tr} {l : Int} {x : Ra}, x ∈ t.ras l → l ≤ x.1
  | .mk p d ks, l, x, h => by
    rcases List.mem_cons.mp h with rfl | h
    · exact Int.le_refl _
    · have := rasL_ge (ts := ks) h
      omega
theorem rasL_ge : ∀ {ts : List Tr} {l : Int} {x : Ra}, x ∈ rasL l ts → l ≤ x.1
  | [], _, _, h => absurd h List.not_mem_nil
  | t :: ts, l, x, h => by
    rcases List.mem_append.mp h with h | h
    · exact ras_ge h
    · exact rasL_ge h
end
theorem rasL_count : ∀ (ts : List Tr) (l : Int), ((rasL l ts).map Prod.fst).countP (· == l) = ts.length
  | [], _ => rfl
  | .mk p d ks :: ts, l => by
    have ih := rasL_count ts l
    show (((((l, d, p) : Ra) :: rasL (l + 1) ks) ++ rasL l ts).map Prod.fst).countP (· == l) = _
    have z : ((rasL (l + 1) ks).map Prod.fst).countP (· == l) = 0 := List.countP_eq_zero.mpr fun x hx => by
      obtain ⟨y, hy, rfl⟩ := List.mem_map.mp hx
      have := rasL_ge hy
      simp
      omega
    rw [List.map_append, List.countP_append, ih, List.map_cons, List.countP_cons, z, List.length_cons]
    simp
    omega
theorem root_kids {t : Tr} {M : List Int} (h : (t.ras 0).map Prod.fst = 0 :: 1 :: (M ++ [1])) (hM : ∀ x ∈ M, 2 ≤ x) : t.ks.length = 2 := by
  obtain ⟨p, d, ks⟩ := t
  have h : (0 : Int) :: (rasL (0 + 1) ks).map Prod.fst = 0 :: 1 :: (M ++ [1]) := h
  injection h with _ h
  have c := rasL_count ks (0 + 1)
  rw [h] at c
  show ks.length = 2
  rw [← c, List.countP_cons, List.countP_append]
  have z : M.countP (· == (0 + 1 : Int)) = 0 := List.countP_eq_zero.mpr fun x hx => by
    have := hM x hx
    simp
    omega
  rw [z]
  rfl
theorem leafSum_le : ∀ {xs : List Spot}, (∀ x ∈ xs, leafW x.2.2.d ≤ 9) → leafSum xs ≤ 9 * (xs.length : Int)
  | [], _ => by
    show (0 : Int) ≤ _
    omega
  | x :: xs, h => by
    have ih := leafSum_le (xs := xs) fun y hy => h y (List.mem_cons_of_mem _ hy)
    have h1 := h x List.mem_cons_self
    show leafW x.2.2.d + leafSum xs ≤ 9 * ((xs.length + 1 : Nat) : Int)
    omega
/-- what the drawn rows tell of their tree -/
structure Drawn (b : Bool) (rows : List Rw) (t : Tr) : Prop where
  rt : RootOk t
  no : ∀ (k : Nat) (x : Rw), rows[k]? = some x → x.2.kind = "root" → k < b.toNat
  sk : 2 * b.toNat + 1 ≤ rows.length
  wd : t.d.wid ≤ 20000
theorem fit_get : ∀ {rs rs' : List Rw} {k : Nat} {y : Rw}, Paired FitR rs rs' → rs'[k]? = some y → ∃ x, rs[k]? = some x ∧ FitR x y := fun h e => paired_get h e
theorem fit_lev {rs rs' : List Rw} (h : Paired FitR rs rs') : rs'.map Prod.fst = rs.map Prod.fst := by
  induction h with
  | nil => rfl
  | cons a _ ih => rw [List.map_cons, List.map_cons, ih, a.1]
theorem Drawn.of {K : PySem.W.Frag} {C : Addr} {H : Hp} {l m : Addr} {us : List V} {rows rows0 : List Rw} {as : List Addr} {t : Tr} {b : Bool} {L : List Int} (TI : TreeIn K C H l m us rows as t) (hL : Shape b L) (h0 : rows0.map Prod.fst = L) (hf : Fits b L rows0) (hp : Paired FitR rows0 rows) (hn : rows.length ≤ 2110) : Drawn b rows t := by
  have lev := (fit_lev hp).trans h0
  have rk : ∀ (k : Nat) (x : Rw), rows[k]? = some x → x.2.kind = "root" → k = 0 ∧ b = true := fun k x e hk => by
    obtain ⟨y, e2, f⟩ := fit_get hp e
    exact (hf k y e2).2 (by rw [← f.2.1]; exact hk)
  have lft : (t.ras 0).map Prod.fst = L := by
    rw [← lev, ← TI.prs 0, List.map_map, ← spots_ras t 0 0, List.map_map]
    refine List.map_congr_left fun x _ => ?_
    show (0 : Int) + ((x.1.length : Nat) : Int) = ((x.1.length : Nat) : Int)
    omega
  have len : rows.length = L.length := by rw [← lev, List.length_map]
  refine ⟨fun x hx hk => ?_, fun k x e hk => ?_, ?_, ?_⟩
  · obtain ⟨k, hx2⟩ := List.mem_iff_getElem?.mp hx
    have e : rows[k]? = some (((x.1.length : Nat) : Int), x.2.2.d) := by
      rw [← TI.prs 0, List.getElem?_map, hx2]
      rfl
    obtain ⟨rfl, rfl⟩ := rk k _ e hk
    obtain ⟨M, e1, e2⟩ := hL.2 rfl
    have e5 : (t.spots 0)[0]? = some (([], 0, t) : Spot) := by
      cases t
      rfl
    obtain rfl : (([], 0, t) : Spot) = x := Option.some.inj (e5.symm.trans hx2)
    exact root_kids (lft.trans e1) e2
  · obtain ⟨rfl, rfl⟩ := rk k x e hk
    decide
  · rw [len]
    cases b with
    | false =>
      obtain ⟨ls, e, _⟩ := hL.1
      rw [e]
      exact Nat.succ_le_succ (Nat.zero_le _)
    | true =>
      obtain ⟨M, e, _⟩ := hL.2 rfl
      rw [e, List.length_cons, List.length_cons, List.length_append]
      show 2 * 1 + 1 ≤ M.length + 1 + 1 + 1
      omega
  · rw [← spots_sum 0 TI.wok]
    have h9 : ∀ x ∈ t.spots 0, leafW x.2.2.d ≤ 9 := fun x hx => by
      obtain ⟨k, hx2⟩ := List.mem_iff_getElem?.mp hx
      have e : rows[k]? = some (((x.1.length : Nat) : Int), x.2.2.d) := by
        rw [← TI.prs 0, List.getElem?_map, hx2]
        rfl
      unfold leafW
      split
      · rename_i hb
        obtain ⟨y, e2, f⟩ := fit_get hp e
        have hy : leafB y.2 = true := by rw [← f.leaf]; exact hb
        have e3 := f.2.2.2 hy
        have := ((hf k y e2).1 hy).2.1
        rw [← e3] at this
        exact this
      · omega
    have := leafSum_le h9
    rw [TI.slen 0] at this
    omega

/-! ### the law -/
def spLaw (K : PySem.W.Frag) : Sp := fun vs H Q _ => ∃ (scr : Addr) (row : List Int), vs = [.ref scr] ∧ SqL K H scr (row.map V.int) ∧ row.length ≤ 63 ∧ ∀ H', Q (.bl true) H'
theorem ok_law (T : Txt K mg) : FnOk P w K mg base CX0 11 T.a_law T.fd_law ["script"] (spLaw K) := by
  have G_law_reel : FnOk P w K mg base CX0 1 T.a_law_reel T.fd_law_reel ["script"] (spReel K) := ok_reel T
  have G_law_draw : FnOk P w K mg base CX0 1 T.a_law_draw T.fd_law_draw ["reel", "size"] spDraw := ok_draw T
  have G_law_pick : FnOk P w K mg base CX0 2 T.a_law_pick T.fd_law_pick ["reel", "row"] (spPick K) := ok_pick T
  have G_law_shape : FnOk P w K mg base CX0 4 T.a_law_shape T.fd_law_shape ["reel", "rooted"] spShape := ok_shape T
  have G_law_bare_rows : FnOk P w K mg base CX0 5 T.a_law_bare_rows T.fd_law_bare_rows ["reel", "levels", "rooted"] spBare := ok_bare T
  have G_law_proper : FnOk P w K mg base CX0 2 T.a_law_proper T.fd_law_proper ["rows"] (fun vs H Q E => ∃ b L, spProper b L vs H Q E) := ⟨fun vs H Q E ⟨b, L, h⟩ => (ok_proper (P := P) (w := w) (base := base) T b L).len vs H Q E h, fun A outer s H args us vs Q E r e b r2 ⟨b', L, h⟩ => (ok_proper T b' L).run A outer s H args us vs Q E r e b r2 h⟩
  have G_law_made : FnOk P w K mg base CX0 3 T.a_law_made T.fd_law_made ["rows"] (spMade K T.C_Node) := ok_made T
  have G_law_nodes_found : FnOk P w K mg base CX0 9 T.a_law_nodes_found T.fd_law_nodes_found ["rows", "made", "asked", "start", "reel"] (spNodes K T.C_Node) := ok_nodes T
  have G_law_leaves_found : FnOk P w K mg base CX0 9 T.a_law_leaves_found T.fd_law_leaves_found ["rows", "made", "asked", "at"] (spLeaves K T.C_Node) := ok_leaves T
  have G_law_twice_found : FnOk P w K mg base CX0 10 T.a_law_twice_found T.fd_law_twice_found ["reel", "rows", "made", "start", "skip"] (spTwice K T.C_Node) := ok_twice T
  have G_law_no_leaf : FnOk P w K mg base CX0 8 T.a_law_no_leaf T.fd_law_no_leaf ["node", "place"] (spNoLeaf K T.C_Node) := ok_no_leaf T
  have G_law_no_leaf_by_base : FnOk P w K mg base CX0 7 T.a_law_no_leaf_by_base T.fd_law_no_leaf_by_base ["node", "place"] (spNoLeaf K T.C_Node) := ok_no_leaf_by_base T
  have G_law_sources : FnOk P w K mg base CX0 4 T.a_law_sources T.fd_law_sources ["rows", "made", "asked", "reel"] (spSources K T.C_Node) := ok_sources T
  refine T.F_law.ok sc_law (fun vs H Q E h => ?_) (fun cdv A outer s H vs Q E hr h => ?_)
  · obtain ⟨scr, row, rfl, _⟩ := h
    rfl
  · have hr_law_reel : Room 1 _ := hr.mono (by decide)
    have hr_law_draw : Room 1 _ := hr.mono (by decide)
    have hr_law_pick : Room 2 _ := hr.mono (by decide)
    have hr_law_shape : Room 4 _ := hr.mono (by decide)
    have hr_law_bare_rows : Room 5 _ := hr.mono (by decide)
    have hr_law_proper : Room 2 _ := hr.mono (by decide)
    have hr_law_made : Room 3 _ := hr.mono (by decide)
    have hr_law_nodes_found : Room 9 _ := hr.mono (by decide)
    have hr_law_leaves_found : Room 9 _ := hr.mono (by decide)
    have hr_law_twice_found : Room 10 _ := hr.mono (by decide)
    have hr_law_no_leaf : Room 8 _ := hr.mono (by decide)
    have hr_law_no_leaf_by_base : Room 7 _ := hr.mono (by decide)
    have hr_law_sources : Room 4 _ := hr.mono (by decide)
    obtain ⟨scr, row, rfl, hscr, lrow, q⟩ := h
    refine ⟨_, (pss_cons (ps_set (i := 1) sc_law.nd rfl (.inr rfl) (pe_call G_law_reel hr_law_reel (by rfl) T.g_law_reel T.F_law_reel.kp T.b_law_reel .nil pass0 (pa_cons (pv 0) pa_nil)))
      (pss_cons (ps_set (i := 2) sc_law.nd rfl (.inl rfl) (pe_cmpR op_gt (pe_call G_law_draw hr_law_draw (by rfl) T.g_law_draw T.F_law_draw.kp T.b_law_draw .nil pass0 (pa_cons (pv 1) (pa_cons pe_int pa_nil))) pe_int (nomark _)))
      (pss_cons (ps_set (i := 3) sc_law.nd rfl (.inl rfl) (pe_call G_law_proper hr_law_proper (by rfl) T.g_law_proper T.F_law_proper.kp T.b_law_proper .nil pass0 (pa_cons (pe_call G_law_bare_rows hr_law_bare_rows (by rfl) T.g_law_bare_rows T.F_law_bare_rows.kp T.b_law_bare_rows .nil pass0 (pa_cons (pv 1) (pa_cons (pe_call G_law_shape hr_law_shape (by rfl) T.g_law_shape T.F_law_shape.kp T.b_law_shape .nil pass0 (pa_cons (pv 1) (pa_cons (pv 2) pa_nil))) (pa_cons (pv 2) pa_nil)))) pa_nil)))
      (pss_cons (ps_set (i := 4) sc_law.nd rfl (.inl rfl) (pe_call G_law_made hr_law_made (by rfl) T.g_law_made T.F_law_made.kp T.b_law_made .nil pass0 (pa_cons (pv 3) pa_nil)))
      (pss_cons (ps_set (i := 5) sc_law.nd rfl (.inl rfl) (pe_call G_law_pick hr_law_pick (by rfl) T.g_law_pick T.F_law_pick.kp T.b_law_pick .nil pass0 (pa_cons (pv 1) (pa_cons (pe_lst (pa_cons pe_int (pa_cons pe_int (pa_cons pe_int (pa_cons (pe_op op_add pe_int (pe_call G_law_draw hr_law_draw (by rfl) T.g_law_draw T.F_law_draw.kp T.b_law_draw .nil pass0 (pa_cons (pv 1) (pa_cons pe_int pa_nil)))) pa_nil))))) pa_nil))))
      (pss_cons (ps_setLc (i := 6) (own := [("k", 7)]) (g := gName 7) (by rfl) sc_law.nd rfl rfl (sw_true rfl rfl rfl (by decide +kernel)) (pi_range1 (by rfl) T.m_range (pa_cons (pe_callB call_len_seq (by rfl) T.m_len PySem.boot_len (pa_cons (pv 3) pa_nil)) pa_nil)) (blkOk_by (own := [("k", 7)]) (N := ["script", "reel", "rooted", "rows", "made", "start", "asked", "k", "turn", "below", "place"]) (sc := defScope s_law) (by decide +kernel)) (fun _ _ _ _ _ => pg_name (i := 7) sc_law.nd rfl (Or.inl rfl)) (fun _ _ _ _ _ => pts_nil) (fun _ _ _ _ _ => (pv 7)))
      (C8.pss_cut (ps_if (pt_cmpR op_gt (pe_callB call_len_seq (by rfl) T.m_len PySem.boot_len (pa_cons (pv 3) pa_nil)) pe_int (nomark _)) (pss_one (ps_set (i := 6) sc_law.nd rfl (.inl rfl) (pe_op op_cat (pe_lst (pa_cons pe_int (pa_cons pe_int (pa_cons (pe_op op_sub (pe_callB call_len_seq (by rfl) T.m_len PySem.boot_len (pa_cons (pv 3) pa_nil)) pe_int) pa_nil)))) (pe_lc (own := [("turn", 8)]) (g := gName 8) (by rfl) sc_law.nd (pi_range1 (by rfl) T.m_range (pa_cons pe_int pa_nil)) (blkOk_by (own := [("turn", 8)]) (N := ["script", "reel", "rooted", "rows", "made", "start", "asked", "k", "turn", "below", "place"]) (sc := defScope s_law) (by decide +kernel)) (fun _ _ _ _ _ => pg_name (i := 8) sc_law.nd rfl (Or.inl rfl)) (fun _ _ _ _ _ => pts_nil) (fun _ _ _ _ _ => (pe_op op_add (pe_call G_law_draw hr_law_draw (by rfl) T.g_law_draw T.F_law_draw.kp T.b_law_draw .nil pass0 (pa_cons (pv 1) (pa_cons pe_int pa_nil))) (pe_op op_mul pe_int (pe_call G_law_draw hr_law_draw (by rfl) T.g_law_draw T.F_law_draw.kp T.b_law_draw .nil pass0 (pa_cons (pv 1) (pa_cons pe_int pa_nil)))))))))) pss_nil)
      (pss_cons (ps_set (i := 9) sc_law.nd rfl (.inl rfl) (pe_op op_modN (pe_call G_law_draw hr_law_draw (by rfl) T.g_law_draw T.F_law_draw.kp T.b_law_draw .nil pass0 (pa_cons (pv 1) (pa_cons pe_int pa_nil))) (pe_callB call_len_seq (by rfl) T.m_len PySem.boot_len (pa_cons (pv 3) pa_nil))))
      (pss_cons (ps_if (pt_not (pt_val (pe_call G_law_nodes_found hr_law_nodes_found (by rfl) T.g_law_nodes_found T.F_law_nodes_found.kp T.b_law_nodes_found .nil pass0 (pa_cons (pv 3) (pa_cons (pv 4) (pa_cons (pv 6) (pa_cons (pv 5) (pa_cons (pv 1) pa_nil)))))))) (pss_one (ps_ret pe_bl)) pss_nil)
      (pss_cons (ps_if (PW.pt (pw_or (pt_not (pt_val (pe_call G_law_leaves_found hr_law_leaves_found (by rfl) T.g_law_leaves_found T.F_law_leaves_found.kp T.b_law_leaves_found .nil pass0 (pa_cons (pv 3) (pa_cons (pv 4) (pa_cons (pv 6) (pa_cons pe_int pa_nil))))))) (pw_or1 (pt_not (pt_val (pe_call G_law_leaves_found hr_law_leaves_found (by rfl) T.g_law_leaves_found T.F_law_leaves_found.kp T.b_law_leaves_found .nil pass0 (pa_cons (pv 3) (pa_cons (pv 4) (pa_cons (pv 6) (pa_cons (pv 9) pa_nil)))))))))) (pss_one (ps_ret pe_bl)) pss_nil)
      (pss_cons (ps_if (pt_not (pt_val (pe_call G_law_twice_found hr_law_twice_found (by rfl) T.g_law_twice_found T.F_law_twice_found.kp T.b_law_twice_found .nil pass0 (pa_cons (pv 1) (pa_cons (pv 3) (pa_cons (pv 4) (pa_cons (pv 5) (pa_cons (pe_callTy call_int1 (by rfl) T.m_int (by decide +kernel) (pa_cons (pv 2) pa_nil)) pa_nil)))))))) (pss_one (ps_ret pe_bl)) pss_nil)
      (pss_cons (ps_for PassesOwn.never rfl (pi_list (pe_lst (pa_cons (pe_un un_neg pe_int) (pa_cons (pe_op op_sub (pe_un un_neg pe_int) (pe_call G_law_draw hr_law_draw (by rfl) T.g_law_draw T.F_law_draw.kp T.b_law_draw .nil pass0 (pa_cons (pv 1) (pa_cons pe_int pa_nil)))) (pa_cons (pe_op op_add (pe_op op_add (pe_ix ix_tup (pe_ix ix_list (pv 3) pe_int (fun _ _ => rfl)) pe_int (fun _ _ => rfl)) pe_int) (pe_call G_law_draw hr_law_draw (by rfl) T.g_law_draw T.F_law_draw.kp T.b_law_draw .nil pass0 (pa_cons (pv 1) (pa_cons pe_int pa_nil)))) pa_nil))))) (pg_name (i := 10) sc_law.nd rfl (.inl rfl)) (pss_one (ps_if (PW.pt (pw_or (pt_not (pt_val (pe_call G_law_no_leaf hr_law_no_leaf (by rfl) T.g_law_no_leaf T.F_law_no_leaf.kp T.b_law_no_leaf .nil pass0 (pa_cons (pe_ix ix_list (pv 4) pe_int (fun _ _ => rfl)) (pa_cons (pv 10) pa_nil))))) (pw_or1 (pt_not (pt_val (pe_call G_law_no_leaf_by_base hr_law_no_leaf_by_base (by rfl) T.g_law_no_leaf_by_base T.F_law_no_leaf_by_base.kp T.b_law_no_leaf_by_base .nil pass0 (pa_cons (pe_ix ix_list (pv 4) pe_int (fun _ _ => rfl)) (pa_cons (pv 10) pa_nil)))))))) (pss_one (ps_ret pe_bl)) pss_nil)))
      (pss_one (ps_ret (pe_call G_law_sources hr_law_sources (by rfl) T.g_law_sources T.F_law_sources.kp T.b_law_sources .nil pass0 (pa_cons (pv 3) (pa_cons (pv 4) (pa_cons (pv 6) (pa_cons (pv 1) pa_nil))))))))))))))))))), ?_⟩
    refine ⟨_, rfl, scr, row, rfl, hscr, fun H1 r s1 nr R1 => ?_⟩
    refine ⟨_, rfl, r, 3, rfl, R1, by decide, fun v H2 v0 v1 b2 R2 => ⟨_, _, rfl, rfl, ?_⟩⟩
    obtain ⟨b, hb⟩ : ∃ b, b = decide ((0 : Int) < v) := ⟨_, rfl⟩
    refine ⟨_, rfl, _, rfl, _, rfl, r, b, by rw [hb]; rfl, R2, fun l0 L H3 hl0 hL lL nl0 b3 R3 => ?_⟩
    refine ⟨_, rfl, r, l0, b, L, by rw [hb]; rfl, R3, hl0, hL, lL.2, (R2.ne nl0).symm, ?_⟩
    intro D0 us0 rows0 H4 hD0 pr0 hr0 hf0 nD0 b4 R4
    have len0 : rows0.length = L.length := by rw [← hr0, List.length_map]
    refine ⟨b, L, D0, us0, rows0, rfl, hD0, pr0, hr0, hf0, by omega, fun l us rows H5 hl pr hfit hprop nl s5 => ?_⟩
    have lev := (fit_lev hfit).trans hr0
    have len : rows.length = L.length := by rw [← lev, List.length_map]
    have lus := paired_len pr
    refine ⟨_, rfl, l, rows, rfl, ⟨⟨us, hl, pr⟩, by rw [lev]; exact hL.1, True.intro⟩, by omega, fun m as t H6 s6 nm hm las hras nt => ?_⟩
    obtain ⟨ws, hws⟩ := hprop
    have TI : TreeIn K T.C_Node H6 l m us rows as t := ⟨⟨s6 _ _ hl, Paired.mapP pr fun _ _ x => x.tups fun b xs e => s6 b _ e⟩, hm, las, hras, nt, prop_wok hws las hras, by omega⟩
    have DR := Drawn.of TI hL hr0 hf0 hfit (by omega)
    have R5 := R4.same s5
    have R6 := R5.same s6
    have nlr : l ≠ r := (R4.ne nl).symm
    have nmr : m ≠ r := (R5.ne nm).symm
    clear b2 b3 b4 R2 R3 R4 R5 s5 s6 hl pr hm nt hD0 pr0 hf0 nl nm hl0 nl0 nD0 R1 s1 nr
    refine ⟨_, rfl, _, rfl, r, 1000, rfl, R6, by decide, fun v2 H7 v20 v21 b7 R7 => ⟨_, _, rfl, rfl, by show 4 ≤ sizeLine; decide, fun lp nlp => ?_⟩⟩
    refine ⟨r, .ref lp, rfl, R7.new nlp, .inr ⟨lp, _, rfl, (R7.ne nlp).symm, SqL.of upd_same, by show 0 < 4; decide, fun v3 H8 hv3 b8 R8 => ?_⟩⟩
    obtain ⟨start, rfl⟩ : ∃ x : Int, v3 = .int x := by
      rcases List.mem_cons.mp hv3 with rfl | hv3
      · exact ⟨_, rfl⟩
      rcases List.mem_cons.mp hv3 with rfl | hv3
      · exact ⟨_, rfl⟩
      rcases List.mem_cons.mp hv3 with rfl | hv3
      · exact ⟨_, rfl⟩
      · exact ⟨_, List.mem_singleton.mp hv3⟩
    have b68 := (b7.trans (.new nlp)).trans b8
    have TI8 := TI.but b68 R6 nlr nmr
    clear b7 R7 nlp b8 hv3
    refine ⟨_, rfl, l, us, rfl, .inl (SqL.of TI8.rws.lst), _, rfl, by omega, by omega, fun ak nak => ?_⟩
    have nakr : ak ≠ r := (R8.ne nak).symm
    refine lc_range (lo := 0) (n := ((us.length : Nat) : Int).toNat) (fun i H' => Same H8 H' ∧ H' ak = some (.lst ((natsZ (List.range i)).map V.int))) ⟨same_upd nak, upd_same⟩ ?_ ?_
    · rintro i H9 hi ⟨s9, hak⟩
      refine ⟨rfl, _, rfl, _, hak, sz2 (by rw [List.length_map, natsZ_len, List.length_range]; omega), same_mut s9 nak, ?_⟩
      rw [upd_same, List.range_succ, show (0 : Int) + (i : Int) = (i : Int) by omega]
      unfold natsZ
      rw [List.map_append, List.map_append]
      rfl
    rintro H9 ⟨s9, hak⟩
    rw [show ((us.length : Nat) : Int).toNat = us.length by omega] at hak
    have TI9 := TI8.same s9
    have R9 := R8.same s9
    refine ⟨fun σ H' => But r H6 H' ∧ ReelAt H' r ∧ ∃ (ak : Addr) (asks : List Nat), σ = [some (.ref scr), some (.ref r), some (.bl b), some (.ref l), some (.ref m), some (.int start), some (.ref ak), none, none, none, none] ∧ H' ak = some (.lst ((natsZ asks).map V.int)) ∧ (∀ k ∈ asks, k < rows.length) ∧ ak ≠ r, ?_, ?_⟩
    · refine ⟨_, rfl, l, us, rfl, .inl (SqL.of TI9.rws.lst), _, _, rfl, rfl, _, rfl, ite2 (fun hc => ?_) (fun hc => ?_)⟩
      · have hc : (1000 : Int) < (us.length : Int) := of_decide_eq_true hc
        have big : sizeLine = 2 ^ 24 := rfl
        refine ⟨_, rfl, l, us, rfl, .inl (SqL.of TI9.rws.lst), _, _, rfl, rfl, by show 3 ≤ sizeLine; decide, fun e1 ne1 => ⟨_, rfl, by decide, by decide, fun e2 ne2 => ?_⟩⟩
        have t1 := same_upd (o := .lst [.int 0, .int 1009, .int ((us.length : Int) - 1)]) ne1
        have h1 := upd_at (o := .lst [.int 0, .int 1009, .int ((us.length : Int) - 1)]) ne1
        have Ra := R9.same t1
        have ne2r : e2 ≠ r := (Ra.ne ne2).symm
        have ne1r : e1 ≠ r := (R9.ne ne1).symm
        refine lc_range (lo := 0) (n := ((9 : Int)).toNat) (fun i H' => But r _ H' ∧ ReelAt H' r ∧ ∃ c : List Nat, H' e2 = some (.lst ((natsZ c).map V.int)) ∧ c.length = i ∧ ∀ k ∈ c, k < 2000) ⟨But.new ne2, Ra.new ne2, [], upd_same, rfl, fun k hk => absurd hk List.not_mem_nil⟩ ?_ ?_
        · rintro i H10 hi ⟨b10, R10, c, hc2, lc2, kc⟩
          refine ⟨rfl, _, rfl, r, 1000, rfl, R10, by decide, fun w1 H11 w10 w11 b11 R11 => ⟨_, rfl, r, 500, rfl, R11, by decide, fun w2 H12 w20 w21 b12 R12 => ⟨_, _, rfl, rfl, .inl ⟨by decide, by decide⟩, _, _, rfl, rfl, _, b12 _ _ ne2r (b11 _ _ ne2r hc2), sz2 (by rw [List.length_map, natsZ_len]; omega), ?_⟩⟩⟩
          refine ⟨((b10.trans b11).trans b12).updN ne2, R12.updN ne2r, c ++ [(w1 + 2 * w2).toNat], ?_, by rw [List.length_append, lc2]; rfl, fun k hk => ?_⟩
          · rw [upd_same]
            unfold natsZ
            rw [List.map_append, List.map_append]
            show some (HO.lst (_ ++ [V.int (w1 + 2 * w2)])) = some (HO.lst (_ ++ [V.int (((w1 + 2 * w2).toNat : Nat) : Int)]))
            rw [show (((w1 + 2 * w2).toNat : Nat) : Int) = w1 + 2 * w2 by omega]
          · rcases List.mem_append.mp hk with hk | hk
            · exact kc k hk
            · rw [List.mem_singleton.mp hk]
              omega
        rintro H10 ⟨b10, R10, c, hc2, lc2, kc⟩
        have h110 := b10 _ _ ne1r h1
        refine ⟨e1, e2, _, _, rfl, rfl, h110, hc2, szM (by rw [List.length_map, natsZ_len, lc2]; show 3 + 9 ≤ _; decide), fun e3 ne3 => ?_⟩
        have b69 := (b68.trans (.of s9)).trans (.of t1)
        refine ⟨(b69.trans b10).trans (.new ne3), R10.new ne3, e3, [0, 1009, us.length - 1] ++ c, by rw [hb]; rfl, ?_, fun k hk => ?_, (R10.ne ne3).symm⟩
        · rw [upd_same]
          unfold natsZ
          rw [List.map_append, List.map_append]
          show some (HO.lst ([V.int 0, V.int 1009, V.int ((us.length : Int) - 1)] ++ _)) = some (HO.lst ([V.int ((0 : Nat) : Int), V.int ((1009 : Nat) : Int), V.int ((us.length - 1 : Nat) : Int)] ++ _))
          rw [show ((us.length - 1 : Nat) : Int) = (us.length : Int) - 1 by omega]
          rfl
        · have hl := lL.1
          rcases List.mem_append.mp hk with hk | hk
          · rcases List.mem_cons.mp hk with rfl | hk
            · omega
            rcases List.mem_cons.mp hk with rfl | hk
            · omega
            · rw [List.mem_singleton.mp hk]
              omega
          · have := kc k hk
            omega
      · refine ⟨b68.trans (.of s9), R9, ak, List.range us.length, by rw [hb]; rfl, hak, fun k hk => ?_, nakr⟩
        have := List.mem_range.mp hk
        omega
    clear hak R9 TI9 s9 nakr nak TI8 b68 R8
    rintro σ H9 ⟨b9, R9, ak, asks, rfl, hak, hask, nakr⟩
    have TI9 := TI.but b9 R6 nlr nmr
    have l0 : 0 < rows.length := by
      have := DR.sk
      omega
    refine ⟨_, rfl, r, 1000, rfl, R9, by decide, fun w1 H10 w10 w11 b10 R10 => ?_⟩
    have TI10 := TI9.but b10 R9 nlr nmr
    have hak10 := b10 _ _ nakr hak
    refine ⟨_, rfl, l, us, rfl, .inl (SqL.of TI10.rws.lst), _, _, rfl, rfl, by show ((us.length : Nat) : Int) ≠ 0; omega, ?_⟩
    have f0 := Int.fmod_nonneg_of_pos w1 (show (0 : Int) < (us.length : Int) by omega)
    have f1 := Int.fmod_lt_of_pos w1 (show (0 : Int) < (us.length : Int) by omega)
    refine ⟨_, rfl, _, rfl, _, rfl, _, rfl, _, rfl, l, m, ak, r, us, rows, as, t, asks, start, rfl, TI10, hak10, hask, nlr, nmr, nakr, R10, fun H11 b11 R11 => ⟨true, rfl, iteF ?_⟩⟩
    have TI11 := TI10.but b11 R10 nlr nmr
    have hak11 := b11 _ _ nakr hak10
    refine ⟨_, rfl, _, rfl, _, rfl, l, m, ak, us, rows, as, t, asks, 0, rfl, TI11, DR.rt, hak11, hask, l0, fun H12 s12 => ⟨true, rfl, iteF ?_⟩⟩
    have TI12 := TI11.same s12
    have hak12 := s12 _ _ hak11
    have R12 := R11.same s12
    refine ⟨_, rfl, _, rfl, _, rfl, _, rfl, l, m, ak, us, rows, as, t, asks, (w1.fmod (us.length : Int)).toNat, by show [V.ref l, V.ref m, V.ref ak, V.int (w1.fmod (us.length : Int))] = _; rw [show (((w1.fmod (us.length : Int)).toNat : Nat) : Int) = w1.fmod (us.length : Int) by omega], TI12, DR.rt, hak12, hask, by omega, fun H13 s13 => ⟨true, rfl, iteF ?_⟩⟩
    have TI13 := TI12.same s13
    have hak13 := s13 _ _ hak12
    have R13 := R12.same s13
    have eb : (if b then (1 : Int) else 0) = ((b.toNat : Nat) : Int) := by cases b <;> rfl
    refine ⟨_, rfl, _, rfl, _, rfl, _, rfl, _, rfl, .inr ⟨b, rfl, l, m, r, us, rows, as, t, start, b.toNat, by show [V.ref r, V.ref l, V.ref m, V.int start, V.int (if b then (1 : Int) else 0)] = _; rw [eb], TI13, by omega, DR.sk, DR.no, DR.wd, nlr, nmr, R13, fun H14 b14 R14 => ⟨true, rfl, iteF ?_⟩⟩⟩
    have TI14 := TI13.but b14 R13 nlr nmr
    have hak14 := b14 _ _ nakr hak13
    clear TI9 TI10 TI11 TI12 TI13 hak hak10 hak11 hak12 hak13 b10 b11 s12 s13 b14 R9 R10 R11 R12 R13 f0 f1 b9
    have e0 : (as.map V.ref)[0]? = some (.ref t.at) := by
      rw [← TI.ats]
      cases t
      rfl
    have lats : t.ats.length ≤ 5000 := by rw [TI.ats, TI.len]; omega
    have rt0 : rows[0]? = some (0, t.d) := by
      obtain ⟨pi, s, _, e2, _, e4⟩ := TI.spot 0 l0
      have e5 : (t.spots 0)[0]? = some (([], 0, t) : Spot) := by
        cases t
        rfl
      rw [e5] at e2
      have e2 := Option.some.inj e2
      injection e2 with e6 e7
      injection e7 with e7 e8
      rw [← e6, ← e8] at e4
      exact e4
    have w0 := WOk.nn TI.wok
    refine ⟨_, rfl, _, rfl, _, rfl, r, 1000, rfl, R14, by decide, fun w2 H15 w20 w21 b15 R15 => ?_⟩
    have TI15 := TI14.but b15 R14 nlr nmr
    obtain ⟨g0, hg0, hg15⟩ := row_at TI15 rt0
    refine ⟨_, _, rfl, rfl, _, rfl, l, _, 0, .ref g0, rfl, rfl, SqL.of TI15.rws.lst, atI_nat (j := 0) hg0, g0, _, 5, .int t.d.wid, rfl, rfl, SqT.of hg15, rfl, _, _, rfl, rfl, _, rfl, r, 1000, rfl, R15, by decide, fun w3 H16 w30 w31 b16 R16 => ⟨_, _, rfl, rfl, by show 3 ≤ sizeLine; decide, fun lq nlq => ?_⟩⟩
    have s17 := same_upd (o := .lst [.int (-1), .int (-1 - w2), .int (t.d.wid + 2 + w3)]) nlq
    have h17 := upd_at (o := .lst [.int (-1), .int (-1 - w2), .int (t.d.wid + 2 + w3)]) nlq
    have TI17 := (TI15.but b16 R15 nlr nmr).same s17
    have R17 := R16.same s17
    have hak17 := s17 _ _ (b16 _ _ nakr (b15 _ _ nakr hak14))
    refine ⟨lq, rfl, ⟨_, SqL.of h17⟩, ?_⟩
    refine for_list (K := K) (a := lq) (xs := [.int (-1), .int (-1 - w2), .int (t.d.wid + 2 + w3)]) (fun i σ H' => Same _ H' ∧ ∃ y9 y10 : Option V, σ = [some (.ref scr), some (.ref r), some (.bl b), some (.ref l), some (.ref m), some (.int start), some (.ref ak), none, none, y9, y10])
      ⟨Same.refl _, _, none, rfl⟩ (fun i σ H' _ ⟨sm, _⟩ => SqL.of (sm _ _ h17)) ?_ ?_
    · rintro i v σ H18 hv ⟨s18, y9, y10, rfl⟩
      obtain ⟨o, rfl, o0⟩ : ∃ o : Int, v = .int o ∧ NoLeafAt t o := by
        rcases List.mem_cons.mp (List.mem_of_getElem? hv) with rfl | hv
        · exact ⟨_, rfl, by omega, fun _ => by omega⟩
        rcases List.mem_cons.mp hv with rfl | hv
        · exact ⟨_, rfl, by omega, fun _ => by omega⟩
        · rw [List.mem_singleton.mp hv]
          exact ⟨_, rfl, by omega, fun _ => by omega⟩
      have TI18 := TI17.same s18
      refine ⟨_, rfl, m, _, 0, .ref t.at, rfl, rfl, SqL.of TI18.mds, atI_nat (j := 0) e0, _, rfl, t, o, rfl, TI18.nd, lats, o0, fun H19 s19 => ⟨true, rfl, iteF ?_⟩⟩
      have TI19 := TI18.same s19
      refine ⟨_, rfl, m, _, 0, .ref t.at, rfl, rfl, SqL.of TI19.mds, atI_nat (j := 0) e0, _, rfl, t, o, rfl, TI19.nd, lats, o0, fun H20 s20 => ⟨true, rfl, iteF ?_⟩⟩
      exact ⟨(s18.trans s19).trans s20, _, _, rfl⟩
    · rintro σ H18 ⟨s18, y9, y10, rfl⟩
      have TI18 := TI17.same s18
      refine ⟨_, rfl, _, rfl, _, rfl, _, rfl, l, m, ak, r, us, rows, as, t, asks, rfl, TI18, Int.le_trans DR.wd (by decide), s18 _ _ hak17, hask, nlr, nmr, nakr, R17.same s18, fun H19 b19 R19 => ?_⟩
      exact q H19

theorem ok_top (T : Txt K mg) : FnOk P w K mg base CX0 11 T.a_law T.fd_law ["script"] (spLaw K) := ok_law T
end
theorem all_mk {l : PySem.W.OpenLaw} {w : World} {K : PySem.W.Frag} {h : Heap} {mg : Str → Option Value} {fa : Addr} (X : K.In h) (G : h.Ns mainGlobals mg) (hfa : mg "law" = some (.ref fa))
    {C_MendedError : Addr} (g_MendedError : PySem.W.nsIn K mainGlobals "MendedError" = some (some (.ref C_MendedError)))
    {C_NoNode : Addr} (g_NoNode : PySem.W.nsIn K mainGlobals "NoNode" = some (some (.ref C_NoNode)))
    {C_Node : Addr} (g_Node : PySem.W.nsIn K mainGlobals "Node" = some (some (.ref C_Node)))
    {C_BadMark : Addr} (g_BadMark : PySem.W.nsIn K mainGlobals "BadMark" = some (some (.ref C_BadMark)))
    {C_EditError : Addr} (g_EditError : PySem.W.nsIn K mainGlobals "EditError" = some (some (.ref C_EditError)))
    {C_Entangled : Addr} (g_Entangled : PySem.W.nsIn K mainGlobals "Entangled" = some (some (.ref C_Entangled)))
    {C_GrammarError : Addr} (g_GrammarError : PySem.W.nsIn K mainGlobals "GrammarError" = some (some (.ref C_GrammarError)))
    {C_HistoryError : Addr} (g_HistoryError : PySem.W.nsIn K mainGlobals "HistoryError" = some (some (.ref C_HistoryError)))
    {C_NoLayer : Addr} (g_NoLayer : PySem.W.nsIn K mainGlobals "NoLayer" = some (some (.ref C_NoLayer)))
    {C_NoMark : Addr} (g_NoMark : PySem.W.nsIn K mainGlobals "NoMark" = some (some (.ref C_NoMark)))
    {C_NoWitness : Addr} (g_NoWitness : PySem.W.nsIn K mainGlobals "NoWitness" = some (some (.ref C_NoWitness)))
    {C_PatternError : Addr} (g_PatternError : PySem.W.nsIn K mainGlobals "PatternError" = some (some (.ref C_PatternError)))
    {C_QueryError : Addr} (g_QueryError : PySem.W.nsIn K mainGlobals "QueryError" = some (some (.ref C_QueryError)))
    {C_TableError : Addr} (g_TableError : PySem.W.nsIn K mainGlobals "TableError" = some (some (.ref C_TableError)))
    {C_TreeError : Addr} (g_TreeError : PySem.W.nsIn K mainGlobals "TreeError" = some (some (.ref C_TreeError)))
    {C_UnknownLanguage : Addr} (g_UnknownLanguage : PySem.W.nsIn K mainGlobals "UnknownLanguage" = some (some (.ref C_UnknownLanguage)))
    {f0 : Addr} {od0 an0 : Option Addr} {sl0 : Array (Option Value)} {oc0 kV0 dc0 pm0 cd0 ct0 : Value}
    {f1 : Addr} {od1 an1 : Option Addr} {sl1 : Array (Option Value)} {oc1 dc1 pm1 cd1 ct1 : Value}
    {kD1 : Addr}
    {f2 : Addr} {od2 an2 : Option Addr} {sl2 : Array (Option Value)} {oc2 kV2 dc2 pm2 cd2 ct2 : Value}
    {f3 : Addr} {od3 an3 : Option Addr} {sl3 : Array (Option Value)} {oc3 kV3 dc3 pm3 cd3 ct3 : Value}
    {f4 : Addr} {od4 an4 : Option Addr} {sl4 : Array (Option Value)} {oc4 kV4 dc4 pm4 cd4 ct4 : Value}
    {f5 : Addr} {od5 an5 : Option Addr} {sl5 : Array (Option Value)} {oc5 kV5 dc5 pm5 cd5 ct5 : Value}
    {f6 : Addr} {od6 an6 : Option Addr} {sl6 : Array (Option Value)} {oc6 kV6 dc6 pm6 cd6 ct6 : Value}
    {f7 : Addr} {od7 an7 : Option Addr} {sl7 : Array (Option Value)} {oc7 kV7 dc7 pm7 cd7 ct7 : Value}
    {f8 : Addr} {od8 an8 : Option Addr} {sl8 : Array (Option Value)} {oc8 kV8 dc8 pm8 cd8 ct8 : Value}
    {f9 : Addr} {od9 an9 : Option Addr} {sl9 : Array (Option Value)} {oc9 kV9 dc9 pm9 cd9 ct9 : Value}
    {f10 : Addr} {od10 an10 : Option Addr} {sl10 : Array (Option Value)} {oc10 kV10 dc10 pm10 cd10 ct10 : Value}
    {f11 : Addr} {od11 an11 : Option Addr} {sl11 : Array (Option Value)} {oc11 kV11 dc11 pm11 cd11 ct11 : Value}
    {f12 : Addr} {od12 an12 : Option Addr} {sl12 : Array (Option Value)} {oc12 kV12 dc12 pm12 cd12 ct12 : Value}
    {f13 : Addr} {od13 an13 : Option Addr} {sl13 : Array (Option Value)} {oc13 kV13 dc13 pm13 cd13 ct13 : Value}
    {f14 : Addr} {od14 an14 : Option Addr} {sl14 : Array (Option Value)} {oc14 kV14 dc14 pm14 cd14 ct14 : Value}
    {f15 : Addr} {od15 an15 : Option Addr} {sl15 : Array (Option Value)} {oc15 kV15 dc15 pm15 cd15 ct15 : Value}
    {f16 : Addr} {od16 an16 : Option Addr} {sl16 : Array (Option Value)} {oc16 kV16 dc16 pm16 cd16 ct16 : Value}
    {f17 : Addr} {od17 an17 : Option Addr} {sl17 : Array (Option Value)} {oc17 kV17 dc17 pm17 cd17 ct17 : Value}
    {f18 : Addr} {od18 an18 : Option Addr} {sl18 : Array (Option Value)} {oc18 kV18 dc18 pm18 cd18 ct18 : Value}
    {f19 : Addr} {od19 an19 : Option Addr} {sl19 : Array (Option Value)} {oc19 kV19 dc19 pm19 cd19 ct19 : Value}
    {f20 : Addr} {od20 an20 : Option Addr} {sl20 : Array (Option Value)} {oc20 kV20 dc20 pm20 cd20 ct20 : Value}
    {f21 : Addr} {od21 an21 : Option Addr} {sl21 : Array (Option Value)} {oc21 kV21 dc21 pm21 cd21 ct21 : Value}
    {f22 : Addr} {od22 an22 : Option Addr} {sl22 : Array (Option Value)} {oc22 kV22 dc22 pm22 cd22 ct22 : Value}
    {f23 : Addr} {od23 an23 : Option Addr} {sl23 : Array (Option Value)} {oc23 kV23 dc23 pm23 cd23 ct23 : Value}
    {f24 : Addr} {od24 an24 : Option Addr} {sl24 : Array (Option Value)} {oc24 kV24 dc24 pm24 cd24 ct24 : Value}
    {f25 : Addr} {od25 an25 : Option Addr} {sl25 : Array (Option Value)} {oc25 kV25 dc25 pm25 cd25 ct25 : Value}
    {f26 : Addr} {od26 an26 : Option Addr} {sl26 : Array (Option Value)} {oc26 kV26 dc26 pm26 cd26 ct26 : Value}
    {f27 : Addr} {od27 an27 : Option Addr} {sl27 : Array (Option Value)} {oc27 kV27 dc27 pm27 cd27 ct27 : Value}
    {f28 : Addr} {od28 an28 : Option Addr} {sl28 : Array (Option Value)} {oc28 kV28 dc28 pm28 cd28 ct28 : Value}
    {f29 : Addr} {od29 an29 : Option Addr} {sl29 : Array (Option Value)} {oc29 kV29 dc29 pm29 cd29 ct29 : Value}
    {f30 : Addr} {od30 an30 : Option Addr} {sl30 : Array (Option Value)} {oc30 kV30 dc30 pm30 cd30 ct30 : Value}
    {f31 : Addr} {od31 an31 : Option Addr} {sl31 : Array (Option Value)} {oc31 kV31 dc31 pm31 cd31 ct31 : Value}
    {f32 : Addr} {od32 an32 : Option Addr} {sl32 : Array (Option Value)} {oc32 kV32 dc32 pm32 cd32 ct32 : Value}
    {f33 : Addr} {od33 an33 : Option Addr} {sl33 : Array (Option Value)} {oc33 kV33 dc33 pm33 cd33 ct33 : Value}
    {f34 : Addr} {od34 an34 : Option Addr} {sl34 : Array (Option Value)} {oc34 kV34 dc34 pm34 cd34 ct34 : Value}
    (a0 : PySem.W.findIn K (.ref C_NoNode) "__init__" = some (some (.ref f0)))
    (l0 : K.lookup f0 = some ⟨oc0, od0, .func (PySem.W.fnOf "__init__" "NoNode.__init__" (defArgs s_NoNode_init) (defBody s_NoNode_init) (defScope s_NoNode_init) .none kV0 dc0 pm0 an0 cd0 ct0), sl0⟩) (c0 : PySem.W.codeIn K cd0 "NoNode.__init__" = true) (k0 : PySem.W.keepIn K (.ref f0) = true)
    (a1 : PySem.W.findIn K (.ref C_Node) "__init__" = some (some (.ref f1)))
    (l1 : K.lookup f1 = some ⟨oc1, od1, .func (PySem.W.fnOf "__init__" "Node.__init__" (defArgs s_Node_init) (defBody s_Node_init) (defScope s_Node_init) .none (.ref kD1) dc1 pm1 an1 cd1 ct1), sl1⟩) (c1 : PySem.W.codeIn K cd1 "Node.__init__" = true) (k1 : PySem.W.keepIn K (.ref f1) = true)
    {kk1_alternative : Tok} (kd1_alternative : PySem.W.nsIn K kD1 "alternative" = some (some (.int (-1) kk1_alternative)))
    {kT1 : Addr} {koc1 : Option Addr} {kn1 : Nat} {ksl1 : Array (Option Value)} (kd1_nodes : PySem.W.nsIn K kD1 "nodes" = some (some (.ref kT1))) (kt1 : K.lookup kT1 = some ⟨.type "tuple", koc1, .seq #[] kn1, ksl1⟩)
    {kk1_popped : Tok} (kd1_popped : PySem.W.nsIn K kD1 "popped" = some (some (.int (0) kk1_popped)))
    (a2 : PySem.W.nsIn K mainGlobals "is_leaf" = some (some (.ref f2)))
    (l2 : K.lookup f2 = some ⟨oc2, od2, .func (PySem.W.fnOf "is_leaf" "is_leaf" (defArgs s_is_leaf) (defBody s_is_leaf) (defScope s_is_leaf) .none kV2 dc2 pm2 an2 cd2 ct2), sl2⟩) (c2 : PySem.W.codeIn K cd2 "is_leaf" = true) (k2 : PySem.W.keepIn K (.ref f2) = true)
    (a3 : PySem.W.nsIn K mainGlobals "at_path" = some (some (.ref f3)))
    {dT3 : Addr} {doc3 : Option Addr} {dn3 : Nat} {dsl3 : Array (Option Value)} {dt3_0 : Tok}
    (l3 : K.lookup f3 = some ⟨oc3, od3, .func (PySem.W.fnOf "at_path" "at_path" (defArgs s_at_path) (defBody s_at_path) (defScope s_at_path) (.ref dT3) kV3 dc3 pm3 an3 cd3 ct3), sl3⟩) (c3 : PySem.W.codeIn K cd3 "at_path" = true) (k3 : PySem.W.keepIn K (.ref f3) = true)
    (lt3 : K.lookup dT3 = some ⟨.type "tuple", doc3, .seq #[.int (0) dt3_0] dn3, dsl3⟩)
    (a4 : PySem.W.nsIn K mainGlobals "path_to" = some (some (.ref f4)))
    (l4 : K.lookup f4 = some ⟨oc4, od4, .func (PySem.W.fnOf "path_to" "path_to" (defArgs s_path_to) (defBody s_path_to) (defScope s_path_to) .none kV4 dc4 pm4 an4 cd4 ct4), sl4⟩) (c4 : PySem.W.codeIn K cd4 "path_to" = true) (k4 : PySem.W.keepIn K (.ref f4) = true)
    (a5 : PySem.W.nsIn K mainGlobals "_child_at" = some (some (.ref f5)))
    (l5 : K.lookup f5 = some ⟨oc5, od5, .func (PySem.W.fnOf "_child_at" "_child_at" (defArgs s_child_at) (defBody s_child_at) (defScope s_child_at) .none kV5 dc5 pm5 an5 cd5 ct5), sl5⟩) (c5 : PySem.W.codeIn K cd5 "_child_at" = true) (k5 : PySem.W.keepIn K (.ref f5) = true)
    (a6 : PySem.W.nsIn K mainGlobals "source" = some (some (.ref f6)))
    (l6 : K.lookup f6 = some ⟨oc6, od6, .func (PySem.W.fnOf "source" "source" (defArgs s_source) (defBody s_source) (defScope s_source) .none kV6 dc6 pm6 an6 cd6 ct6), sl6⟩) (c6 : PySem.W.codeIn K cd6 "source" = true) (k6 : PySem.W.keepIn K (.ref f6) = true)
    (a7 : PySem.W.nsIn K mainGlobals "_law_reel" = some (some (.ref f7)))
    (l7 : K.lookup f7 = some ⟨oc7, od7, .func (PySem.W.fnOf "_law_reel" "_law_reel" (defArgs s_law_reel) (defBody s_law_reel) (defScope s_law_reel) .none kV7 dc7 pm7 an7 cd7 ct7), sl7⟩) (c7 : PySem.W.codeIn K cd7 "_law_reel" = true) (k7 : PySem.W.keepIn K (.ref f7) = true)
    (a8 : PySem.W.nsIn K mainGlobals "_law_draw" = some (some (.ref f8)))
    (l8 : K.lookup f8 = some ⟨oc8, od8, .func (PySem.W.fnOf "_law_draw" "_law_draw" (defArgs s_law_draw) (defBody s_law_draw) (defScope s_law_draw) .none kV8 dc8 pm8 an8 cd8 ct8), sl8⟩) (c8 : PySem.W.codeIn K cd8 "_law_draw" = true) (k8 : PySem.W.keepIn K (.ref f8) = true)
    (a9 : PySem.W.nsIn K mainGlobals "_law_pick" = some (some (.ref f9)))
    (l9 : K.lookup f9 = some ⟨oc9, od9, .func (PySem.W.fnOf "_law_pick" "_law_pick" (defArgs s_law_pick) (defBody s_law_pick) (defScope s_law_pick) .none kV9 dc9 pm9 an9 cd9 ct9), sl9⟩) (c9 : PySem.W.codeIn K cd9 "_law_pick" = true) (k9 : PySem.W.keepIn K (.ref f9) = true)
    (a10 : PySem.W.nsIn K mainGlobals "_law_word" = some (some (.ref f10)))
    (l10 : K.lookup f10 = some ⟨oc10, od10, .func (PySem.W.fnOf "_law_word" "_law_word" (defArgs s_law_word) (defBody s_law_word) (defScope s_law_word) .none kV10 dc10 pm10 an10 cd10 ct10), sl10⟩) (c10 : PySem.W.codeIn K cd10 "_law_word" = true) (k10 : PySem.W.keepIn K (.ref f10) = true)
    (a11 : PySem.W.nsIn K mainGlobals "_law_comb" = some (some (.ref f11)))
    (l11 : K.lookup f11 = some ⟨oc11, od11, .func (PySem.W.fnOf "_law_comb" "_law_comb" (defArgs s_law_comb) (defBody s_law_comb) (defScope s_law_comb) .none kV11 dc11 pm11 an11 cd11 ct11), sl11⟩) (c11 : PySem.W.codeIn K cd11 "_law_comb" = true) (k11 : PySem.W.keepIn K (.ref f11) = true)
    (a12 : PySem.W.nsIn K mainGlobals "_law_levels" = some (some (.ref f12)))
    (l12 : K.lookup f12 = some ⟨oc12, od12, .func (PySem.W.fnOf "_law_levels" "_law_levels" (defArgs s_law_levels) (defBody s_law_levels) (defScope s_law_levels) .none kV12 dc12 pm12 an12 cd12 ct12), sl12⟩) (c12 : PySem.W.codeIn K cd12 "_law_levels" = true) (k12 : PySem.W.keepIn K (.ref f12) = true)
    (a13 : PySem.W.nsIn K mainGlobals "_law_shape" = some (some (.ref f13)))
    (l13 : K.lookup f13 = some ⟨oc13, od13, .func (PySem.W.fnOf "_law_shape" "_law_shape" (defArgs s_law_shape) (defBody s_law_shape) (defScope s_law_shape) .none kV13 dc13 pm13 an13 cd13 ct13), sl13⟩) (c13 : PySem.W.codeIn K cd13 "_law_shape" = true) (k13 : PySem.W.keepIn K (.ref f13) = true)
    (a14 : PySem.W.nsIn K mainGlobals "_law_is_leaf" = some (some (.ref f14)))
    (l14 : K.lookup f14 = some ⟨oc14, od14, .func (PySem.W.fnOf "_law_is_leaf" "_law_is_leaf" (defArgs s_law_is_leaf) (defBody s_law_is_leaf) (defScope s_law_is_leaf) .none kV14 dc14 pm14 an14 cd14 ct14), sl14⟩) (c14 : PySem.W.codeIn K cd14 "_law_is_leaf" = true) (k14 : PySem.W.keepIn K (.ref f14) = true)
    (a15 : PySem.W.nsIn K mainGlobals "_law_leaf_row" = some (some (.ref f15)))
    (l15 : K.lookup f15 = some ⟨oc15, od15, .func (PySem.W.fnOf "_law_leaf_row" "_law_leaf_row" (defArgs s_law_leaf_row) (defBody s_law_leaf_row) (defScope s_law_leaf_row) .none kV15 dc15 pm15 an15 cd15 ct15), sl15⟩) (c15 : PySem.W.codeIn K cd15 "_law_leaf_row" = true) (k15 : PySem.W.keepIn K (.ref f15) = true)
    (a16 : PySem.W.nsIn K mainGlobals "_law_flat" = some (some (.ref f16)))
    (l16 : K.lookup f16 = some ⟨oc16, od16, .func (PySem.W.fnOf "_law_flat" "_law_flat" (defArgs s_law_flat) (defBody s_law_flat) (defScope s_law_flat) .none kV16 dc16 pm16 an16 cd16 ct16), sl16⟩) (c16 : PySem.W.codeIn K cd16 "_law_flat" = true) (k16 : PySem.W.keepIn K (.ref f16) = true)
    (a17 : PySem.W.nsIn K mainGlobals "_law_bare_rows" = some (some (.ref f17)))
    (l17 : K.lookup f17 = some ⟨oc17, od17, .func (PySem.W.fnOf "_law_bare_rows" "_law_bare_rows" (defArgs s_law_bare_rows) (defBody s_law_bare_rows) (defScope s_law_bare_rows) .none kV17 dc17 pm17 an17 cd17 ct17), sl17⟩) (c17 : PySem.W.codeIn K cd17 "_law_bare_rows" = true) (k17 : PySem.W.keepIn K (.ref f17) = true)
    (a18 : PySem.W.nsIn K mainGlobals "_law_proper" = some (some (.ref f18)))
    (l18 : K.lookup f18 = some ⟨oc18, od18, .func (PySem.W.fnOf "_law_proper" "_law_proper" (defArgs s_law_proper) (defBody s_law_proper) (defScope s_law_proper) .none kV18 dc18 pm18 an18 cd18 ct18), sl18⟩) (c18 : PySem.W.codeIn K cd18 "_law_proper" = true) (k18 : PySem.W.keepIn K (.ref f18) = true)
    (a19 : PySem.W.nsIn K mainGlobals "_law_made" = some (some (.ref f19)))
    (l19 : K.lookup f19 = some ⟨oc19, od19, .func (PySem.W.fnOf "_law_made" "_law_made" (defArgs s_law_made) (defBody s_law_made) (defScope s_law_made) .none kV19 dc19 pm19 an19 cd19 ct19), sl19⟩) (c19 : PySem.W.codeIn K cd19 "_law_made" = true) (k19 : PySem.W.keepIn K (.ref f19) = true)
    (a20 : PySem.W.nsIn K mainGlobals "_law_kids" = some (some (.ref f20)))
    (l20 : K.lookup f20 = some ⟨oc20, od20, .func (PySem.W.fnOf "_law_kids" "_law_kids" (defArgs s_law_kids) (defBody s_law_kids) (defScope s_law_kids) .none kV20 dc20 pm20 an20 cd20 ct20), sl20⟩) (c20 : PySem.W.codeIn K cd20 "_law_kids" = true) (k20 : PySem.W.keepIn K (.ref f20) = true)
    (a21 : PySem.W.nsIn K mainGlobals "_law_end" = some (some (.ref f21)))
    (l21 : K.lookup f21 = some ⟨oc21, od21, .func (PySem.W.fnOf "_law_end" "_law_end" (defArgs s_law_end) (defBody s_law_end) (defScope s_law_end) .none kV21 dc21 pm21 an21 cd21 ct21), sl21⟩) (c21 : PySem.W.codeIn K cd21 "_law_end" = true) (k21 : PySem.W.keepIn K (.ref f21) = true)
    (a22 : PySem.W.nsIn K mainGlobals "_law_places" = some (some (.ref f22)))
    (l22 : K.lookup f22 = some ⟨oc22, od22, .func (PySem.W.fnOf "_law_places" "_law_places" (defArgs s_law_places) (defBody s_law_places) (defScope s_law_places) .none kV22 dc22 pm22 an22 cd22 ct22), sl22⟩) (c22 : PySem.W.codeIn K cd22 "_law_places" = true) (k22 : PySem.W.keepIn K (.ref f22) = true)
    (a23 : PySem.W.nsIn K mainGlobals "_law_ups" = some (some (.ref f23)))
    (l23 : K.lookup f23 = some ⟨oc23, od23, .func (PySem.W.fnOf "_law_ups" "_law_ups" (defArgs s_law_ups) (defBody s_law_ups) (defScope s_law_ups) .none kV23 dc23 pm23 an23 cd23 ct23), sl23⟩) (c23 : PySem.W.codeIn K cd23 "_law_ups" = true) (k23 : PySem.W.keepIn K (.ref f23) = true)
    (a24 : PySem.W.nsIn K mainGlobals "_law_path" = some (some (.ref f24)))
    (l24 : K.lookup f24 = some ⟨oc24, od24, .func (PySem.W.fnOf "_law_path" "_law_path" (defArgs s_law_path) (defBody s_law_path) (defScope s_law_path) .none kV24 dc24 pm24 an24 cd24 ct24), sl24⟩) (c24 : PySem.W.codeIn K cd24 "_law_path" = true) (k24 : PySem.W.keepIn K (.ref f24) = true)
    (a25 : PySem.W.nsIn K mainGlobals "_law_found" = some (some (.ref f25)))
    (l25 : K.lookup f25 = some ⟨oc25, od25, .func (PySem.W.fnOf "_law_found" "_law_found" (defArgs s_law_found) (defBody s_law_found) (defScope s_law_found) .none kV25 dc25 pm25 an25 cd25 ct25), sl25⟩) (c25 : PySem.W.codeIn K cd25 "_law_found" = true) (k25 : PySem.W.keepIn K (.ref f25) = true)
    (a26 : PySem.W.nsIn K mainGlobals "_law_is_path" = some (some (.ref f26)))
    (l26 : K.lookup f26 = some ⟨oc26, od26, .func (PySem.W.fnOf "_law_is_path" "_law_is_path" (defArgs s_law_is_path) (defBody s_law_is_path) (defScope s_law_is_path) .none kV26 dc26 pm26 an26 cd26 ct26), sl26⟩) (c26 : PySem.W.codeIn K cd26 "_law_is_path" = true) (k26 : PySem.W.keepIn K (.ref f26) = true)
    (a27 : PySem.W.nsIn K mainGlobals "_law_no_path" = some (some (.ref f27)))
    (l27 : K.lookup f27 = some ⟨oc27, od27, .func (PySem.W.fnOf "_law_no_path" "_law_no_path" (defArgs s_law_no_path) (defBody s_law_no_path) (defScope s_law_no_path) .none kV27 dc27 pm27 an27 cd27 ct27), sl27⟩) (c27 : PySem.W.codeIn K cd27 "_law_no_path" = true) (k27 : PySem.W.keepIn K (.ref f27) = true)
    (a28 : PySem.W.nsIn K mainGlobals "_law_no_leaf" = some (some (.ref f28)))
    (l28 : K.lookup f28 = some ⟨oc28, od28, .func (PySem.W.fnOf "_law_no_leaf" "_law_no_leaf" (defArgs s_law_no_leaf) (defBody s_law_no_leaf) (defScope s_law_no_leaf) .none kV28 dc28 pm28 an28 cd28 ct28), sl28⟩) (c28 : PySem.W.codeIn K cd28 "_law_no_leaf" = true) (k28 : PySem.W.keepIn K (.ref f28) = true)
    (a29 : PySem.W.nsIn K mainGlobals "_law_no_leaf_by_base" = some (some (.ref f29)))
    (l29 : K.lookup f29 = some ⟨oc29, od29, .func (PySem.W.fnOf "_law_no_leaf_by_base" "_law_no_leaf_by_base" (defArgs s_law_no_leaf_by_base) (defBody s_law_no_leaf_by_base) (defScope s_law_no_leaf_by_base) .none kV29 dc29 pm29 an29 cd29 ct29), sl29⟩) (c29 : PySem.W.codeIn K cd29 "_law_no_leaf_by_base" = true) (k29 : PySem.W.keepIn K (.ref f29) = true)
    (a30 : PySem.W.nsIn K mainGlobals "_law_nodes_found" = some (some (.ref f30)))
    (l30 : K.lookup f30 = some ⟨oc30, od30, .func (PySem.W.fnOf "_law_nodes_found" "_law_nodes_found" (defArgs s_law_nodes_found) (defBody s_law_nodes_found) (defScope s_law_nodes_found) .none kV30 dc30 pm30 an30 cd30 ct30), sl30⟩) (c30 : PySem.W.codeIn K cd30 "_law_nodes_found" = true) (k30 : PySem.W.keepIn K (.ref f30) = true)
    (a31 : PySem.W.nsIn K mainGlobals "_law_leaves_found" = some (some (.ref f31)))
    (l31 : K.lookup f31 = some ⟨oc31, od31, .func (PySem.W.fnOf "_law_leaves_found" "_law_leaves_found" (defArgs s_law_leaves_found) (defBody s_law_leaves_found) (defScope s_law_leaves_found) .none kV31 dc31 pm31 an31 cd31 ct31), sl31⟩) (c31 : PySem.W.codeIn K cd31 "_law_leaves_found" = true) (k31 : PySem.W.keepIn K (.ref f31) = true)
    (a32 : PySem.W.nsIn K mainGlobals "_law_sources" = some (some (.ref f32)))
    (l32 : K.lookup f32 = some ⟨oc32, od32, .func (PySem.W.fnOf "_law_sources" "_law_sources" (defArgs s_law_sources) (defBody s_law_sources) (defScope s_law_sources) .none kV32 dc32 pm32 an32 cd32 ct32), sl32⟩) (c32 : PySem.W.codeIn K cd32 "_law_sources" = true) (k32 : PySem.W.keepIn K (.ref f32) = true)
    (a33 : PySem.W.nsIn K mainGlobals "_law_twice_found" = some (some (.ref f33)))
    (l33 : K.lookup f33 = some ⟨oc33, od33, .func (PySem.W.fnOf "_law_twice_found" "_law_twice_found" (defArgs s_law_twice_found) (defBody s_law_twice_found) (defScope s_law_twice_found) .none kV33 dc33 pm33 an33 cd33 ct33), sl33⟩) (c33 : PySem.W.codeIn K cd33 "_law_twice_found" = true) (k33 : PySem.W.keepIn K (.ref f33) = true)
    (a34 : PySem.W.nsIn K mainGlobals "law" = some (some (.ref f34)))
    (l34 : K.lookup f34 = some ⟨oc34, od34, .func (PySem.W.fnOf "law" "law" (defArgs s_law) (defBody s_law) (defScope s_law) .none kV34 dc34 pm34 an34 cd34 ct34), sl34⟩) (c34 : PySem.W.codeIn K cd34 "law" = true) (k34 : PySem.W.keepIn K (.ref f34) = true)
    (bga_MendedError : PySem.W.specialIn K (.ref C_MendedError) "__getattribute__" = some (some (.builtin "type.__getattribute__"))) (brd_MendedError : PySem.W.readsIn K C_MendedError (.type "type") = true) (bfi_MendedError : PySem.W.findCls K (.ref C_MendedError) (.type "type") "__init__" = some (.val (.builtin "ValueError.__init__")))
    {nm_NoNode q_NoNode : Str} {N_NoNode : Addr} {bs_NoNode : List Value} {sn_NoNode : List Str} {sub_NoNode : List Value} {ab_NoNode : Bool} {col_NoNode : Option Bool} {dd_NoNode : Option Addr} {m0_NoNode m1_NoNode m2_NoNode m3_NoNode m5_NoNode : Option Value}
    (xL_NoNode : K.lookup C_NoNode = some (excClassObj nm_NoNode q_NoNode C_NoNode N_NoNode bs_NoNode (.ref C_MendedError :: [.type "ValueError", .type "Exception", .type "BaseException", .type "object"]) true sn_NoNode sub_NoNode ab_NoNode col_NoNode dd_NoNode m0_NoNode m1_NoNode m2_NoNode m3_NoNode m5_NoNode "ValueError.__new__"))
    (sa_NoNode : PySem.W.findIn K (.ref C_NoNode) "__setattr__" = some (some (.builtin "object.__setattr__")))
    (ga_NoNode : PySem.W.findIn K (.ref C_NoNode) "__getattribute__" = some (some (.builtin "BaseException.__getattribute__")))
    (gg_NoNode : PySem.W.findIn K (.ref C_NoNode) "__getattr__" = some none)
    (kC_NoNode : PySem.W.keepIn K (.ref C_NoNode) = true)
    (eC_NoNode : PySem.W.subIn K (.ref C_NoNode) (.type "BaseException") = some true)
    (tC_NoNode : PySem.W.typeIn K (.ref C_NoNode) = some (.type "type"))
    (hd_NoNode : PySem.W.hasDictIn K C_NoNode = true)
    (ha_NoNode : PySem.W.findIn K (.ref C_NoNode) "__class__" = some (some (.builtin "object.__class__")))
    (hm_NoNode : PySem.W.mroIn K C_NoNode (.type "object") = some true)
    (sC_NoNode : PySem.W.subIn K (.ref C_NoNode) (.ref C_NoNode) = some true)
    (tI_NoNode : PySem.W.typeIn K (.ref f0) = some (.type "function"))
    (n_NoNode_path : PySem.W.findIn K (.ref C_NoNode) "path" = some none)
    (hn : PySem.W.specialIn K (.builtin "object.__class__") "__get__" = some (some (.builtin "getset_descriptor.__get__"))) (ht : PySem.W.takesIn K (.builtin "object.__class__") = some true)
    (pg_Node : PySem.W.plainGet K C_Node Str.empty = true)
    (hdo_Node : PySem.W.hasDictIn K C_Node = true)
    (po_Node : PySem.W.plainOver K C_Node = true)
    (sao_Node : PySem.W.findIn K (.ref C_Node) "__setattr__" = some (some (.builtin "object.__setattr__")))
    (mkC_Node : PySem.W.makesIn K C_Node = true)
    (kcC_Node : PySem.W.keepIn K (.ref C_Node) = true)
    (ha_Node : PySem.W.findIn K (.ref C_Node) "__class__" = some (some (.builtin "object.__class__")))
    (hm_Node : PySem.W.mroIn K C_Node (.type "object") = some true)
    (sC_Node : PySem.W.subIn K (.ref C_Node) (.ref C_Node) = some true)
    (iC_Node : PySem.W.isClsIn K C_Node = true)
    (tY_Node : PySem.W.typeIn K (.ref C_Node) = some (.type "type"))
    (na_Node_kind : PySem.W.findIn K (.ref C_Node) "kind" = some none)
    (na_Node_symbol : PySem.W.findIn K (.ref C_Node) "symbol" = some none)
    (na_Node_state : PySem.W.findIn K (.ref C_Node) "state" = some none)
    (na_Node_lead : PySem.W.findIn K (.ref C_Node) "lead" = some none)
    (na_Node_width : PySem.W.findIn K (.ref C_Node) "width" = some none)
    (na_Node_look : PySem.W.findIn K (.ref C_Node) "look" = some none)
    (na_Node_alternative : PySem.W.findIn K (.ref C_Node) "alternative" = some none)
    (na_Node_nodes : PySem.W.findIn K (.ref C_Node) "nodes" = some none)
    (na_Node_popped : PySem.W.findIn K (.ref C_Node) "popped" = some none)
    (if_Node__init__ : PySem.W.isFn K (.ref f1) = true)
    (s_NoNode_MendedError : PySem.W.subIn K (.ref C_NoNode) (.ref C_MendedError) = some true)
    (iC_MendedError : PySem.W.isClsIn K C_MendedError = true) (tY_MendedError : PySem.W.typeIn K (.ref C_MendedError) = some (.type "type"))
    (s_NoNode_ValueError : PySem.W.subIn K (.ref C_NoNode) (.type "ValueError") = some true)
    (s_NoNode_NoNode : PySem.W.subIn K (.ref C_NoNode) (.ref C_NoNode) = some true)
    (iC_NoNode : PySem.W.isClsIn K C_NoNode = true) (tY_NoNode : PySem.W.typeIn K (.ref C_NoNode) = some (.type "type"))
    (s_NoNode_BadMark : PySem.W.subIn K (.ref C_NoNode) (.ref C_BadMark) = some false)
    (iC_BadMark : PySem.W.isClsIn K C_BadMark = true) (tY_BadMark : PySem.W.typeIn K (.ref C_BadMark) = some (.type "type"))
    (s_NoNode_EditError : PySem.W.subIn K (.ref C_NoNode) (.ref C_EditError) = some false)
    (iC_EditError : PySem.W.isClsIn K C_EditError = true) (tY_EditError : PySem.W.typeIn K (.ref C_EditError) = some (.type "type"))
    (s_NoNode_Entangled : PySem.W.subIn K (.ref C_NoNode) (.ref C_Entangled) = some false)
    (iC_Entangled : PySem.W.isClsIn K C_Entangled = true) (tY_Entangled : PySem.W.typeIn K (.ref C_Entangled) = some (.type "type"))
    (s_NoNode_GrammarError : PySem.W.subIn K (.ref C_NoNode) (.ref C_GrammarError) = some false)
    (iC_GrammarError : PySem.W.isClsIn K C_GrammarError = true) (tY_GrammarError : PySem.W.typeIn K (.ref C_GrammarError) = some (.type "type"))
    (s_NoNode_HistoryError : PySem.W.subIn K (.ref C_NoNode) (.ref C_HistoryError) = some false)
    (iC_HistoryError : PySem.W.isClsIn K C_HistoryError = true) (tY_HistoryError : PySem.W.typeIn K (.ref C_HistoryError) = some (.type "type"))
    (s_NoNode_NoLayer : PySem.W.subIn K (.ref C_NoNode) (.ref C_NoLayer) = some false)
    (iC_NoLayer : PySem.W.isClsIn K C_NoLayer = true) (tY_NoLayer : PySem.W.typeIn K (.ref C_NoLayer) = some (.type "type"))
    (s_NoNode_NoMark : PySem.W.subIn K (.ref C_NoNode) (.ref C_NoMark) = some false)
    (iC_NoMark : PySem.W.isClsIn K C_NoMark = true) (tY_NoMark : PySem.W.typeIn K (.ref C_NoMark) = some (.type "type"))
    (s_NoNode_NoWitness : PySem.W.subIn K (.ref C_NoNode) (.ref C_NoWitness) = some false)
    (iC_NoWitness : PySem.W.isClsIn K C_NoWitness = true) (tY_NoWitness : PySem.W.typeIn K (.ref C_NoWitness) = some (.type "type"))
    (s_NoNode_PatternError : PySem.W.subIn K (.ref C_NoNode) (.ref C_PatternError) = some false)
    (iC_PatternError : PySem.W.isClsIn K C_PatternError = true) (tY_PatternError : PySem.W.typeIn K (.ref C_PatternError) = some (.type "type"))
    (s_NoNode_QueryError : PySem.W.subIn K (.ref C_NoNode) (.ref C_QueryError) = some false)
    (iC_QueryError : PySem.W.isClsIn K C_QueryError = true) (tY_QueryError : PySem.W.typeIn K (.ref C_QueryError) = some (.type "type"))
    (s_NoNode_TableError : PySem.W.subIn K (.ref C_NoNode) (.ref C_TableError) = some false)
    (iC_TableError : PySem.W.isClsIn K C_TableError = true) (tY_TableError : PySem.W.typeIn K (.ref C_TableError) = some (.type "type"))
    (s_NoNode_TreeError : PySem.W.subIn K (.ref C_NoNode) (.ref C_TreeError) = some false)
    (iC_TreeError : PySem.W.isClsIn K C_TreeError = true) (tY_TreeError : PySem.W.typeIn K (.ref C_TreeError) = some (.type "type"))
    (s_NoNode_UnknownLanguage : PySem.W.subIn K (.ref C_NoNode) (.ref C_UnknownLanguage) = some false)
    (iC_UnknownLanguage : PySem.W.isClsIn K C_UnknownLanguage = true) (tY_UnknownLanguage : PySem.W.typeIn K (.ref C_UnknownLanguage) = some (.type "type"))
    (xb_NoNode_MendedError : PySem.W.subIn K (.ref C_MendedError) (.type "BaseException") = some true) (xd_NoNode_MendedError : PySem.W.hasDictIn K C_MendedError = true)
    (z0 : PySem.W.nsIn K mainGlobals "range" = some none)
    (z1 : PySem.W.nsIn K mainGlobals "min" = some none)
    (z2 : PySem.W.nsIn K mainGlobals "max" = some none)
    (z3 : PySem.W.nsIn K mainGlobals "len" = some none)
    (z4 : PySem.W.nsIn K mainGlobals "abs" = some none)
    (z5 : PySem.W.nsIn K mainGlobals "int" = some none)
    (z6 : PySem.W.nsIn K mainGlobals "sum" = some none)
    (z7 : PySem.W.nsIn K mainGlobals "isinstance" = some none)
    (z8 : PySem.W.nsIn K mainGlobals "bool" = some none)
    (z9 : PySem.W.nsIn K mainGlobals "list" = some none)
    (z10 : PySem.W.nsIn K mainGlobals "tuple" = some none)
    (z11 : PySem.W.nsIn K mainGlobals "str" = some none)
    (z12 : PySem.W.nsIn K mainGlobals "enumerate" = some none)
    (z13 : PySem.W.nsIn K mainGlobals "ValueError" = some none)
    : ∃ fd : FuncData, (∀ (s : Shared) (v : Value), BindsTo s fd ⟨[v], []⟩ [("script", v)]) ∧ ∀ base : Heap, K.In base → base.Ns mainGlobals mg → FnOk l.prog w K mg base CX0 11 fa fd ["script"] (spLaw K) := by
  have e := hfa.symm.trans (PySem.W.mg_of X G a34)
  cases e
  have F0 := fun_mk (st := s_NoNode_init) l0 c0 k0
  have b0 := F0.binds (ps := ["self", "path"]) fun _ _ _ _ _ _ us hl => match us, hl with | [_, _], _ => rfl
  have F1 := fun_mk (st := s_Node_init) l1 c1 k1
  have F2 := fun_mk (st := s_is_leaf) l2 c2 k2
  have b2 := F2.binds (ps := ["node"]) fun _ _ _ _ _ _ us hl => match us, hl with | [_], _ => rfl
  have F4 := fun_mk (st := s_path_to) l4 c4 k4
  have b4 := F4.binds (ps := ["node", "place"]) fun _ _ _ _ _ _ us hl => match us, hl with | [_, _], _ => rfl
  have F5 := fun_mk (st := s_child_at) l5 c5 k5
  have b5 := F5.binds (ps := ["node", "offset"]) fun _ _ _ _ _ _ us hl => match us, hl with | [_, _], _ => rfl
  have F6 := fun_mk (st := s_source) l6 c6 k6
  have b6 := F6.binds (ps := ["node", "place", "text"]) fun _ _ _ _ _ _ us hl => match us, hl with | [_, _, _], _ => rfl
  have F7 := fun_mk (st := s_law_reel) l7 c7 k7
  have b7 := F7.binds (ps := ["script"]) fun _ _ _ _ _ _ us hl => match us, hl with | [_], _ => rfl
  have F8 := fun_mk (st := s_law_draw) l8 c8 k8
  have b8 := F8.binds (ps := ["reel", "size"]) fun _ _ _ _ _ _ us hl => match us, hl with | [_, _], _ => rfl
  have F9 := fun_mk (st := s_law_pick) l9 c9 k9
  have b9 := F9.binds (ps := ["reel", "row"]) fun _ _ _ _ _ _ us hl => match us, hl with | [_, _], _ => rfl
  have F10 := fun_mk (st := s_law_word) l10 c10 k10
  have b10 := F10.binds (ps := ["reel", "letters", "least", "most"]) fun _ _ _ _ _ _ us hl => match us, hl with | [_, _, _, _], _ => rfl
  have F11 := fun_mk (st := s_law_comb) l11 c11 k11
  have b11 := F11.binds (ps := ["reel", "deep"]) fun _ _ _ _ _ _ us hl => match us, hl with | [_, _], _ => rfl
  have F12 := fun_mk (st := s_law_levels) l12 c12 k12
  have b12 := F12.binds (ps := ["reel"]) fun _ _ _ _ _ _ us hl => match us, hl with | [_], _ => rfl
  have F13 := fun_mk (st := s_law_shape) l13 c13 k13
  have b13 := F13.binds (ps := ["reel", "rooted"]) fun _ _ _ _ _ _ us hl => match us, hl with | [_, _], _ => rfl
  have F14 := fun_mk (st := s_law_is_leaf) l14 c14 k14
  have b14 := F14.binds (ps := ["row"]) fun _ _ _ _ _ _ us hl => match us, hl with | [_], _ => rfl
  have F15 := fun_mk (st := s_law_leaf_row) l15 c15 k15
  have b15 := F15.binds (ps := ["reel", "level", "skipped", "slim"]) fun _ _ _ _ _ _ us hl => match us, hl with | [_, _, _, _], _ => rfl
  have F16 := fun_mk (st := s_law_flat) l16 c16 k16
  have b16 := F16.binds (ps := ["levels", "at"]) fun _ _ _ _ _ _ us hl => match us, hl with | [_, _], _ => rfl
  have F17 := fun_mk (st := s_law_bare_rows) l17 c17 k17
  have b17 := F17.binds (ps := ["reel", "levels", "rooted"]) fun _ _ _ _ _ _ us hl => match us, hl with | [_, _, _], _ => rfl
  have F18 := fun_mk (st := s_law_proper) l18 c18 k18
  have b18 := F18.binds (ps := ["rows"]) fun _ _ _ _ _ _ us hl => match us, hl with | [_], _ => rfl
  have F19 := fun_mk (st := s_law_made) l19 c19 k19
  have b19 := F19.binds (ps := ["rows"]) fun _ _ _ _ _ _ us hl => match us, hl with | [_], _ => rfl
  have F20 := fun_mk (st := s_law_kids) l20 c20 k20
  have b20 := F20.binds (ps := ["rows"]) fun _ _ _ _ _ _ us hl => match us, hl with | [_], _ => rfl
  have F21 := fun_mk (st := s_law_end) l21 c21 k21
  have b21 := F21.binds (ps := ["rows", "at"]) fun _ _ _ _ _ _ us hl => match us, hl with | [_, _], _ => rfl
  have F22 := fun_mk (st := s_law_places) l22 c22 k22
  have b22 := F22.binds (ps := ["rows", "start"]) fun _ _ _ _ _ _ us hl => match us, hl with | [_, _], _ => rfl
  have F23 := fun_mk (st := s_law_ups) l23 c23 k23
  have b23 := F23.binds (ps := ["rows"]) fun _ _ _ _ _ _ us hl => match us, hl with | [_], _ => rfl
  have F24 := fun_mk (st := s_law_path) l24 c24 k24
  have b24 := F24.binds (ps := ["ups", "at"]) fun _ _ _ _ _ _ us hl => match us, hl with | [_, _], _ => rfl
  have F25 := fun_mk (st := s_law_found) l25 c25 k25
  have b25 := F25.binds (ps := ["told", "due"]) fun _ _ _ _ _ _ us hl => match us, hl with | [_, _], _ => rfl
  have F26 := fun_mk (st := s_law_is_path) l26 c26 k26
  have b26 := F26.binds (ps := ["told", "due"]) fun _ _ _ _ _ _ us hl => match us, hl with | [_, _], _ => rfl
  have F27 := fun_mk (st := s_law_no_path) l27 c27 k27
  have b27 := F27.binds (ps := ["node", "path", "place"]) fun _ _ _ _ _ _ us hl => match us, hl with | [_, _, _], _ => rfl
  have F28 := fun_mk (st := s_law_no_leaf) l28 c28 k28
  have b28 := F28.binds (ps := ["node", "place"]) fun _ _ _ _ _ _ us hl => match us, hl with | [_, _], _ => rfl
  have F29 := fun_mk (st := s_law_no_leaf_by_base) l29 c29 k29
  have b29 := F29.binds (ps := ["node", "place"]) fun _ _ _ _ _ _ us hl => match us, hl with | [_, _], _ => rfl
  have F30 := fun_mk (st := s_law_nodes_found) l30 c30 k30
  have b30 := F30.binds (ps := ["rows", "made", "asked", "start", "reel"]) fun _ _ _ _ _ _ us hl => match us, hl with | [_, _, _, _, _], _ => rfl
  have F31 := fun_mk (st := s_law_leaves_found) l31 c31 k31
  have b31 := F31.binds (ps := ["rows", "made", "asked", "at"]) fun _ _ _ _ _ _ us hl => match us, hl with | [_, _, _, _], _ => rfl
  have F32 := fun_mk (st := s_law_sources) l32 c32 k32
  have b32 := F32.binds (ps := ["rows", "made", "asked", "reel"]) fun _ _ _ _ _ _ us hl => match us, hl with | [_, _, _, _], _ => rfl
  have F33 := fun_mk (st := s_law_twice_found) l33 c33 k33
  have b33 := F33.binds (ps := ["reel", "rows", "made", "start", "skip"]) fun _ _ _ _ _ _ us hl => match us, hl with | [_, _, _, _, _], _ => rfl
  have F34 := fun_mk (st := s_law) l34 c34 k34
  have b34 := F34.binds (ps := ["script"]) fun _ _ _ _ _ _ us hl => match us, hl with | [_], _ => rfl
  let T : Txt K mg :=
    { C_MendedError := C_MendedError,
      G_MendedError := PySem.W.mg_of X G g_MendedError,
      C_NoNode := C_NoNode,
      G_NoNode := PySem.W.mg_of X G g_NoNode,
      C_Node := C_Node,
      G_Node := PySem.W.mg_of X G g_Node,
      C_BadMark := C_BadMark,
      G_BadMark := PySem.W.mg_of X G g_BadMark,
      C_EditError := C_EditError,
      G_EditError := PySem.W.mg_of X G g_EditError,
      C_Entangled := C_Entangled,
      G_Entangled := PySem.W.mg_of X G g_Entangled,
      C_GrammarError := C_GrammarError,
      G_GrammarError := PySem.W.mg_of X G g_GrammarError,
      C_HistoryError := C_HistoryError,
      G_HistoryError := PySem.W.mg_of X G g_HistoryError,
      C_NoLayer := C_NoLayer,
      G_NoLayer := PySem.W.mg_of X G g_NoLayer,
      C_NoMark := C_NoMark,
      G_NoMark := PySem.W.mg_of X G g_NoMark,
      C_NoWitness := C_NoWitness,
      G_NoWitness := PySem.W.mg_of X G g_NoWitness,
      C_PatternError := C_PatternError,
      G_PatternError := PySem.W.mg_of X G g_PatternError,
      C_QueryError := C_QueryError,
      G_QueryError := PySem.W.mg_of X G g_QueryError,
      C_TableError := C_TableError,
      G_TableError := PySem.W.mg_of X G g_TableError,
      C_TreeError := C_TreeError,
      G_TreeError := PySem.W.mg_of X G g_TreeError,
      C_UnknownLanguage := C_UnknownLanguage,
      G_UnknownLanguage := PySem.W.mg_of X G g_UnknownLanguage,
      a_NoNode_init := _, fd_NoNode_init := _, F_NoNode_init := F0, b_NoNode_init := b0,
      a_Node_init := _, fd_Node_init := _, F_Node_init := F1, T0_Node := kT1, t0_Node := ⟨_, _, _, kt1⟩, FD_Node_init := ⟨⟨_, _, _, _, _, _, _, _, _, _, rfl, l1, c1, .inl ⟨rfl, rfl⟩, .inr ⟨_, rfl, kwd_all3 ⟨_, kd1_alternative, ⟨_, rfl⟩⟩ ⟨_, kd1_nodes, rfl⟩ ⟨_, kd1_popped, ⟨_, rfl⟩⟩⟩⟩, k1⟩,
      a_is_leaf := _, fd_is_leaf := _, F_is_leaf := F2, b_is_leaf := b2, g_is_leaf := PySem.W.mg_of X G a2,
      a_at_path := _, fd_at_path := _, FD_at_path := ⟨⟨_, _, _, _, _, _, _, _, _, _, rfl, l3, c3, .inr ⟨List.cons_ne_nil _ _, dT3, _, [.int (0) dt3_0], _, rfl, lt3, rfl, .cons ⟨_, rfl⟩ (.nil)⟩, .inl rfl⟩, k3⟩, g_at_path := PySem.W.mg_of X G a3,
      a_path_to := _, fd_path_to := _, F_path_to := F4, b_path_to := b4, g_path_to := PySem.W.mg_of X G a4,
      a_child_at := _, fd_child_at := _, F_child_at := F5, b_child_at := b5, g_child_at := PySem.W.mg_of X G a5,
      a_source := _, fd_source := _, F_source := F6, b_source := b6, g_source := PySem.W.mg_of X G a6,
      a_law_reel := _, fd_law_reel := _, F_law_reel := F7, b_law_reel := b7, g_law_reel := PySem.W.mg_of X G a7,
      a_law_draw := _, fd_law_draw := _, F_law_draw := F8, b_law_draw := b8, g_law_draw := PySem.W.mg_of X G a8,
      a_law_pick := _, fd_law_pick := _, F_law_pick := F9, b_law_pick := b9, g_law_pick := PySem.W.mg_of X G a9,
      a_law_word := _, fd_law_word := _, F_law_word := F10, b_law_word := b10, g_law_word := PySem.W.mg_of X G a10,
      a_law_comb := _, fd_law_comb := _, F_law_comb := F11, b_law_comb := b11, g_law_comb := PySem.W.mg_of X G a11,
      a_law_levels := _, fd_law_levels := _, F_law_levels := F12, b_law_levels := b12, g_law_levels := PySem.W.mg_of X G a12,
      a_law_shape := _, fd_law_shape := _, F_law_shape := F13, b_law_shape := b13, g_law_shape := PySem.W.mg_of X G a13,
      a_law_is_leaf := _, fd_law_is_leaf := _, F_law_is_leaf := F14, b_law_is_leaf := b14, g_law_is_leaf := PySem.W.mg_of X G a14,
      a_law_leaf_row := _, fd_law_leaf_row := _, F_law_leaf_row := F15, b_law_leaf_row := b15, g_law_leaf_row := PySem.W.mg_of X G a15,
      a_law_flat := _, fd_law_flat := _, F_law_flat := F16, b_law_flat := b16, g_law_flat := PySem.W.mg_of X G a16,
      a_law_bare_rows := _, fd_law_bare_rows := _, F_law_bare_rows := F17, b_law_bare_rows := b17, g_law_bare_rows := PySem.W.mg_of X G a17,
      a_law_proper := _, fd_law_proper := _, F_law_proper := F18, b_law_proper := b18, g_law_proper := PySem.W.mg_of X G a18,
      a_law_made := _, fd_law_made := _, F_law_made := F19, b_law_made := b19, g_law_made := PySem.W.mg_of X G a19,
      a_law_kids := _, fd_law_kids := _, F_law_kids := F20, b_law_kids := b20, g_law_kids := PySem.W.mg_of X G a20,
      a_law_end := _, fd_law_end := _, F_law_end := F21, b_law_end := b21, g_law_end := PySem.W.mg_of X G a21,
      a_law_places := _, fd_law_places := _, F_law_places := F22, b_law_places := b22, g_law_places := PySem.W.mg_of X G a22,
      a_law_ups := _, fd_law_ups := _, F_law_ups := F23, b_law_ups := b23, g_law_ups := PySem.W.mg_of X G a23,
      a_law_path := _, fd_law_path := _, F_law_path := F24, b_law_path := b24, g_law_path := PySem.W.mg_of X G a24,
      a_law_found := _, fd_law_found := _, F_law_found := F25, b_law_found := b25, g_law_found := PySem.W.mg_of X G a25,
      a_law_is_path := _, fd_law_is_path := _, F_law_is_path := F26, b_law_is_path := b26, g_law_is_path := PySem.W.mg_of X G a26,
      a_law_no_path := _, fd_law_no_path := _, F_law_no_path := F27, b_law_no_path := b27, g_law_no_path := PySem.W.mg_of X G a27,
      a_law_no_leaf := _, fd_law_no_leaf := _, F_law_no_leaf := F28, b_law_no_leaf := b28, g_law_no_leaf := PySem.W.mg_of X G a28,
      a_law_no_leaf_by_base := _, fd_law_no_leaf_by_base := _, F_law_no_leaf_by_base := F29, b_law_no_leaf_by_base := b29, g_law_no_leaf_by_base := PySem.W.mg_of X G a29,
      a_law_nodes_found := _, fd_law_nodes_found := _, F_law_nodes_found := F30, b_law_nodes_found := b30, g_law_nodes_found := PySem.W.mg_of X G a30,
      a_law_leaves_found := _, fd_law_leaves_found := _, F_law_leaves_found := F31, b_law_leaves_found := b31, g_law_leaves_found := PySem.W.mg_of X G a31,
      a_law_sources := _, fd_law_sources := _, F_law_sources := F32, b_law_sources := b32, g_law_sources := PySem.W.mg_of X G a32,
      a_law_twice_found := _, fd_law_twice_found := _, F_law_twice_found := F33, b_law_twice_found := b33, g_law_twice_found := PySem.W.mg_of X G a33,
      a_law := _, fd_law := _, F_law := F34, b_law := b34, g_law := PySem.W.mg_of X G a34,
      B_MendedError := ⟨bga_MendedError, brd_MendedError, bfi_MendedError⟩,
      E_NoNode := errK_mk (PySem.W.mg_of X G g_NoNode) xL_NoNode (by rfl) sa_NoNode ga_NoNode gg_NoNode a0 tI_NoNode kC_NoNode eC_NoNode tC_NoNode hd_NoNode ha_NoNode hn ht hm_NoNode sC_NoNode,
      n_NoNode_path := n_NoNode_path,
      CL_Node := ⟨pg_Node, hdo_Node, po_Node, sao_Node⟩,
      MK_Node := ⟨mkC_Node, a1, if_Node__init__, kcC_Node⟩,
      IC_Node := ⟨⟨pg_Node, hdo_Node, po_Node, sao_Node⟩, ha_Node, hn, ht, hm_Node, kit_refT sC_Node iC_Node tY_Node⟩,
      NA_Node_kind := na_Node_kind,
      NA_Node_symbol := na_Node_symbol,
      NA_Node_state := na_Node_state,
      NA_Node_lead := na_Node_lead,
      NA_Node_width := na_Node_width,
      NA_Node_look := na_Node_look,
      NA_Node_alternative := na_Node_alternative,
      NA_Node_nodes := na_Node_nodes,
      NA_Node_popped := na_Node_popped,
      k_NoNode_MendedError := kit_refT s_NoNode_MendedError iC_MendedError tY_MendedError,
      k_NoNode_ValueError := kit_refTy s_NoNode_ValueError (by decide +kernel),
      k_NoNode_NoNode := kit_refT s_NoNode_NoNode iC_NoNode tY_NoNode,
      k_NoNode_BadMark := kit_refF sC_NoNode s_NoNode_BadMark iC_BadMark tY_BadMark,
      k_NoNode_EditError := kit_refF sC_NoNode s_NoNode_EditError iC_EditError tY_EditError,
      k_NoNode_Entangled := kit_refF sC_NoNode s_NoNode_Entangled iC_Entangled tY_Entangled,
      k_NoNode_GrammarError := kit_refF sC_NoNode s_NoNode_GrammarError iC_GrammarError tY_GrammarError,
      k_NoNode_HistoryError := kit_refF sC_NoNode s_NoNode_HistoryError iC_HistoryError tY_HistoryError,
      k_NoNode_NoLayer := kit_refF sC_NoNode s_NoNode_NoLayer iC_NoLayer tY_NoLayer,
      k_NoNode_NoMark := kit_refF sC_NoNode s_NoNode_NoMark iC_NoMark tY_NoMark,
      k_NoNode_NoWitness := kit_refF sC_NoNode s_NoNode_NoWitness iC_NoWitness tY_NoWitness,
      k_NoNode_PatternError := kit_refF sC_NoNode s_NoNode_PatternError iC_PatternError tY_PatternError,
      k_NoNode_QueryError := kit_refF sC_NoNode s_NoNode_QueryError iC_QueryError tY_QueryError,
      k_NoNode_TableError := kit_refF sC_NoNode s_NoNode_TableError iC_TableError tY_TableError,
      k_NoNode_TreeError := kit_refF sC_NoNode s_NoNode_TreeError iC_TreeError tY_TreeError,
      k_NoNode_UnknownLanguage := kit_refF sC_NoNode s_NoNode_UnknownLanguage iC_UnknownLanguage tY_UnknownLanguage,
      x_NoNode_MendedError := PySem.W.exm_ref xb_NoNode_MendedError xd_NoNode_MendedError tY_MendedError s_NoNode_MendedError,
      m_range := PySem.W.mg_none_of X G z0,
      m_min := PySem.W.mg_none_of X G z1,
      m_max := PySem.W.mg_none_of X G z2,
      m_len := PySem.W.mg_none_of X G z3,
      m_abs := PySem.W.mg_none_of X G z4,
      m_int := PySem.W.mg_none_of X G z5,
      m_sum := PySem.W.mg_none_of X G z6,
      m_isinstance := PySem.W.mg_none_of X G z7,
      m_bool := PySem.W.mg_none_of X G z8,
      m_list := PySem.W.mg_none_of X G z9,
      m_tuple := PySem.W.mg_none_of X G z10,
      m_str := PySem.W.mg_none_of X G z11,
      m_enumerate := PySem.W.mg_none_of X G z12,
      m_ValueError := PySem.W.mg_none_of X G z13 }
  exact ⟨PySem.W.fnOf "law" "law" (defArgs s_law) (defBody s_law) (defScope s_law) .none kV34 dc34 pm34 an34 cd34 ct34, fun s v => .of_eq rfl, fun base _ _ => ok_top T⟩
end M
open PySem PySem.W PyProof.Rows
set_option maxRecDepth 100000 in
set_option maxHeartbeats 0 in
theorem PySem.Challenge.cw_mendedtree_k35_paths_and_places_holds : PySem.Challenge.rw_mendedtree_k35_paths_and_places.Holds := by
  w_on; o_law; k_head; (case hw => w_witness2)
  k_fill
  refine L2.walk_of (l := PySem.Challenge.rw_mendedtree_k35_paths_and_places) (n := 63) (k := 11) (x := "script") (CX := fun _ => L2.CX0) (sp := fun w => M.spLaw _) rfl (by decide) rfl ⟨rfl, by decide, by decide⟩ (fun w h Y => PySem.W.kIn_of Y) ?F (fun _ _ a ns hl _ hS => ⟨a, ns, rfl, hS, hl, fun _ => rfl⟩) (fun _ _ _ _ _ h => h)
  case F =>
    intro w mg fa h KX G hmg
    refine' M.all_mk KX G hmg ?g_MendedError ?g_NoNode ?g_Node ?g_BadMark ?g_EditError ?g_Entangled ?g_GrammarError ?g_HistoryError ?g_NoLayer ?g_NoMark ?g_NoWitness ?g_PatternError ?g_QueryError ?g_TableError ?g_TreeError ?g_UnknownLanguage ?a0 ?l0 ?c0 ?k0 ?a1 ?l1 ?c1 ?k1 ?kd1_alternative ?kd1_nodes ?kt1 ?kd1_popped ?a2 ?l2 ?c2 ?k2 ?a3 ?l3 ?c3 ?k3 ?lt3 ?a4 ?l4 ?c4 ?k4 ?a5 ?l5 ?c5 ?k5 ?a6 ?l6 ?c6 ?k6 ?a7 ?l7 ?c7 ?k7 ?a8 ?l8 ?c8 ?k8 ?a9 ?l9 ?c9 ?k9 ?a10 ?l10 ?c10 ?k10 ?a11 ?l11 ?c11 ?k11 ?a12 ?l12 ?c12 ?k12 ?a13 ?l13 ?c13 ?k13 ?a14 ?l14 ?c14 ?k14 ?a15 ?l15 ?c15 ?k15 ?a16 ?l16 ?c16 ?k16 ?a17 ?l17 ?c17 ?k17 ?a18 ?l18 ?c18 ?k18 ?a19 ?l19 ?c19 ?k19 ?a20 ?l20 ?c20 ?k20 ?a21 ?l21 ?c21 ?k21 ?a22 ?l22 ?c22 ?k22 ?a23 ?l23 ?c23 ?k23 ?a24 ?l24 ?c24 ?k24 ?a25 ?l25 ?c25 ?k25 ?a26 ?l26 ?c26 ?k26 ?a27 ?l27 ?c27 ?k27 ?a28 ?l28 ?c28 ?k28 ?a29 ?l29 ?c29 ?k29 ?a30 ?l30 ?c30 ?k30 ?a31 ?l31 ?c31 ?k31 ?a32 ?l32 ?c32 ?k32 ?a33 ?l33 ?c33 ?k33 ?a34 ?l34 ?c34 ?k34 ?bga_MendedError ?brd_MendedError ?bfi_MendedError ?xL_NoNode ?sa_NoNode ?ga_NoNode ?gg_NoNode ?kC_NoNode ?eC_NoNode ?tC_NoNode ?hd_NoNode ?ha_NoNode ?hm_NoNode ?sC_NoNode ?tI_NoNode ?n_NoNode_path ?hn ?ht ?pg_Node ?hdo_Node ?po_Node ?sao_Node ?mkC_Node ?kcC_Node ?ha_Node ?hm_Node ?sC_Node ?iC_Node ?tY_Node ?na_Node_kind ?na_Node_symbol ?na_Node_state ?na_Node_lead ?na_Node_width ?na_Node_look ?na_Node_alternative ?na_Node_nodes ?na_Node_popped ?if_Node__init__ ?s_NoNode_MendedError ?iC_MendedError ?tY_MendedError ?s_NoNode_ValueError ?s_NoNode_NoNode ?iC_NoNode ?tY_NoNode ?s_NoNode_BadMark ?iC_BadMark ?tY_BadMark ?s_NoNode_EditError ?iC_EditError ?tY_EditError ?s_NoNode_Entangled ?iC_Entangled ?tY_Entangled ?s_NoNode_GrammarError ?iC_GrammarError ?tY_GrammarError ?s_NoNode_HistoryError ?iC_HistoryError ?tY_HistoryError ?s_NoNode_NoLayer ?iC_NoLayer ?tY_NoLayer ?s_NoNode_NoMark ?iC_NoMark ?tY_NoMark ?s_NoNode_NoWitness ?iC_NoWitness ?tY_NoWitness ?s_NoNode_PatternError ?iC_PatternError ?tY_PatternError ?s_NoNode_QueryError ?iC_QueryError ?tY_QueryError ?s_NoNode_TableError ?iC_TableError ?tY_TableError ?s_NoNode_TreeError ?iC_TreeError ?tY_TreeError ?s_NoNode_UnknownLanguage ?iC_UnknownLanguage ?tY_UnknownLanguage ?xb_NoNode_MendedError ?xd_NoNode_MendedError ?z0 ?z1 ?z2 ?z3 ?z4 ?z5 ?z6 ?z7 ?z8 ?z9 ?z10 ?z11 ?z12 ?z13
    (case g_MendedError => k_is); (case g_NoNode => k_is); (case g_Node => k_is); (case g_BadMark => k_is); (case g_EditError => k_is); (case g_Entangled => k_is); (case g_GrammarError => k_is); (case g_HistoryError => k_is); (case g_NoLayer => k_is); (case g_NoMark => k_is); (case g_NoWitness => k_is); (case g_PatternError => k_is); (case g_QueryError => k_is); (case g_TableError => k_is); (case g_TreeError => k_is); (case g_UnknownLanguage => k_is); (case a0 => k_is); (case l0 => k_is); (case c0 => k_is); (case k0 => k_is); (case a1 => k_is); (case l1 => k_is); (case c1 => k_is); (case k1 => k_is); (case kd1_alternative => k_is); (case kd1_nodes => k_is); (case kt1 => k_is); (case kd1_popped => k_is); (case a2 => k_is); (case l2 => k_is); (case c2 => k_is); (case k2 => k_is); (case a3 => k_is); (case l3 => k_is); (case c3 => k_is); (case k3 => k_is); (case lt3 => k_is); (case a4 => k_is); (case l4 => k_is); (case c4 => k_is); (case k4 => k_is); (case a5 => k_is); (case l5 => k_is); (case c5 => k_is); (case k5 => k_is); (case a6 => k_is); (case l6 => k_is); (case c6 => k_is); (case k6 => k_is); (case a7 => k_is); (case l7 => k_is); (case c7 => k_is); (case k7 => k_is); (case a8 => k_is); (case l8 => k_is); (case c8 => k_is); (case k8 => k_is); (case a9 => k_is); (case l9 => k_is); (case c9 => k_is); (case k9 => k_is); (case a10 => k_is); (case l10 => k_is); (case c10 => k_is); (case k10 => k_is); (case a11 => k_is); (case l11 => k_is); (case c11 => k_is); (case k11 => k_is); (case a12 => k_is); (case l12 => k_is); (case c12 => k_is); (case k12 => k_is); (case a13 => k_is); (case l13 => k_is); (case c13 => k_is); (case k13 => k_is); (case a14 => k_is); (case l14 => k_is); (case c14 => k_is); (case k14 => k_is); (case a15 => k_is); (case l15 => k_is); (case c15 => k_is); (case k15 => k_is); (case a16 => k_is); (case l16 => k_is); (case c16 => k_is); (case k16 => k_is); (case a17 => k_is); (case l17 => k_is); (case c17 => k_is); (case k17 => k_is); (case a18 => k_is); (case l18 => k_is); (case c18 => k_is); (case k18 => k_is); (case a19 => k_is); (case l19 => k_is); (case c19 => k_is); (case k19 => k_is); (case a20 => k_is); (case l20 => k_is); (case c20 => k_is); (case k20 => k_is); (case a21 => k_is); (case l21 => k_is); (case c21 => k_is); (case k21 => k_is); (case a22 => k_is); (case l22 => k_is); (case c22 => k_is); (case k22 => k_is); (case a23 => k_is); (case l23 => k_is); (case c23 => k_is); (case k23 => k_is); (case a24 => k_is); (case l24 => k_is); (case c24 => k_is); (case k24 => k_is); (case a25 => k_is); (case l25 => k_is); (case c25 => k_is); (case k25 => k_is); (case a26 => k_is); (case l26 => k_is); (case c26 => k_is); (case k26 => k_is); (case a27 => k_is); (case l27 => k_is); (case c27 => k_is); (case k27 => k_is); (case a28 => k_is); (case l28 => k_is); (case c28 => k_is); (case k28 => k_is); (case a29 => k_is); (case l29 => k_is); (case c29 => k_is); (case k29 => k_is); (case a30 => k_is); (case l30 => k_is); (case c30 => k_is); (case k30 => k_is); (case a31 => k_is); (case l31 => k_is); (case c31 => k_is); (case k31 => k_is); (case a32 => k_is); (case l32 => k_is); (case c32 => k_is); (case k32 => k_is); (case a33 => k_is); (case l33 => k_is); (case c33 => k_is); (case k33 => k_is); (case a34 => k_is); (case l34 => k_is); (case c34 => k_is); (case k34 => k_is); (case bga_MendedError => k_is); (case brd_MendedError => k_is); (case bfi_MendedError => k_is); (case xL_NoNode => k_is); (case sa_NoNode => k_is); (case ga_NoNode => k_is); (case gg_NoNode => k_is); (case kC_NoNode => k_is); (case eC_NoNode => k_is); (case tC_NoNode => k_is); (case hd_NoNode => k_is); (case ha_NoNode => k_is); (case hm_NoNode => k_is); (case sC_NoNode => k_is); (case tI_NoNode => k_is); (case n_NoNode_path => k_is); (case hn => k_is); (case ht => k_is); (case pg_Node => k_is); (case hdo_Node => k_is); (case po_Node => k_is); (case sao_Node => k_is); (case mkC_Node => k_is); (case kcC_Node => k_is); (case ha_Node => k_is); (case hm_Node => k_is); (case sC_Node => k_is); (case iC_Node => k_is); (case tY_Node => k_is); (case na_Node_kind => k_is); (case na_Node_symbol => k_is); (case na_Node_state => k_is); (case na_Node_lead => k_is); (case na_Node_width => k_is); (case na_Node_look => k_is); (case na_Node_alternative => k_is); (case na_Node_nodes => k_is); (case na_Node_popped => k_is); (case if_Node__init__ => k_is); (case s_NoNode_MendedError => k_is); (case iC_MendedError => k_is); (case tY_MendedError => k_is); (case s_NoNode_ValueError => k_is); (case s_NoNode_NoNode => k_is); (case iC_NoNode => k_is); (case tY_NoNode => k_is); (case s_NoNode_BadMark => k_is); (case iC_BadMark => k_is); (case tY_BadMark => k_is); (case s_NoNode_EditError => k_is); (case iC_EditError => k_is); (case tY_EditError => k_is); (case s_NoNode_Entangled => k_is); (case iC_Entangled => k_is); (case tY_Entangled => k_is); (case s_NoNode_GrammarError => k_is); (case iC_GrammarError => k_is); (case tY_GrammarError => k_is); (case s_NoNode_HistoryError => k_is); (case iC_HistoryError => k_is); (case tY_HistoryError => k_is); (case s_NoNode_NoLayer => k_is); (case iC_NoLayer => k_is); (case tY_NoLayer => k_is); (case s_NoNode_NoMark => k_is); (case iC_NoMark => k_is); (case tY_NoMark => k_is); (case s_NoNode_NoWitness => k_is); (case iC_NoWitness => k_is); (case tY_NoWitness => k_is); (case s_NoNode_PatternError => k_is); (case iC_PatternError => k_is); (case tY_PatternError => k_is); (case s_NoNode_QueryError => k_is); (case iC_QueryError => k_is); (case tY_QueryError => k_is); (case s_NoNode_TableError => k_is); (case iC_TableError => k_is); (case tY_TableError => k_is); (case s_NoNode_TreeError => k_is); (case iC_TreeError => k_is); (case tY_TreeError => k_is); (case s_NoNode_UnknownLanguage => k_is); (case iC_UnknownLanguage => k_is); (case tY_UnknownLanguage => k_is); (case xb_NoNode_MendedError => k_is); (case xd_NoNode_MendedError => k_is); (case z0 => k_is); (case z1 => k_is); (case z2 => k_is); (case z3 => k_is); (case z4 => k_is); (case z5 => k_is); (case z6 => k_is); (case z7 => k_is); (case z8 => k_is); (case z9 => k_is); (case z10 => k_is); (case z11 => k_is); (case z12 => k_is); (case z13 => k_is)
