import PyProof.Rows.All
import PySem.Challenge.RW_mendedtree_k36_seen_children
import HandS.ForMost
import HandS.ForExc
import HandS.IsInst
import HandS.Codes
import HandS.FStr
import HandS.FStrTup
import HandS.ExcInit
import HandS.ExcIs
import HandS.ExcField
import HandS.ClsMeth
import HandS.ExcValue
import HandS.Style
import HandS.ClsMeth
import KE.KOpsOwn
import HandS.Walk
import HandS.MakeKwOnly
import HandS.Star
import HandS.Text
import HandS.Rev
import KE.KIntText
import HandS.OwnEq
import PyProof.StrBlock2
import HandS.TryOnly
import HandS.Dict
import HandS.CallSlots
import HandS.Defaults
import KE.GoesMore
import HandS.TupAny
import HandS.Flow
import HandS.Zip
import KE.GoesZip
set_option Elab.async false
set_option linter.all false
set_option maxRecDepth 100000
set_option maxHeartbeats 4000000
namespace L2
open PySem PySem.Spec PyProof.Rows
/-- what the written part says of an own base class whose __init__ is ValueError's -/
structure BaseC (K : PySem.W.Frag) (C0 : Addr) : Prop where
  ga : PySem.W.specialIn K (.ref C0) "__getattribute__" = some (some (.builtin "type.__getattribute__"))
  rd : PySem.W.readsIn K C0 (.type "type") = true
  fi : PySem.W.findCls K (.ref C0) (.type "type") "__init__" = some (.val (.builtin "ValueError.__init__"))
section
variable {X : Cx} {e : Expr} {es : List Expr} {ta : TA} {p1 p2 pos : Pos} {x : Str} {C0 : Addr}
/-- Base.__init__(self, ..), Base an own class over ValueError without an __init__ of its own -/
theorem pe_baseInit {later : Sem Bool} (hg : Gl X x) (hm : X.mg x = some (.ref C0)) (B : BaseC X.K C0) (ha : PA X (e :: es) ta) (hdb : (x == ("__debug__" : Str)) = false := by decide)
    (told : eval (.Call (.Attribute (.Name x p1) "__init__" p2) (e :: es) [] pos) X.env = (do
      let cls ← eval (.Name x p1) X.env
      standAt p2.atName
      let (m, bound) ← holding [cls] (getMethod cls "__init__" later)
      callWith pos m bound (backTo pos (starEach (e :: es) X.env)) (backToKw pos (keywordEach [] X.env))) := by rfl)
    (one : starEach (e :: es) X.env = (false, eval e X.env) :: starEach es X.env := by rfl) (plain : (backTo pos (starEach es X.env)).any (·.1) = false := by rfl) :
    PE X (.Call (.Attribute (.Name x p1) "__init__" p2) (e :: es) [] pos) (tVeI X.K ta) := by
  constructor
  intro pins s σ H Q I h
  refine PySem.W.methodCall_KW (ld_glob I hg hm (PySem.W.method_cls I.kIn B.ga (PySem.W.cls_value I.kIn B.rd B.fi rfl ?_)) hdb) told
  refine PyProof.Rows.callWith_method1 (id := "ValueError.__init__") (thn (ha.run pos pins _ σ H _ (I.tok _) h) ?_) one plain
  rintro us s1 ⟨vs, H1, I1, r1, a, C, ws, rfl, few, T, here, q⟩
  cases r1 with
  | @cons _ u _ us' ra rw' =>
    have eu : u = Value.ref a := ra
    subst eu
    have n : us'.length ≤ sizeLine := by
      have := Paired.length rw'
      rw [sizeLine_eq]
      omega
    exact oinit_ok T I1 here n fun s2 I2 => ⟨.non, H1, I2, rfl, q⟩
end
end L2

namespace PySem.W
open PySem PySem.Spec PySem.Calls PyProof.Rows
section
variable {prog : Program} {w : World} {A : Around} {E : Value → Shared → Prop} {K : Frag} {D : Addr}
/-- what BaseException's reading of __class__ gives, asked of an error with or without a dict -/
theorem bexc_class {x : Addr} {ox : Obj} {od : Option Obj} {s : Shared} {tk : Tok} {R : Value → Shared → Prop} (C : L2.ExcC K D) (X : K.In s.heap) (I : InstAt s.heap x ox D od) (q : R (.ref D) s)
    (hf : findObj K D od "__class__" = some (.bind (.builtin "getset_descriptor.__get__") (.builtin "object.__class__"))) :
    wpAny (model prog w) A (call (.builtin "BaseException.__getattribute__") [.ref x, .str "__class__" tk]) R E s := by
  have ty := I.type (M := model prog w)
  have isExc : Looks (model prog w) s.heap (isInstance (.ref x) (.type "BaseException")) true := ty.andThen (looks_subIn X C.hs)
  refine wpAny_call (codeAny_call_builtin PySem.F.excAttr_ValueError.ga.plain PySem.F.entry_bexc_ga (@check_slot (model prog w) _ _ s "BaseException.__getattribute__" "BaseException" "__getattribute__" (.ref x) [.str "__class__" tk] [] _ (by decide +kernel) (by decide +kernel) isExc (PySem.F.args_bexc_ga (.ref x) (.str "__class__" tk)) ?_))
  unfold Builtin.«object.__getattribute__»
  refine wpAny_bind (wpAny_of_eq (a := ((Value.ref x : Value), [Value.str "__class__" tk])) (by first | rfl | (simp only [slotArgs]; rfl)) (wpAny_bind (wpAny_pure (wpAny_bind (ty.at (wpAny_bind ((looks_find (M := model prog w) X I hf).at ?_)))))))
  exact wpAny_bind (wpAny_holding (wpAny_call (class_get (ox := ox) (od := od) X I C.hm (wpAny_pure (by first | exact wpAny_pure q | exact q)))))
theorem if_no {b : Bool} {m n : Sem Value} {R : Value → Shared → Prop} {F : Value → Shared → Prop} {u : Shared} (e : b = false) (k : wpAny (model prog w) A n R F u) : wpAny (model prog w) A (if b = true then m else n) R F u := by
  subst e
  exact k
theorem class_of_err {x : Addr} {ox od : Obj} {s : Shared} {Q : Option Value → Shared → Prop} (C : L2.ExcC K D) (X : K.In s.heap) (I : InstAt s.heap x ox D (some od)) (q : Q (some (.ref D)) { s with toks := s.toks + 1 }) :
    wpAny (model prog w) A (getAttr? (.ref x) "__class__") Q E s := by
  have some_cls : (clsIn K D).isSome = true := by
    obtain ⟨c, e, _⟩ := any_some C.hd
    rw [e] <;> rfl
  have found := findObj_data (od := od) some_cls C.ha C.hn C.ht
  have other : (Value.builtin "BaseException.__getattribute__" == Value.builtin "object.__getattribute__") = false := by decide +kernel
  obtain ⟨hp, g, d, t, os⟩ := s
  have ty := I.type (M := model prog w)
  unfold getAttr? getAttrBy? getAttrBy
  refine wpAny_bind (wpAny_mkText (wpAny_bind (wpAny_attempt (wpAny_holding (wpAny_bind (ty.at (wpAny_bind ((looks_findIn (M := model prog w) X C.hg).at ?_))))))))
  refine if_no (by rw [other]; rfl) ?_
  unfold getAttrByItsOwn hookBefore
  refine wpAny_bind ?_
  rw [if_pos (by rfl : onTheHeap (Value.ref D) = true)]
  refine (looks_findIn (M := model prog w) X C.hk).at (wpAny_bind (wpAny_attempt (wpAny_holding ?_)))
  unfold callGetattribute
  refine if_no (by rfl) ?_
  unfold boundAndCalled
  rw [PySem.F.excAttr_ValueError.ga.bind (.ref x)]
  refine wpAny_bind (wpAny_pure (bexc_class C X I ?_ found))
  first
    | exact wpAny_pure (wpAny_pure q)
    | exact wpAny_bind (wpAny_pure (wpAny_pure q))
    | exact wpAny_pure q
    | exact wpAny_pure (wpAny_bind (wpAny_pure (wpAny_pure q)))
/-- isinstance of an error that has a dict -/
theorem own_kitx {x : Addr} {ox : Obj} (C : L2.ExcC K D) : KitX K (.ref x) (.ref D) (fun h => ∃ od, InstAt h x ox D (some od)) :=
  { ty := fun _ _ _ ⟨_, I⟩ => I.type
    it := fun M h X _ A' Q' E' s' k q => (mc_isType (s := s') (fun b o e => k b o (X b o e)) C.hd).at q
    ne := (handS_kitx_exc (x := x) (ox := ox) C.hg C.hk C.hs C.hd C.ha C.hn C.ht C.hm).ne
    ca := fun X ⟨_, I⟩ q => class_of_err C X I q }
end
end PySem.W
namespace L2
open PySem PySem.Spec PyProof.Rows
section
variable {X : Cx} {a D dd : Addr} {oe : Obj} {pn : List (Addr × Obj)}
theorem suite_inst {pins : List (Addr × Obj)} {σ : L2.St} {H : Hp} {s : Shared} {fs : List (Str × V)} (I : Inv (X.suite a ((a, oe) :: pn)) pins σ H s) (hz : Zc (.ref D) (some dd) oe) (hf : ∃ vs, oe.data = .fields vs) (hx : H dd = some (.xd fs)) :
    ∃ od, PySem.W.InstAt s.heap a oe D (some od) := by
  have here := (I.pin (a, oe) (by simp [Cx.suite])).1
  obtain ⟨vs, hv⟩ := hf
  have hdx : ObjOk X.prog X.w H s.heap dd (.xd fs) := I.hok dd _ hx
  obtain ⟨m, names, _⟩ := hdx
  obtain ⟨o, ho, _⟩ := lookIn_ns names
  refine ⟨o, here, hz.1, ?_, by rw [hz.2]; exact ho⟩
  unfold PySem.W.notCls
  rw [hv] <;> rfl
/-- isinstance(e, c), e the exception that the suite holds, with its dict at dd -/
def rIsD (K : PySem.W.Frag) (D a dd : Addr) : List V → Hp → VK → Prop := fun xs H Q => ∃ (c : V) (cv : Value) (b : Bool) (fs : List (Str × V)), xs = [.ref a, c] ∧ ClsV c cv ∧ H dd = some (.xd fs) ∧ PySem.W.kitOne K (.ref D) cv = some b ∧ Q (.bl b) H
theorem call_isD (C : ExcC X.K D) (hz : Zc (.ref D) (some dd) oe) (hf : ∃ vs, oe.data = .fields vs) : CallR (X.suite a ((a, oe) :: pn)) (.builtin "isinstance") (rIsD X.K D a dd) := by
  rintro pins s σ H xs us Q I r ⟨c, cv, b, fs, rfl, hcv, hx, e, q⟩
  obtain ⟨w1, w2, rfl, p1, p2⟩ := vals2 r
  have e1 : w1 = Value.ref a := p1
  have e2 := hcv.eq p2
  subst e1 e2
  exact PySem.W.kia_one (PySem.W.own_kitx C) I.kIn (suite_inst I hz hf hx) e nofun fun tk => ⟨.bl b, H, I.kept (t' := tk) fun _ _ z => z, rfl, q⟩
/-- isinstance(e, (c1, c2, ..)) -/
def rIsDT (K : PySem.W.Frag) (D a dd : Addr) : List V → Hp → VK → Prop := fun xs H Q => ∃ (tp : Addr) (cs : List V) (us : List Value) (b : Bool) (fs : List (Str × V)), xs = [.ref a, .ref tp] ∧ H tp = some (.tup cs) ∧ Paired ClsV cs us ∧ H dd = some (.xd fs) ∧ PySem.W.kitAny K (.ref D) us = some b ∧ Q (.bl b) H
theorem call_isDT (C : ExcC X.K D) (hz : Zc (.ref D) (some dd) oe) (hf : ∃ vs, oe.data = .fields vs) : CallR (X.suite a ((a, oe) :: pn)) (.builtin "isinstance") (rIsDT X.K D a dd) := by
  rintro pins s σ H xs us Q I r ⟨tp, cs, ws, b, fs, rfl, hT, k, hx, e, q⟩
  obtain ⟨w1, w2, rfl, p1, p2⟩ := vals2 r
  have e1 : w1 = Value.ref a := p1
  have e2 : w2 = Value.ref tp := p2
  subst e1 e2
  have hok : ObjOk X.prog X.w H s.heap tp (.tup cs) := I.hok tp _ hT
  obtain ⟨_, its, rv, ⟨oc, od, dt, sl⟩, g1, g2, n, g3⟩ := hok
  have e3 := ClsV.all k rv
  dsimp only at g2 g3
  subst e3 g2 g3
  exact PySem.W.kia_tup (PySem.W.own_kitx C) I.kIn (suite_inst I hz hf hx) g1 e nofun fun tk => ⟨.bl b, H, I.kept (t' := tk) fun _ _ z => z, rfl, q⟩
end
end L2

namespace L2
open PySem PySem.Spec PyProof.Rows
/-- an own error class (name) at C, with an __init__ of its own at fI -/
structure ErrK (K : PySem.W.Frag) (mg : Str → Option Value) (name : Str) (C fI : Addr) : Prop where
  g : mg name = some (.ref C)
  oex : OexC K C
  iC : PySem.W.findIn K (.ref C) "__init__" = some (some (.ref fI))
  tI : PySem.W.typeIn K (.ref fI) = some (.type "function")
  exc : ExcC K C
  xf : XfC K C
  self : PySem.W.exmOne K (.ref C) (.ref C) = some true
theorem errK_mk {K : PySem.W.Frag} {mg : Str → Option Value} {name : Str} {C fI : Addr}
    {nm q : Str} {N : Addr} {bs bm : List Value} {sn : List Str} {sub : List Value} {ab : Bool} {col : Option Bool} {dd : Option Addr} {m0 m1 m2 m3 m5 : Option Value}
    (g : mg name = some (.ref C)) (xL : K.lookup C = some (excClassObj nm q C N bs bm true sn sub ab col dd m0 m1 m2 m3 m5 "ValueError.__new__")) (hbm : PySem.HandSPX.refsVE bm = true)
    (sa : PySem.W.findIn K (.ref C) "__setattr__" = some (some (.builtin "object.__setattr__"))) (ga : PySem.W.findIn K (.ref C) "__getattribute__" = some (some (.builtin "BaseException.__getattribute__"))) (gg : PySem.W.findIn K (.ref C) "__getattr__" = some none)
    (iC : PySem.W.findIn K (.ref C) "__init__" = some (some (.ref fI))) (tI : PySem.W.typeIn K (.ref fI) = some (.type "function")) (kC : PySem.W.keepIn K (.ref C) = true) (eC : PySem.W.subIn K (.ref C) (.type "BaseException") = some true) (tC : PySem.W.typeIn K (.ref C) = some (.type "type"))
    (hd : PySem.W.hasDictIn K C = true) (ha : PySem.W.findIn K (.ref C) "__class__" = some (some (.builtin "object.__class__"))) (hn : PySem.W.specialIn K (.builtin "object.__class__") "__get__" = some (some (.builtin "getset_descriptor.__get__")))
    (ht : PySem.W.takesIn K (.builtin "object.__class__") = some true) (hm : PySem.W.mroIn K C (.type "object") = some true) (sC : PySem.W.subIn K (.ref C) (.ref C) = some true) : ErrK K mg name C fI :=
  { g := g, oex := ⟨⟨nm, q, N, bs, bm, sn, sub, ab, col, dd, m0, m1, m2, m3, m5, xL, hbm⟩, sa, eC, tC, kC⟩, iC := iC, tI := tI, exc := ⟨ga, gg, eC, hd, ha, hn, ht, hm⟩, xf := ⟨ga, gg, eC, hd⟩, self := PySem.W.exm_ref eC hd tC sC }
/-- what making such an error with one field leaves: an error whose dict holds the field, all else as it was -/
def spInit1 (f : Str) (C : Addr) (ok : V → Prop) : Sp := fun vs H Q _ => ∃ (a : Addr) (v : V), vs = [.ref a, v] ∧ ok v ∧ H a = some (exo a C none) ∧ ∀ dx, H dx = none → dx ≠ a → Q .non (upd (upd H dx (exd dx [(f, v)])) a (exo a C (some dx)))
theorem made1 {H : Hp} {a dx C : Addr} {f : Str} {v : V} {fs : List (Str × V)} (na : H a = none) (nd : (upd H a (exo a C none)) dx = none) (hne : dx ≠ a) :
    H dx = none ∧ Same H (upd (del (upd (upd (upd H a (exo a C none)) dx (exd dx fs)) a (exo a C (some dx))) a) dx (.xd fs)) ∧ (upd (del (upd (upd (upd H a (exo a C none)) dx (exd dx fs)) a (exo a C (some dx))) a) dx (.xd fs)) dx = some (.xd fs) := by
  have nd' : H dx = none := by
    rw [upd_ne hne] at nd
    exact nd
  refine ⟨nd', fun b o e => ?_, upd_same⟩
  have h1 : b ≠ dx := ne_of_none e nd'
  have h2 : b ≠ a := ne_of_none e na
  rw [upd_ne h1, del_ne h2, upd_ne h2, upd_ne h1, upd_ne h2]
  exact e
/-- the reading of C(e), from such a promise of __init__ -/
theorem mk1 {C : Addr} {f : Str} {ok : V → Prop} {ta : TA} {σ : L2.St} {H : Hp} {Q : XK} (h : ta σ H fun vs H1 => ∃ v, vs = [v] ∧ ok v ∧ ∀ d H', Same H1 H' → H1 d = none → H' d = some (.xd [(f, v)]) → Q (.ref C) (some d) H')
    (mono : ∀ Q1 Q2 : List V → Hp → Prop, (∀ vs H1, Q1 vs H1 → Q2 vs H1) → ta σ H Q1 → ta σ H Q2) : tMkO C (spInit1 f C ok) [] ta σ H Q := by
  refine mono _ _ (fun vs H1 h1 => ?_) h
  obtain ⟨v, rfl, hv, q⟩ := h1
  refine ⟨by show 1 ≤ 1000; decide, fun a na => ⟨a, v, rfl, hv, upd_same, fun dx nd hne => ⟨rfl, dx, [(f, v)], upd_same, ?_, ?_, ?_⟩⟩⟩
  · rw [upd_ne hne, upd_same]
  · exact (made1 (f := f) (v := v) (fs := [(f, v)]) na nd hne).1
  · obtain ⟨m1, m2, m3⟩ := made1 (f := f) (v := v) (fs := [(f, v)]) na nd hne
    exact q dx _ m2 m1 m3
end L2
namespace L2
open PySem PySem.Spec PyProof.Rows
theorem kit_refT {K : PySem.W.Frag} {C D : Addr} (h : PySem.W.subIn K (.ref C) (.ref D) = some true) (i : PySem.W.isClsIn K D = true) (t : PySem.W.typeIn K (.ref D) = some (.type "type")) : PySem.W.kitOne K (.ref C) (.ref D) = some true := by
  unfold PySem.W.kitOne
  split
  · rfl
  · show (if ((PySem.W.clsIn K D).isSome && PySem.W.typeIn K (.ref D) == some (.type "type")) = true then PySem.W.subIn K (.ref C) (.ref D) else none) = some true
    have i' : (PySem.W.clsIn K D).isSome = true := i
    rw [i', t, h]
    rfl
theorem kit_refF {K : PySem.W.Frag} {C D : Addr} (h0 : PySem.W.subIn K (.ref C) (.ref C) = some true) (h : PySem.W.subIn K (.ref C) (.ref D) = some false) (i : PySem.W.isClsIn K D = true) (t : PySem.W.typeIn K (.ref D) = some (.type "type")) : PySem.W.kitOne K (.ref C) (.ref D) = some false := by
  have hne : (Value.ref C == Value.ref D) = false := by
    rw [beq_eq_false_iff_ne]
    intro e
    have e' : C = D := Value.ref.inj e
    rw [← e', h0] at h
    cases h
  unfold PySem.W.kitOne
  rw [hne]
  show (if ((PySem.W.clsIn K D).isSome && PySem.W.typeIn K (.ref D) == some (.type "type")) = true then PySem.W.subIn K (.ref C) (.ref D) else none) = some false
  have i' : (PySem.W.clsIn K D).isSome = true := i
  rw [i', t, h]
  rfl
theorem kit_refTy {K : PySem.W.Frag} {C : Addr} {T : String} {b : Bool} (h : PySem.W.subIn K (.ref C) (.type T) = some b) (m : PySem.W.kitMeta T = true) : PySem.W.kitOne K (.ref C) (.type T) = some b := by
  unfold PySem.W.kitOne
  have hne : (Value.ref C == Value.type T) = false := by
    rw [beq_eq_false_iff_ne]
    intro e
    cases e
  rw [hne]
  show (if PySem.W.kitMeta T = true then PySem.W.subIn K (.ref C) (.type T) else none) = some b
  rw [if_pos m, h]
end L2

namespace L2
open PySem PySem.Spec PyProof.Rows
theorem passX0 {P : Program} {w : World} {X : Cx} (e1 : X.prog = P) (e2 : X.w = w) : Passes (L2.CX P w) X E0 := fun _ _ _ _ _ _ _ c => by
  obtain ⟨_, _, _, _, _, _, _, _, _, _, _, _, z⟩ := c
  exact z.elim
section
variable {X : Cx} {a : Addr} {oe : Obj} {pn : List (Addr × Obj)} {cls : Value} {d : Option Addr}
/-- isinstance(e, c) in the suite that holds e -/
def rIsX (K : PySem.W.Frag) (a : Addr) (cls : Value) (d : Option Addr) : List V → Hp → VK → Prop := fun xs H Q => ∃ (D dd : Addr), cls = .ref D ∧ d = some dd ∧ ExcC K D ∧ rIsD K D a dd xs H Q
theorem call_isX (hz : Zc cls d oe) (hf : ∃ vs, oe.data = .fields vs) : CallR (X.suite a ((a, oe) :: pn)) (.builtin "isinstance") (rIsX X.K a cls d) := by
  rintro pins s σ H xs us Q I r ⟨D, dd, rfl, rfl, C, h⟩
  exact call_isD C hz hf pins s σ H xs us Q I r h
/-- isinstance(e, (c1, ..)) -/
def rIsXT (K : PySem.W.Frag) (a : Addr) (cls : Value) (d : Option Addr) : List V → Hp → VK → Prop := fun xs H Q => ∃ (D dd : Addr), cls = .ref D ∧ d = some dd ∧ ExcC K D ∧ rIsDT K D a dd xs H Q
theorem call_isXT (hz : Zc cls d oe) (hf : ∃ vs, oe.data = .fields vs) : CallR (X.suite a ((a, oe) :: pn)) (.builtin "isinstance") (rIsXT X.K a cls d) := by
  rintro pins s σ H xs us Q I r ⟨D, dd, rfl, rfl, C, h⟩
  exact call_isDT C hz hf pins s σ H xs us Q I r h
end
end L2

namespace L2
open PySem PySem.Spec PyProof.Rows
/-- an error object of the own class at C, held as a value, its dict at d -/
def erv (a C : Addr) (d : Option Addr) : HO := .ext fun hp => ∃ (oe : Obj) (vs : Array Value), hp.get? a = some oe ∧ Zc (.ref C) d oe ∧ oe.data = .fields vs
section
variable {X : Cx} {pins : List (Addr × Obj)} {σ : L2.St} {H : Hp} {s : Shared} {a C dd : Addr} {fs : List (Str × V)}
theorem erv_ok {P : Program} {w : World} {hp : Heap} {d : Option Addr} {oe : Obj} {vs : Array Value} (h1 : hp.get? a = some oe) (h2 : Zc (.ref C) d oe) (h3 : oe.data = .fields vs) : ObjOk P w H hp a (erv a C d) :=
  ⟨⟨oe, vs, h1, h2, h3⟩, ⟨oe, h1⟩, fun _ _ ⟨o1, v1, k1, k2, k3⟩ more => ⟨o1, v1, more _ k1, k2, k3⟩⟩
/-- what makes an error also gives it as a value -/
theorem pe_ofMk {e : Expr} {t : L2.St → Hp → XK → Prop} (h : PMk X e t) :
    PE X e (fun σ H Q => t σ H fun cls d H1 => ∃ C, cls = .ref C ∧ ∀ a, H1 a = none → Q (.ref a) (upd H1 a (erv a C d))) := by
  constructor
  intro pins s σ H Q I hw
  refine thn (h pins s σ H _ I hw) ?_
  rintro u s1 ⟨a, oe, vs, sI, H1, cls, d, eu, I1, kp, n1, ho, hz, hd, _, n2, os, bare, _, C, ec, q⟩
  subst eu
  subst ec
  refine ⟨.ref a, upd H1 a (erv a C d), ?_, rfl, q a n2⟩
  exact I1.call' (ch := []) os (Un.laidN kp n1 n2) (I1.hok.laidN kp n2 (erv_ok ho hz hd)) bare (by simp)
/-- where the error and its dict stand -/
theorem erv_inst (I : Inv X pins σ H s) (ha : H a = some (erv a C (some dd))) (hx : H dd = some (.xd fs)) :
    ∃ (oe : Obj) (m : Str → Option Value) (od : Option Obj), PySem.W.InstAt s.heap a oe C od ∧ (∃ o, od = some o) ∧ (∀ n, PySem.W.lookIn n (od.getD oe) = some (m n)) ∧ ∀ f, RelO (fs.lookup f) (m f) := by
  have k1 : ObjOk X.prog X.w H s.heap a (.ext fun hp => ∃ (oe : Obj) (vs : Array Value), hp.get? a = some oe ∧ Zc (.ref C) (some dd) oe ∧ oe.data = .fields vs) := I.hok a _ ha
  obtain ⟨⟨oe, vs, g1, g2, g3⟩, _⟩ := k1
  have k2 : ObjOk X.prog X.w H s.heap dd (.xd fs) := I.hok dd _ hx
  obtain ⟨m, k3, k4⟩ := k2
  obtain ⟨o, k5, k6⟩ := lookIn_ns k3
  refine ⟨oe, m, some o, ⟨g1, g2.1, ?_, ?_⟩, ⟨o, rfl⟩, k6, k4⟩
  · unfold PySem.W.notCls
    rw [g3] <;> rfl
  · rw [g2.2]
    exact k5
/-- isinstance(x, c), x an error that is held as a value -/
def rIsV (K : PySem.W.Frag) : List V → Hp → VK → Prop := fun xs H Q => ∃ (a C dd : Addr) (fs : List (Str × V)) (c : V) (cv : Value) (b : Bool), xs = [.ref a, c] ∧ H a = some (erv a C (some dd)) ∧ H dd = some (.xd fs) ∧ ExcC K C ∧ ClsV c cv ∧ PySem.W.kitOne K (.ref C) cv = some b ∧ Q (.bl b) H
theorem call_isV : CallR X (.builtin "isinstance") (rIsV X.K) := by
  rintro pins s σ H xs us Q I r ⟨a, C, dd, fs, c, cv, b, rfl, ha, hx, T, hcv, e, q⟩
  obtain ⟨w1, w2, rfl, p1, p2⟩ := vals2 r
  have e1 : w1 = Value.ref a := p1
  have e2 := hcv.eq p2
  subst e1 e2
  obtain ⟨oe, m, od, J, ⟨o, eo⟩, _⟩ := erv_inst I ha hx
  subst eo
  exact PySem.W.kia_one (PySem.W.own_kitx T) I.kIn ⟨o, J⟩ e nofun fun tk => ⟨.bl b, H, I.kept (t' := tk) fun _ _ z => z, rfl, q⟩
/-- x.f, x an error that is held as a value -/
def tFxE (K : PySem.W.Frag) (f : Str) (te : TE) : TE := fun σ H Q => te σ H fun x H1 => ∃ (a C dd : Addr) (fs : List (Str × V)) (v : V), x = .ref a ∧ XfC K C ∧ PySem.W.findIn K (.ref C) f = some none ∧ H1 a = some (erv a C (some dd)) ∧ H1 dd = some (.xd fs) ∧ fs.lookup f = some v ∧ Q v H1
theorem pe_fxE {e : Expr} {te : TE} {pos : Pos} {n : Str} (he : PE X e te) (hb : attributeBase e n X.env (eval e X.env) = eval e X.env := by rfl) : PE X (.Attribute e n pos) (tFxE X.K n te) := by
  constructor
  intro pins s σ H Q I h
  refine attr_of hb (thn (he.run pins s σ H _ I h) ?_)
  rintro y s1 ⟨x, H1, I1, rx, a, C, dd, fs, v, ex, T, hno, ha, hx, l, q⟩
  subst ex
  have ey : y = Value.ref a := rx
  subst ey
  obtain ⟨oe, m, od, J, ⟨o, eo⟩, k1, k2⟩ := erv_inst I1 ha hx
  subst eo
  have k3 := k2 n
  rw [l] at k3
  obtain ⟨val, k4, k5⟩ := RelO.some_of k3
  have k6 : PySem.W.lookIn n o = some (some val) := by
    rw [← k4]
    exact k1 n
  exact HandSPX.exc_get I1.kIn J T.ga T.gg T.exC (PySem.W.findObj_own T.hdC hno rfl k6) (handed_of k5) ⟨v, H1, I1.tok _, k5, q⟩
end
end L2

namespace L2
open PySem PySem.Spec PyProof.Rows
/-- a flat item as repr tells it -/
def sText : V → Str
  | .int i => toString i
  | .str y => reprText y
  | _ => Str.empty
def sOk : V → Prop
  | .int i => i.natAbs.log2 < 1920
  | .str y => ∀ c ∈ y.cps.toList, c < 16 ^ 8
  | _ => False
def sCost : V → Nat
  | .int _ => 1925
  | .str y => 10 * y.length + 4
  | _ => 0
theorem sText_len {v : V} (h : sOk v) : (sText v).length + 2 ≤ sCost v := by
  cases v with
  | int i =>
    have := PyProof.Rows.int_text_len_1921 (i := i) h
    show (Str.ofString (toString i)).length + 2 ≤ 1925
    omega
  | str y =>
    have := StrLaws.reprText_len y h
    show (reprText y).length + 2 ≤ 10 * y.length + 4
    omega
  | _ => exact False.elim h
def sCosts (l : List V) : Nat := (l.map sCost).sum
theorem sCosts_cons (v : V) (l : List V) : sCosts (v :: l) = sCost v + sCosts l := by
  unfold sCosts
  rw [List.map_cons, List.sum_cons]
theorem s_piled : ∀ l : List V, (∀ v ∈ l, sOk v) → piled (l.map sText) ≤ sCosts l
  | [], _ => Nat.zero_le _
  | v :: l, h => by
    have h1 := sText_len (h v List.mem_cons_self)
    have h2 := s_piled l fun x hx => h x (List.mem_cons_of_mem _ hx)
    rw [List.map_cons, piled_cons, sCosts_cons]
    omega
theorem repr_allS {prog : Program} {w : World} : ∀ {l : List V} {its : List Value}, Vals l its → (∀ v ∈ l, sOk v) → sCosts l ≤ sizeLine → ReprAll prog w its (l.map sText)
  | [], _, r, _, _ => by
    cases r
    exact .nil
  | v :: l, _, r, h, hz => by
    cases r with
    | @cons _ u _ us r1 r2 =>
      have h1 := h v List.mem_cons_self
      have hl := sText_len h1
      rw [sCosts_cons] at hz
      have k : ReprIs prog w u (sText v) := by
        cases v with
        | int i =>
          obtain ⟨t, rfl⟩ := r1
          exact ReprIs.int t h1
        | str y =>
          obtain ⟨t, rfl⟩ := r1
          exact ReprIs.str y t (by have : (reprText y).length + 2 ≤ sCost (.str y) := hl; omega)
        | _ => exact False.elim h1
      exact .cons k (repr_allS r2 (fun x hx => h x (List.mem_cons_of_mem _ hx)) (by omega))
section
variable {X : Cx}
/-- {t}, t a tuple of ints and texts: some text -/
def tFmtS (K : PySem.W.Frag) (te : TE) : TE := fun σ H Q => te σ H fun x H1 => ∃ (a : Addr) (l : List V), x = .ref a ∧ SqT K H1 a l ∧ (∀ v ∈ l, sOk v) ∧ sCosts l + 7 ≤ sizeLine ∧ ∀ m : Str, m.length ≤ sCosts l + 7 → Q (.str m) H1
theorem pe_fmtS {e : Expr} {te : TE} {pos : Pos} {k : Nat} (hr : Room k X.A) (he : PE X e te) : PE X (.FormattedValue e (-1) none pos) (tFmtS X.K te) := by
  refine ⟨fun pins s σ H Q I h => ?_⟩
  refine wpAny_FormattedValue_plain (thn (he.run pins s σ H _ I h) fun v s1 hv => ?_)
  obtain ⟨x, H1, I1, r1, a, l, rfl, ht, hc, hz, q⟩ := hv
  cases r1
  obtain ⟨its, rv, ⟨o, ho, hcl, n, hd⟩, _⟩ := I1.tuple ht
  have hp := s_piled l hc
  have htx := fmt_text (l.map sText)
  have hu := hr.units
  exact fmt_tuple (ts := l.map sText) (by omega) ho hcl hd (repr_allS rv hc (by omega)) (by omega) fun m u tk hm => ⟨.str m, H1, I1.tok _, ⟨u, rfl⟩, q m (by omega)⟩
end
/-- x = e and what follows, e's reading first -/
theorem seq_asg {te : TE} {g : TG} {b : TS} {D : Ends} {σ : L2.St} {H : Hp} (h : te σ H fun x H1 => g x σ H1 fun σ2 H2 => b D σ2 H2) : tSeq (tAsg te g) b D σ H := h
/-- what making an error leaves: an error whose dict holds the fields fs, all else as it was -/
def spInitN (C : Addr) (n : Nat) (ok : Hp → List V → Prop) (fs : List V → List (Str × V)) : Sp := fun vs H Q _ => ∃ (a : Addr) (ws : List V), vs = .ref a :: ws ∧ ws.length = n ∧ ok H ws ∧ H a = some (exo a C none) ∧
  ∀ dx H', H dx = none → dx ≠ a → H' a = some (exo a C (some dx)) → H' dx = some (exd dx (fs ws)) → (∀ b, b ≠ a → b ≠ dx → H' b = H b) → Q .non H'
theorem mkN {C : Addr} {n : Nat} {ok : Hp → List V → Prop} {fs : List V → List (Str × V)} {ta : TA} {σ : L2.St} {H : Hp} {Q : XK}
    (h : ta σ H fun ws H1 => ws.length = n ∧ ws.length ≤ 1000 ∧ (∀ a, H1 a = none → ok (upd H1 a (exo a C none)) ws) ∧ ∀ d H', Same H1 H' → H1 d = none → H' d = some (.xd (fs ws)) → Q (.ref C) (some d) H')
    (mono : ∀ Q1 Q2 : List V → Hp → Prop, (∀ vs H1, Q1 vs H1 → Q2 vs H1) → ta σ H Q1 → ta σ H Q2) : tMkO C (spInitN C n ok fs) [] ta σ H Q := by
  refine mono _ _ (fun ws H1 h1 => ?_) h
  obtain ⟨hn, hz, hk, q⟩ := h1
  refine ⟨hz, fun a na => ⟨a, ws, by rw [List.append_nil], hn, hk a na, upd_same, fun dx H' nd hne ha hd hb => ⟨rfl, dx, fs ws, ha, hd, ?_, ?_⟩⟩⟩
  · rw [upd_ne hne] at nd
    exact nd
  · rw [upd_ne hne] at nd
    refine q dx _ (fun b o e => ?_) nd upd_same
    have h1 : b ≠ a := ne_of_none e na
    have h2 : b ≠ dx := ne_of_none e nd
    rw [upd_ne h2, del_ne h1, hb b h1 h2, upd_ne h1]
    exact e
end L2

/-! two tuples of the same plain items and objects: != tells False -/
namespace OwnOp
open PySem PySem.Spec PyProof.Rows L2
def itemB (v : V) : Prop := flatB v = true ∨ ∃ p, v = .ref p
theorem items_same {A : Around} {s : Shared} : ∀ {xs : List V} {us ws : List Value}, Vals xs us → Vals xs ws → (∀ v ∈ xs, itemB v) → ∀ j (h1 : j < us.length) (h2 : j < ws.length), SeqAt.EqAt A s us[j] ws[j] true
  | [], _, _, .nil, _, _, j, h1, _ => absurd h1 (Nat.not_lt_zero j)
  | x :: xs, _, _, .cons a1 b1, .cons a2 b2, h, j, h1, h2 => by
    cases j with
    | zero =>
      rcases h x List.mem_cons_self with f | ⟨p, rfl⟩
      · exact eqAt_same a1 a2 f
      · cases (show _ = Value.ref p from a1)
        cases (show _ = Value.ref p from a2)
        exact SeqAt.EqAt.same _
    | succ j => exact items_same b1 b2 (fun v hv => h v (List.mem_cons_of_mem _ hv)) j (Nat.lt_of_succ_lt_succ h1) (Nat.lt_of_succ_lt_succ h2)
section
variable {X : Cx}
def rNeTS (K : PySem.W.Frag) : R2 := fun x y H Q => ∃ a b xs, x = .ref a ∧ y = .ref b ∧ SqT K H a xs ∧ SqT K H b xs ∧ (∀ v ∈ xs, itemB v) ∧ Q (.bl false) H
theorem op_neTS (hu : X.A.units + 64 < cLine) : OpR X (compareOp .NotEq) (rNeTS X.K) := by
  intro pins s σ H x y v u Q I rx ry h
  obtain ⟨a, b, xs, rfl, rfl, ha, hb, hi, q⟩ := h
  cases (show v = Value.ref a from rx)
  cases (show u = Value.ref b from ry)
  obtain ⟨us, r1, p1, _⟩ := I.tuple ha
  obtain ⟨ws, r2, p2, _⟩ := I.tuple hb
  have hsz : us.toArray.size = ws.toArray.size := by
    rw [List.size_toArray, List.size_toArray, ← r1.length, ← r2.length]
  have e : (!((List.range (min us.toArray.size ws.toArray.size)).all (fun _ => true) && us.toArray.size == ws.toArray.size)) = false := by
    rw [show ((List.range (min us.toArray.size ws.toArray.size)).all fun _ => true) = true from List.all_eq_true.mpr fun _ _ => rfl, hsz]
    simp
  refine SeqAt.RcNeAt.tuples (e := fun _ => true) p1 p2 (by omega) (fun j h1 h2 => ?_) X.prog X.w _ _ ?_
  · have k := items_same (A := X.A.in1) (s := s) r1 r2 hi j (by simpa using h1) (by simpa using h2)
    simpa using k
  · rw [e]
    exact ⟨.bl false, H, I, rfl, q⟩
end
end OwnOp

/-! two tuples of the same plain items and objects: == tells True (beside own5) -/
namespace OwnOp
open PySem PySem.Spec PyProof.Rows L2
section
variable {X : Cx}
def rEqTS (K : PySem.W.Frag) : R2 := fun x y H Q => ∃ a b xs, x = .ref a ∧ y = .ref b ∧ SqT K H a xs ∧ SqT K H b xs ∧ (∀ v ∈ xs, itemB v) ∧ Q (.bl true) H
theorem op_eqTS (hu : X.A.units + 64 < cLine) : OpR X (compareOp .Eq) (rEqTS X.K) := by
  intro pins s σ H x y v u Q I rel1 rel2 h
  obtain ⟨a, b, xs, rfl, rfl, ha, hb, hi, q⟩ := h
  cases (show v = Value.ref a from rel1)
  cases (show u = Value.ref b from rel2)
  obtain ⟨us, r1, p1, _⟩ := I.tuple ha
  obtain ⟨ws, r2, p2, _⟩ := I.tuple hb
  have sizes : us.toArray.size = ws.toArray.size := by
    rw [List.size_toArray, List.size_toArray, ← r1.length, ← r2.length]
  have e : ((List.range (min us.toArray.size ws.toArray.size)).all (fun _ => true) && us.toArray.size == ws.toArray.size) = true := by
    rw [show ((List.range (min us.toArray.size ws.toArray.size)).all fun _ => true) = true from List.all_eq_true.mpr fun _ _ => rfl, sizes]
    simp
  refine SeqAt.RcAt.tuples (e := fun _ => true) p1 p2 (by omega) (fun j h1 h2 => ?_) X.prog X.w _ _ ?_
  · have k := items_same (A := X.A.in1) (s := s) r1 r2 hi j (by simpa using h1) (by simpa using h2)
    simpa using k
  · rw [e]
    exact ⟨.bl true, H, I, rfl, q⟩
end
end OwnOp

/-! ### zip(a list or a tuple, a tuple) -/
namespace OwnOp
open PySem PySem.Spec PyProof.Rows L2 RZ
theorem sep_of {z TI TO i1 i2 a b : Addr} (D : ZipApart z TI TO i1 i2 a b) : ZipSep2 z TI TO i1 i2 [i1, a] [i2, b] := by
  constructor
  · exact D.TIz
  · exact D.TOz
  · exact D.TITO
  · exact D.TIi1
  · exact List.mem_cons_self
  · simp [D.i1z.symm, D.l1z.symm]
  · simp [D.TOi1, D.l1TO.symm]
  · exact D.TIi2
  · exact List.mem_cons_self
  · simp [D.i2z.symm, D.l2z.symm]
  · simp [D.TOi2, D.l2TO.symm]
  · simp [D.i12, D.l2i1.symm]
  · simp [D.i12.symm, D.l1i2.symm]
/-- the list at a and the tuple at b, turn by turn, in new pairs -/
def ItzLT (K : PySem.W.Frag) (a b : Addr) : It where
  go := fun i H => ∃ (xs ys : List V) (x y : V), SqL K H a xs ∧ SqT K H b ys ∧ xs[i]? = some x ∧ ys[i]? = some y
  yld := fun i H v H' => ∃ T x y, v = .ref T ∧ H T = none ∧ H' = upd H T (.tup [x, y]) ∧ (∀ xs, SqL K H a xs → xs[i]? = some x) ∧ ∀ ys, SqT K H b ys → ys[i]? = some y
  stop := fun i H => ∃ xs ys : List V, SqL K H a xs ∧ SqT K H b ys ∧ i ≤ xs.length ∧ i ≤ ys.length ∧ (i = xs.length ∨ i = ys.length)
theorem five {c z TI TO i1 i2 : Addr} {p : Addr → Prop} (h : c ∈ [z, TI, TO, i1, i2]) (h1 : p z) (h2 : p TI) (h3 : p TO) (h4 : p i1) (h5 : p i2) : p c := by
  simp only [List.mem_cons, List.not_mem_nil, or_false] at h
  rcases h with rfl | rfl | rfl | rfl | rfl <;> assumption
theorem turn_zipLT {P : Program} {w : World} {K : PySem.W.Frag} {elts : List Expr} {kk : Nat} {tpos : Pos} {a b z TI TO i1 i2 : Addr} (D : ZipApart z TI TO i1 i2 a b) :
    Turn P w K (.Tuple elts kk tpos) (ItzLT K a b) [z, TI, TO, i1, i2] z (fun i h => IsZip h z TI TO .none ∧ IsPair h TI (.ref i1) (.ref i2) ∧ (∃ x y, IsPair h TO x y) ∧ h.IsListIter i1 a i ∧ h.IsTupleIter i2 b i) where
  mem := List.mem_cons_self
  obj := fun i h ⟨hz, hTI, ⟨x, y, hTO⟩, ⟨o1, e1, _, d1⟩, ⟨o2, e2, _, d2⟩⟩ c hc => five (p := fun c => ∃ o, h.get? c = some o ∧ ∀ v, o.data ≠ .cell v) hc ⟨_, hz, fun v q => nomatch q⟩ ⟨_, hTI, fun v q => nomatch q⟩ ⟨_, hTO, fun v q => nomatch q⟩
    ⟨o1, e1, fun v q => by rw [d1] at q; cases q⟩ ⟨o2, e2, fun v q => by rw [d2] at q; cases q⟩
  keep := fun i h h' ⟨hz, hTI, ⟨x, y, hTO⟩, h1, h2⟩ k => ⟨k z (by simp) _ hz, k TI (by simp) _ hTI, ⟨x, y, k TO (by simp) _ hTO⟩, h1.at (k i1 (by simp)), h2.at (k i2 (by simp))⟩
  item := fun X hP hw hK calm i pins s σ H E I hf ⟨hz, hTI, ⟨x0, y0, hTO⟩, h1, h2⟩ ⟨xs, ys, x, y, sqx, sqy, hx, hy⟩ => by
    cases hP
    cases hw
    cases hK
    obtain ⟨cx, px, ax, _⟩ := I.list sqx
    obtain ⟨cy, py, ay, _⟩ := I.tuple sqy
    obtain ⟨ux, gx, rx⟩ := px.get hx
    obtain ⟨uy, gy, ry⟩ := py.get hy
    have zl : z < s.heap.objs.size := Heap.lt_size hz
    have ix : i < cx.toArray.size := by
      have := (List.getElem?_eq_some_iff.mp gx).1
      simpa using this
    have iy : i < cy.toArray.size := by
      have := (List.getElem?_eq_some_iff.mp gy).1
      simpa using this
    refine wpAny_pyNext_zipD2_item (sep_of D) (Draws.list (A := X.A.in1) (I.ok.hd calm) i1 a D.l1i1 cx.toArray) (Draws.tuple (A := X.A.in1) (I.ok.hd calm) i2 b D.l2i2 cy.toArray) hz hTI hTO ⟨h1, ax.isList⟩ ⟨h2, ay⟩ ix iy fun v1 v2 h3 tk w1 w2 z3 TO3 st1 st2 T3 _ k3 => ?_
    have w1 : cx.toArray[i]? = some v1 := w1
    have w2 : cy.toArray[i]? = some v2 := w2
    obtain rfl : ux = v1 := by
      have : cx[i]? = some v1 := by simpa using w1
      exact Option.some.inj (gx.symm.trans this)
    obtain rfl : uy = v2 := by
      have : cy[i]? = some v2 := by simpa using w2
      exact Option.some.inj (gy.symm.trans this)
    refine ⟨_, rfl, wpAny_letOwnedTupleGo_zip (s := { s with heap := h3, toks := tk }) z3 fun h4 z4 but => ?_⟩
    have T4 : h4.get? s.heap.objs.size = some { cls := .type "tuple", data := .seq #[ux, uy] } := (but.2 _ (Nat.ne_of_gt zl)).trans T3
    have fresh : H s.heap.objs.size = none := I.hok.fresh (Nat.le_refl _)
    have ok4 : ObjOk X.prog X.w (upd H s.heap.objs.size (.tup [x, y])) h4 s.heap.objs.size (.tup [x, y]) := ⟨show 2 ≤ sizeLine by decide, [ux, uy], .cons rx (.cons ry .nil), ⟨_, T4, rfl, _, rfl⟩⟩
    have J : Inv X pins σ (upd H s.heap.objs.size (.tup [x, y])) { s with heap := h4, toks := tk } := I.turnedNew (t' := tk) (ch := [z, TI, TO, i1, i2]) (fun c o nc q => by
      simp only [List.mem_cons, List.not_mem_nil, or_false, not_or] at nc
      exact (but.2 c nc.1).trans (k3 c o nc.1 nc.2.2.1 nc.2.2.2.1 nc.2.2.2.2 q)) hf (Nat.le_refl _) ok4
    refine ⟨.ref s.heap.objs.size, _, J, rfl, ⟨_, x, y, rfl, fresh, rfl, fun l hl => by rw [I.list_inj hl sqx]; exact hx, fun l hl => by rw [I.tuple_inj hl sqy]; exact hy⟩,
      ⟨z4, (but.2 _ D.TIz).trans (k3 _ _ D.TIz D.TITO D.TIi1 D.TIi2 hTI), ⟨ux, uy, (but.2 _ D.TOz).trans TO3⟩, st1.1.at fun o q => (but.2 _ D.i1z).trans q, st2.1.at fun o q => (but.2 _ D.i2z).trans q⟩, fun c hc => ?_⟩
    have lt : c < s.heap.objs.size := five (p := fun c => c < s.heap.objs.size) hc zl (Heap.lt_size hTI) (Heap.lt_size hTO) (by obtain ⟨_, e1, _⟩ := h1; exact Heap.lt_size e1) (by obtain ⟨_, e2, _⟩ := h2; exact Heap.lt_size e2)
    rw [upd_ne (Nat.ne_of_lt lt)]
    exact (hf c hc).1
  done := fun X hP hw hK calm i pins s σ H E I hf ⟨hz, hTI, ⟨x0, y0, hTO⟩, h1, h2⟩ ⟨xs, ys, sqx, sqy, le1, le2, fin⟩ => by
    cases hP
    cases hw
    cases hK
    obtain ⟨cx, px, ax, _⟩ := I.list sqx
    obtain ⟨cy, py, ay, _⟩ := I.tuple sqy
    have lx := px.length
    have ly := py.length
    refine wpAny_pyNext_zipD2_end (i := i) (sep_of D) (Draws.list (A := X.A.in1) (I.ok.hd calm) i1 a D.l1i1 cx.toArray) (Draws.tuple (A := X.A.in1) (I.ok.hd calm) i2 b D.l2i2 cy.toArray) hz hTI hTO ⟨h1, ax.isList⟩ ⟨h2, ay⟩ (by simp; omega) (by simp; omega) (by simp; omega) fun h3 tk k3 => ⟨rfl, I.turnedL (t' := tk) (ch := [z, TI, TO, i1, i2]) (fun c o nc q => ?_) hf⟩
    simp only [List.mem_cons, List.not_mem_nil, or_false, not_or] at nc
    exact k3 c o nc.1 nc.2.2.1 nc.2.2.2.1 nc.2.2.2.2 q
  self := fun A i s Q E st h => wpAny_pyIter_zip st.1 h
/-- the two walks, n turns, told alike -/
theorem walk_zipLT {K : PySem.W.Frag} {a b : Addr} {xs ys : List V} {n : Nat} (h1 : xs.length = n) (h2 : ys.length = n) : Walk (ItzLT K a b) n (fun H => SqL K H a xs ∧ SqT K H b ys) (YPair (fun i => xs[i]?) (fun i => ys[i]?)) := by
  subst h1
  refine ⟨fun i _ hi q => ⟨xs, ys, xs[i], ys[i], q.1, q.2, List.getElem?_eq_getElem hi, List.getElem?_eq_getElem (by omega)⟩, fun _ q => ⟨xs, ys, q.1, q.2, by omega, by omega, .inl rfl⟩, fun i H v H' _ q y => ?_⟩
  obtain ⟨T, x, z, e1, e2, e3, e4, e5⟩ := y
  exact ⟨T, x, z, e1, e2, e3, e4 xs q.1, e5 ys q.2⟩
theorem walk_zipTT {K : PySem.W.Frag} {a b : Addr} {xs ys : List V} {n : Nat} (h1 : xs.length = n) (h2 : ys.length = n) : Walk (ItzT K a b) n (fun H => SqT K H a xs ∧ SqT K H b ys) (YPair (fun i => xs[i]?) (fun i => ys[i]?)) := by
  subst h1
  refine ⟨fun i _ hi q => ⟨xs, ys, xs[i], ys[i], q.1, q.2, List.getElem?_eq_getElem hi, List.getElem?_eq_getElem (by omega)⟩, fun _ q => ⟨xs, ys, q.1, q.2, by omega⟩, fun i H v H' _ q y => ?_⟩
  obtain ⟨T, x, z, e1, e2, e3, e4, e5⟩ := y
  exact ⟨T, x, z, e1, e2, e3, e4 xs q.1, e5 ys q.2⟩
/-- a list (true) or a tuple -/
def SqX (k : Bool) (K : PySem.W.Frag) (H : Hp) (a : Addr) (xs : List V) : Prop := match k with
  | true => SqL K H a xs
  | false => SqT K H a xs
def iZipM (K : PySem.W.Frag) (ta : TA) : TI := fun σ H R => ta σ H fun vs H1 => ∃ a b xs ys n k, vs = [.ref a, .ref b] ∧ SqT K H1 b ys ∧ SqX k K H1 a xs ∧ xs.length = n ∧ ys.length = n ∧
  ∀ J, Walk J n (fun H' => SqX k K H' a xs ∧ SqT K H' b ys) (YPair (fun i => xs[i]?) (fun i => ys[i]?)) → R J H1
theorem pi_zipM {X : Cx} {e e2 : Expr} {ta : TA} {p pos tpos : Pos} {elts : List Expr} {kk : Nat} (gl : Gl X "zip") (free : X.mg "zip" = none) (ha : PA X [e, e2] ta)
    (one : starEach [e, e2] X.env = (false, eval e X.env) :: starEach [e2] X.env := by rfl) (plain : (backTo pos (starEach [e2] X.env)).any (·.1) = false := by rfl) :
    PI X (.Tuple elts kk tpos) (.Call (.Name "zip" p) [e, e2] [] pos) (iZipM X.K ta) := by
  constructor
  intro pins s σ H R I h
  refine Call_ (ld_blt I gl free PyProof.Rows.boot_zip (PyProof.Rows.callWith_type1 (thn (ha.run pos pins s σ H _ I h) ?_) one plain))
  rintro us s1 ⟨vs, H1, I1, r1, a, b, xs, ys, n, k, rfl, sqy, kx, n1, n2, q⟩
  obtain ⟨u1, u2, rfl, e1, e2⟩ := vals2 r1
  obtain rfl : u1 = Value.ref a := e1
  obtain rfl : u2 = Value.ref b := e2
  obtain ⟨cy, py, ay, _⟩ := I1.tuple sqy
  have ay : s1.heap.IsTuple b cy.toArray := ay
  have fresh : ∀ c, c ∈ [s1.heap.objs.size + 4, s1.heap.objs.size + 2, s1.heap.objs.size + 3, s1.heap.objs.size, s1.heap.objs.size + 1] → FpOk X pins H1 c := fun c hc => by
    have le : s1.heap.objs.size ≤ c := five (p := fun c => s1.heap.objs.size ≤ c) hc (Nat.le_add_right _ _) (Nat.le_add_right _ _) (Nat.le_add_right _ _) (Nat.le_refl _) (Nat.le_add_right _ _)
    exact I1.fpOk le (I1.hok.fresh le)
  have lb : b < s1.heap.objs.size := by
    obtain ⟨o2, g2, _⟩ := ay
    exact Heap.lt_size g2
  cases k with
  | true =>
    have sqx : SqL X.K H1 a xs := kx
    obtain ⟨cx, px, ax, _⟩ := I1.list sqx
    refine zip_begins2 (begins_list a cx.toArray) (begins_tuple b cy.toArray) ax.isList ay fun h3 hz hTI hTO g1 g2 _ k3 => wpAny_pyIter_zip hz ?_
    exact ⟨s1.heap.objs.size + 4, _, _, _, H1, rfl, I1.kept (t' := s1.toks) k3, turn_zipLT (PySem.W.ktu_apart s1.heap.objs.size a b ax.lt lb), ⟨hz, hTI, ⟨_, _, hTO⟩, ⟨_, g1, rfl, rfl⟩, ⟨_, g2, rfl, rfl⟩⟩, fresh, q _ (walk_zipLT n1 n2)⟩
  | false =>
    have sqx : SqT X.K H1 a xs := kx
    obtain ⟨cx, px, ax, _⟩ := I1.tuple sqx
    have ax : s1.heap.IsTuple a cx.toArray := ax
    have la : a < s1.heap.objs.size := by
      obtain ⟨o1, g1, _⟩ := ax
      exact Heap.lt_size g1
    refine zip_begins2 (begins_tuple a cx.toArray) (begins_tuple b cy.toArray) ax ay fun h3 hz hTI hTO g1 g2 _ k3 => wpAny_pyIter_zip hz ?_
    exact ⟨s1.heap.objs.size + 4, _, _, _, H1, rfl, I1.kept (t' := s1.toks) k3, turn_zipT (PySem.W.ktu_apart s1.heap.objs.size a b la lb), ⟨hz, hTI, ⟨_, _, hTO⟩, ⟨_, g1, rfl, rfl⟩, ⟨_, g2, rfl, rfl⟩⟩, fresh, q _ (walk_zipTT n1 n2)⟩
end OwnOp

namespace M
open PySem PySem.Spec PyProof.Rows L2
def topS (i : Nat) : Stmt := PySem.Challenge.pw_mendedtree_k36_seen_children.main.body.getD i (.Pass ⟨0, 0, 0, 0⟩)
abbrev s_seen : Stmt := topS 1
theorem sc_seen : FnScope ["grammar", "node", "found", "waiting", "offset", "label", "child"] ["grammar", "node"] (defScope s_seen) := ⟨rfl, rfl, rfl, by decide +kernel, rfl, by decide +kernel, by decide +kernel⟩
abbrev s_children : Stmt := topS 2
theorem sc_children : FnScope ["grammar", "node", "offset", "outer", "labels", "found", "label", "child"] ["grammar", "node", "offset", "outer"] (defScope s_children) := ⟨rfl, rfl, rfl, by decide +kernel, rfl, by decide +kernel, by decide +kernel⟩
abbrev s_Grammar_init : Stmt := inClass (topS 4) 0
theorem sc_Grammar_init : FnScope ["self", "name", "kinds", "rules", "alternatives", "skip", "hidden", "recover", "inner", "steps"] ["self", "name", "kinds", "rules", "alternatives", "skip", "hidden", "recover", "inner", "steps"] (defScope s_Grammar_init) := ⟨rfl, rfl, rfl, by decide +kernel, rfl, by decide +kernel, by decide +kernel⟩
abbrev s_Node_init : Stmt := inClass (topS 6) 0
theorem sc_Node_init : FnScope ["self", "kind", "symbol", "state", "lead", "width", "look", "alternative", "nodes", "popped"] ["self", "kind", "symbol", "state", "lead", "width", "look", "alternative", "nodes", "popped"] (defScope s_Node_init) := ⟨rfl, rfl, rfl, by decide +kernel, rfl, by decide +kernel, by decide +kernel⟩
abbrev s_law_reel : Stmt := topS 8
theorem sc_law_reel : FnScope ["script", "reel", "k", "cell", "rest", "turn", "mixed"] ["script"] (defScope s_law_reel) := ⟨rfl, rfl, rfl, by decide +kernel, rfl, by decide +kernel, by decide +kernel⟩
abbrev s_law_draw : Stmt := topS 9
theorem sc_law_draw : FnScope ["reel", "size", "count", "at"] ["reel", "size"] (defScope s_law_draw) := ⟨rfl, rfl, rfl, by decide +kernel, rfl, by decide +kernel, by decide +kernel⟩
abbrev s_law_pick : Stmt := topS 10
theorem sc_law_pick : FnScope ["reel", "row"] ["reel", "row"] (defScope s_law_pick) := ⟨rfl, rfl, rfl, by decide +kernel, rfl, by decide +kernel, by decide +kernel⟩
abbrev s_law_label : Stmt := topS 11
theorem sc_law_label : FnScope ["reel"] ["reel"] (defScope s_law_label) := ⟨rfl, rfl, rfl, by decide +kernel, rfl, by decide +kernel, by decide +kernel⟩
abbrev s_law_way : Stmt := topS 12
theorem sc_law_way : FnScope ["reel", "name", "row", "symbol"] ["reel", "name", "row"] (defScope s_law_way) := ⟨rfl, rfl, rfl, by decide +kernel, rfl, by decide +kernel, by decide +kernel⟩
abbrev s_law_ways : Stmt := topS 13
theorem sc_law_ways : FnScope ["reel", "names", "sorts", "ways", "k", "lower", "row", "turn", "at", "more", "form"] ["reel", "names", "sorts"] (defScope s_law_ways) := ⟨rfl, rfl, rfl, by decide +kernel, rfl, by decide +kernel, by decide +kernel⟩
abbrev s_law_leaf_row : Stmt := topS 14
theorem sc_law_leaf_row : FnScope ["reel", "level", "symbol", "skipped", "gap", "more", "number"] ["reel", "level", "symbol", "skipped"] (defScope s_law_leaf_row) := ⟨rfl, rfl, rfl, by decide +kernel, rfl, by decide +kernel, by decide +kernel⟩
abbrev s_law_grown : Stmt := topS 15
theorem sc_law_grown : FnScope ["reel", "names", "sorts", "ways", "start", "depth", "rows", "labels", "todo", "turn", "level", "symbol", "label", "below", "number", "room", "k", "at"] ["reel", "names", "sorts", "ways", "start", "depth"] (defScope s_law_grown) := ⟨rfl, rfl, rfl, by decide +kernel, rfl, by decide +kernel, by decide +kernel⟩
abbrev s_law_deep : Stmt := topS 16
theorem sc_law_deep : FnScope ["reel", "ways", "sort", "deep", "rows", "labels", "turns", "k", "label", "way"] ["reel", "ways", "sort", "deep"] (defScope s_law_deep) := ⟨rfl, rfl, rfl, by decide +kernel, rfl, by decide +kernel, by decide +kernel⟩
abbrev s_law_rooted : Stmt := topS 17
theorem sc_law_rooted : FnScope ["reel", "grown", "gap", "ending"] ["reel", "grown"] (defScope s_law_rooted) := ⟨rfl, rfl, rfl, by decide +kernel, rfl, by decide +kernel, by decide +kernel⟩
abbrev s_law_is_leaf : Stmt := topS 18
theorem sc_law_is_leaf : FnScope ["row"] ["row"] (defScope s_law_is_leaf) := ⟨rfl, rfl, rfl, by decide +kernel, rfl, by decide +kernel, by decide +kernel⟩
abbrev s_law_fitted : Stmt := topS 19
theorem sc_law_fitted : FnScope ["rows", "fitted", "waiting", "k", "row", "size", "first", "part"] ["rows"] (defScope s_law_fitted) := ⟨rfl, rfl, rfl, by decide +kernel, rfl, by decide +kernel, by decide +kernel⟩
abbrev s_law_made : Stmt := topS 20
theorem sc_law_made : FnScope ["rows", "made", "waiting", "k", "row", "below"] ["rows"] (defScope s_law_made) := ⟨rfl, rfl, rfl, by decide +kernel, rfl, by decide +kernel, by decide +kernel⟩
abbrev s_law_kids : Stmt := topS 21
theorem sc_law_kids : FnScope ["rows", "kids", "row", "last", "k", "level"] ["rows"] (defScope s_law_kids) := ⟨rfl, rfl, rfl, by decide +kernel, rfl, by decide +kernel, by decide +kernel⟩
abbrev s_law_end : Stmt := topS 22
theorem sc_law_end : FnScope ["rows", "at", "end"] ["rows", "at"] (defScope s_law_end) := ⟨rfl, rfl, rfl, by decide +kernel, rfl, by decide +kernel, by decide +kernel⟩
abbrev s_law_places : Stmt := topS 23
theorem sc_law_places : FnScope ["rows", "start", "places", "place", "row"] ["rows", "start"] (defScope s_law_places) := ⟨rfl, rfl, rfl, by decide +kernel, rfl, by decide +kernel, by decide +kernel⟩
abbrev s_law_ups : Stmt := topS 24
theorem sc_law_ups : FnScope ["rows", "ups", "kids", "k", "index"] ["rows"] (defScope s_law_ups) := ⟨rfl, rfl, rfl, by decide +kernel, rfl, by decide +kernel, by decide +kernel⟩
abbrev s_law_seen : Stmt := topS 25
theorem sc_law_seen : FnScope ["rows", "labels", "places", "ups", "veiled", "at", "carried", "found", "k", "around", "label"] ["rows", "labels", "places", "ups", "veiled", "at"] (defScope s_law_seen) := ⟨rfl, rfl, rfl, by decide +kernel, rfl, by decide +kernel, by decide +kernel⟩
abbrev s_law_is : Stmt := topS 26
theorem sc_law_is : FnScope ["told", "due", "made", "k", "row"] ["told", "due", "made"] (defScope s_law_is) := ⟨rfl, rfl, rfl, by decide +kernel, rfl, by decide +kernel, by decide +kernel⟩
abbrev s_law_agrees : Stmt := topS 27
theorem sc_law_agrees : FnScope ["grammar", "veiled", "rows", "labels", "made", "asked", "places", "ups", "at", "due", "told"] ["grammar", "veiled", "rows", "labels", "made", "asked"] (defScope s_law_agrees) := ⟨rfl, rfl, rfl, by decide +kernel, rfl, by decide +kernel, by decide +kernel⟩
abbrev s_law_twice_holds : Stmt := topS 28
theorem sc_law_twice_holds : FnScope ["reel", "grammar", "name", "veiled", "rows", "labels", "made", "skip", "spots", "others", "marks", "beside", "at", "end", "row", "below"] ["reel", "grammar", "name", "veiled", "rows", "labels", "made"] (defScope s_law_twice_holds) := ⟨rfl, rfl, rfl, by decide +kernel, rfl, by decide +kernel, by decide +kernel⟩
abbrev s_law_labelled_holds : Stmt := topS 29
theorem sc_law_labelled_holds : FnScope ["reel", "grammar", "veiled", "rows", "labels", "made", "skip", "known", "pair", "spots", "k", "one", "two", "head", "many", "way", "wider", "leaf", "others", "marks", "beside", "at", "end", "row", "below"] ["reel", "grammar", "veiled", "rows", "labels", "made"] (defScope s_law_labelled_holds) := ⟨rfl, rfl, rfl, by decide +kernel, rfl, by decide +kernel, by decide +kernel⟩
abbrev s_law : Stmt := topS 30
theorem sc_law : FnScope ["script", "reel", "form", "stem", "names", "mark", "sorts", "sort", "ways", "row", "grown", "asked", "way", "rooted", "k", "rows", "made", "pairs", "veiled", "name", "others", "first", "second"] ["script"] (defScope s_law) := ⟨rfl, rfl, rfl, by decide +kernel, rfl, by decide +kernel, by decide +kernel⟩
structure Txt (K : PySem.W.Frag) (mg : Str → Option Value) where
  a_seen : Addr
  fd_seen : FuncData
  F_seen : Fun K "seen" "seen" s_seen a_seen fd_seen
  b_seen : Binds K fd_seen ["grammar", "node"] []
  g_seen : mg "seen" = some (.ref a_seen)
  a_children : Addr
  fd_children : FuncData
  F_children : Fun K "_children" "_children" s_children a_children fd_children
  b_children : Binds K fd_children ["grammar", "node", "offset", "outer"] []
  g_children : mg "_children" = some (.ref a_children)
  a_Grammar_init : Addr
  fd_Grammar_init : FuncData
  F_Grammar_init : Fun K "__init__" "Grammar.__init__" s_Grammar_init a_Grammar_init fd_Grammar_init
  T0_Grammar_hidden : Addr
  t0_Grammar_hidden : ∃ (oc : Option Addr) (n : Nat) (sl : Array (Option Value)), K.lookup T0_Grammar_hidden = some ⟨.type "tuple", oc, .seq #[] n, sl⟩
  T0_Grammar_recover : Addr
  t0_Grammar_recover : ∃ (oc : Option Addr) (n : Nat) (sl : Array (Option Value)), K.lookup T0_Grammar_recover = some ⟨.type "tuple", oc, .seq #[] n, sl⟩
  T0_Grammar_inner : Addr
  t0_Grammar_inner : ∃ (oc : Option Addr) (n : Nat) (sl : Array (Option Value)), K.lookup T0_Grammar_inner = some ⟨.type "tuple", oc, .seq #[] n, sl⟩
  T0_Grammar_steps : Addr
  t0_Grammar_steps : ∃ (oc : Option Addr) (n : Nat) (sl : Array (Option Value)), K.lookup T0_Grammar_steps = some ⟨.type "tuple", oc, .seq #[] n, sl⟩
  FD_Grammar_init : FunD K "__init__" "Grammar.__init__" (defArgs s_Grammar_init) (defBody s_Grammar_init) (defScope s_Grammar_init) [] [("skip", V.str ""), ("hidden", V.ref T0_Grammar_hidden), ("recover", V.ref T0_Grammar_recover), ("inner", V.ref T0_Grammar_inner), ("steps", V.ref T0_Grammar_steps)] a_Grammar_init fd_Grammar_init
  a_Node_init : Addr
  fd_Node_init : FuncData
  F_Node_init : Fun K "__init__" "Node.__init__" s_Node_init a_Node_init fd_Node_init
  T0_Node : Addr
  t0_Node : ∃ (oc : Option Addr) (n : Nat) (sl : Array (Option Value)), K.lookup T0_Node = some ⟨.type "tuple", oc, .seq #[] n, sl⟩
  FD_Node_init : FunD K "__init__" "Node.__init__" (defArgs s_Node_init) (defBody s_Node_init) (defScope s_Node_init) [] [("alternative", V.int (-1)), ("nodes", V.ref T0_Node), ("popped", V.int (0))] a_Node_init fd_Node_init
  a_law_reel : Addr
  fd_law_reel : FuncData
  F_law_reel : Fun K "_law_reel" "_law_reel" s_law_reel a_law_reel fd_law_reel
  b_law_reel : Binds K fd_law_reel ["script"] []
  g_law_reel : mg "_law_reel" = some (.ref a_law_reel)
  a_law_draw : Addr
  fd_law_draw : FuncData
  F_law_draw : Fun K "_law_draw" "_law_draw" s_law_draw a_law_draw fd_law_draw
  b_law_draw : Binds K fd_law_draw ["reel", "size"] []
  g_law_draw : mg "_law_draw" = some (.ref a_law_draw)
  a_law_pick : Addr
  fd_law_pick : FuncData
  F_law_pick : Fun K "_law_pick" "_law_pick" s_law_pick a_law_pick fd_law_pick
  b_law_pick : Binds K fd_law_pick ["reel", "row"] []
  g_law_pick : mg "_law_pick" = some (.ref a_law_pick)
  a_law_label : Addr
  fd_law_label : FuncData
  F_law_label : Fun K "_law_label" "_law_label" s_law_label a_law_label fd_law_label
  b_law_label : Binds K fd_law_label ["reel"] []
  g_law_label : mg "_law_label" = some (.ref a_law_label)
  a_law_way : Addr
  fd_law_way : FuncData
  F_law_way : Fun K "_law_way" "_law_way" s_law_way a_law_way fd_law_way
  b_law_way : Binds K fd_law_way ["reel", "name", "row"] []
  g_law_way : mg "_law_way" = some (.ref a_law_way)
  a_law_ways : Addr
  fd_law_ways : FuncData
  F_law_ways : Fun K "_law_ways" "_law_ways" s_law_ways a_law_ways fd_law_ways
  b_law_ways : Binds K fd_law_ways ["reel", "names", "sorts"] []
  g_law_ways : mg "_law_ways" = some (.ref a_law_ways)
  a_law_leaf_row : Addr
  fd_law_leaf_row : FuncData
  F_law_leaf_row : Fun K "_law_leaf_row" "_law_leaf_row" s_law_leaf_row a_law_leaf_row fd_law_leaf_row
  b_law_leaf_row : Binds K fd_law_leaf_row ["reel", "level", "symbol", "skipped"] []
  g_law_leaf_row : mg "_law_leaf_row" = some (.ref a_law_leaf_row)
  a_law_grown : Addr
  fd_law_grown : FuncData
  F_law_grown : Fun K "_law_grown" "_law_grown" s_law_grown a_law_grown fd_law_grown
  b_law_grown : Binds K fd_law_grown ["reel", "names", "sorts", "ways", "start", "depth"] []
  g_law_grown : mg "_law_grown" = some (.ref a_law_grown)
  a_law_deep : Addr
  fd_law_deep : FuncData
  F_law_deep : Fun K "_law_deep" "_law_deep" s_law_deep a_law_deep fd_law_deep
  b_law_deep : Binds K fd_law_deep ["reel", "ways", "sort", "deep"] []
  g_law_deep : mg "_law_deep" = some (.ref a_law_deep)
  a_law_rooted : Addr
  fd_law_rooted : FuncData
  F_law_rooted : Fun K "_law_rooted" "_law_rooted" s_law_rooted a_law_rooted fd_law_rooted
  b_law_rooted : Binds K fd_law_rooted ["reel", "grown"] []
  g_law_rooted : mg "_law_rooted" = some (.ref a_law_rooted)
  a_law_is_leaf : Addr
  fd_law_is_leaf : FuncData
  F_law_is_leaf : Fun K "_law_is_leaf" "_law_is_leaf" s_law_is_leaf a_law_is_leaf fd_law_is_leaf
  b_law_is_leaf : Binds K fd_law_is_leaf ["row"] []
  g_law_is_leaf : mg "_law_is_leaf" = some (.ref a_law_is_leaf)
  a_law_fitted : Addr
  fd_law_fitted : FuncData
  F_law_fitted : Fun K "_law_fitted" "_law_fitted" s_law_fitted a_law_fitted fd_law_fitted
  b_law_fitted : Binds K fd_law_fitted ["rows"] []
  g_law_fitted : mg "_law_fitted" = some (.ref a_law_fitted)
  a_law_made : Addr
  fd_law_made : FuncData
  F_law_made : Fun K "_law_made" "_law_made" s_law_made a_law_made fd_law_made
  b_law_made : Binds K fd_law_made ["rows"] []
  g_law_made : mg "_law_made" = some (.ref a_law_made)
  a_law_kids : Addr
  fd_law_kids : FuncData
  F_law_kids : Fun K "_law_kids" "_law_kids" s_law_kids a_law_kids fd_law_kids
  b_law_kids : Binds K fd_law_kids ["rows"] []
  g_law_kids : mg "_law_kids" = some (.ref a_law_kids)
  a_law_end : Addr
  fd_law_end : FuncData
  F_law_end : Fun K "_law_end" "_law_end" s_law_end a_law_end fd_law_end
  b_law_end : Binds K fd_law_end ["rows", "at"] []
  g_law_end : mg "_law_end" = some (.ref a_law_end)
  a_law_places : Addr
  fd_law_places : FuncData
  F_law_places : Fun K "_law_places" "_law_places" s_law_places a_law_places fd_law_places
  b_law_places : Binds K fd_law_places ["rows", "start"] []
  g_law_places : mg "_law_places" = some (.ref a_law_places)
  a_law_ups : Addr
  fd_law_ups : FuncData
  F_law_ups : Fun K "_law_ups" "_law_ups" s_law_ups a_law_ups fd_law_ups
  b_law_ups : Binds K fd_law_ups ["rows"] []
  g_law_ups : mg "_law_ups" = some (.ref a_law_ups)
  a_law_seen : Addr
  fd_law_seen : FuncData
  F_law_seen : Fun K "_law_seen" "_law_seen" s_law_seen a_law_seen fd_law_seen
  b_law_seen : Binds K fd_law_seen ["rows", "labels", "places", "ups", "veiled", "at"] []
  g_law_seen : mg "_law_seen" = some (.ref a_law_seen)
  a_law_is : Addr
  fd_law_is : FuncData
  F_law_is : Fun K "_law_is" "_law_is" s_law_is a_law_is fd_law_is
  b_law_is : Binds K fd_law_is ["told", "due", "made"] []
  g_law_is : mg "_law_is" = some (.ref a_law_is)
  a_law_agrees : Addr
  fd_law_agrees : FuncData
  F_law_agrees : Fun K "_law_agrees" "_law_agrees" s_law_agrees a_law_agrees fd_law_agrees
  b_law_agrees : Binds K fd_law_agrees ["grammar", "veiled", "rows", "labels", "made", "asked"] []
  g_law_agrees : mg "_law_agrees" = some (.ref a_law_agrees)
  a_law_twice_holds : Addr
  fd_law_twice_holds : FuncData
  F_law_twice_holds : Fun K "_law_twice_holds" "_law_twice_holds" s_law_twice_holds a_law_twice_holds fd_law_twice_holds
  b_law_twice_holds : Binds K fd_law_twice_holds ["reel", "grammar", "name", "veiled", "rows", "labels", "made"] []
  g_law_twice_holds : mg "_law_twice_holds" = some (.ref a_law_twice_holds)
  a_law_labelled_holds : Addr
  fd_law_labelled_holds : FuncData
  F_law_labelled_holds : Fun K "_law_labelled_holds" "_law_labelled_holds" s_law_labelled_holds a_law_labelled_holds fd_law_labelled_holds
  b_law_labelled_holds : Binds K fd_law_labelled_holds ["reel", "grammar", "veiled", "rows", "labels", "made"] []
  g_law_labelled_holds : mg "_law_labelled_holds" = some (.ref a_law_labelled_holds)
  a_law : Addr
  fd_law : FuncData
  F_law : Fun K "law" "law" s_law a_law fd_law
  b_law : Binds K fd_law ["script"] []
  g_law : mg "law" = some (.ref a_law)
  m_range : mg "range" = none
  m_min : mg "min" = none
  m_max : mg "max" = none
  m_len : mg "len" = none
  m_abs : mg "abs" = none
  m_int : mg "int" = none
  m_sum : mg "sum" = none
  m_isinstance : mg "isinstance" = none
  m_bool : mg "bool" = none
  m_list : mg "list" = none
  m_tuple : mg "tuple" = none
  m_str : mg "str" = none
  m_zip : mg "zip" = none
  C_Node : Addr
  G_Node : mg "Node" = some (.ref C_Node)
  C_Grammar : Addr
  G_Grammar : mg "Grammar" = some (.ref C_Grammar)
  CL_Node : Cls K C_Node
  MK_Node : Mk K C_Node a_Node_init
  IC_Node : C8.InsC K C_Node
  NA_Node_kind : NoAttr K C_Node "kind"
  NA_Node_symbol : NoAttr K C_Node "symbol"
  NA_Node_state : NoAttr K C_Node "state"
  NA_Node_lead : NoAttr K C_Node "lead"
  NA_Node_width : NoAttr K C_Node "width"
  NA_Node_look : NoAttr K C_Node "look"
  NA_Node_alternative : NoAttr K C_Node "alternative"
  NA_Node_nodes : NoAttr K C_Node "nodes"
  NA_Node_popped : NoAttr K C_Node "popped"
  CL_Grammar : Cls K C_Grammar
  MK_Grammar : Mk K C_Grammar a_Grammar_init
  IC_Grammar : C8.InsC K C_Grammar
  NA_Grammar_name : NoAttr K C_Grammar "name"
  NA_Grammar_skip : NoAttr K C_Grammar "skip"
  NA_Grammar_kinds : NoAttr K C_Grammar "kinds"
  NA_Grammar_rules : NoAttr K C_Grammar "rules"
  NA_Grammar_alternatives : NoAttr K C_Grammar "alternatives"
  NA_Grammar_hidden : NoAttr K C_Grammar "hidden"
  NA_Grammar_recover : NoAttr K C_Grammar "recover"
  NA_Grammar_inner : NoAttr K C_Grammar "inner"
  NA_Grammar_steps : NoAttr K C_Grammar "steps"
/-! ### heaps: what a def leaves as it was -/
/-- all that was tracked but at r stands as it was -/
def But (r : Addr) (H H' : Hp) : Prop := ∀ b o, b ≠ r → H b = some o → H' b = some o
theorem But.refl (r : Addr) (H : Hp) : But r H H := fun _ _ _ h => h
theorem But.trans {r : Addr} {H H1 H2 : Hp} (a : But r H H1) (b : But r H1 H2) : But r H H2 := fun c o n h => b c o n (a c o n h)
theorem But.of {r : Addr} {H H' : Hp} (e : Same H H') : But r H H' := fun b o _ h => e b o h
theorem But.set {r : Addr} {H : Hp} {o : HO} : But r H (upd H r o) := fun b u n h => by rw [upd_ne n]; exact h
theorem But.new {r p : Addr} {H : Hp} {o : HO} (h : H p = none) : But r H (upd H p o) := fun b u _ e => by rw [upd_ne (ne_of_none e h)]; exact e
theorem same_upd {H : Hp} {p : Addr} {o : HO} (h : H p = none) : Same H (upd H p o) := fun b x e => by rw [upd_ne (ne_of_none e h)]; exact e
/-- the list that the drawing goes along: a place, then numbers -/
def ReelAt (H : Hp) (r : Addr) : Prop := ∃ (z : Int) (c : List Int), H r = some (.lst (.int z :: c.map V.int)) ∧ 1 ≤ c.length ∧ c.length ≤ 100000
theorem ReelAt.new {H : Hp} {r p : Addr} {o : HO} (h : ReelAt H r) (n : H p = none) : ReelAt (upd H p o) r := by
  obtain ⟨z, c, h1, h2⟩ := h
  exact ⟨z, c, by rw [upd_ne (ne_of_none h1 n)]; exact h1, h2⟩
theorem ReelAt.ne {H : Hp} {r p : Addr} (h : ReelAt H r) (n : H p = none) : r ≠ p := by
  obtain ⟨z, c, h1, h2⟩ := h
  exact ne_of_none h1 n
theorem atI_lt {xs : List V} {z : Int} (h0 : 0 ≤ z) (h : z.toNat < xs.length) : atI xs z = some (xs[z.toNat]'h) :=
  at_of (j := z.toNat) (by omega) (List.getElem?_eq_getElem h)
theorem at_of' {α : Type} {xs : List α} {z : Int} {c : α} (h0 : 0 ≤ z) (h : xs[z.toNat]? = some c) : atI xs z = some c := by
  have e : z = ((z.toNat : Nat) : Int) := by omega
  rw [e]
  exact atI_nat h
theorem fmod_range (a : Int) {n : Int} (h : 0 < n) : 0 ≤ a.fmod n ∧ a.fmod n < n := ⟨Int.fmod_nonneg_of_pos a h, Int.fmod_lt_of_pos a h⟩
theorem sz1 {n : Nat} (h : n ≤ 100000) : n ≤ sizeLine := Nat.le_trans h (by decide)
theorem sz2 {n : Nat} (h : n < 100000) : n < sizeLine := Nat.lt_of_lt_of_le h (by decide)
/-- a text's signs -/
abbrev cs (x : Str) : List Nat := x.cps.toList
theorem len_cs (x : Str) : x.length = (cs x).length := by
  show x.cps.size = x.cps.toList.length
  rw [Array.length_toList]
theorem cs_mk (l : List Nat) : cs ⟨l.toArray⟩ = l := rfl
theorem cs_inj {x y : Str} (h : cs x = cs y) : x = y := by
  cases x with
  | mk a =>
    cases y with
    | mk b =>
      have e : a = b := Array.toList_inj.mp h
      rw [e]
theorem cs_app (x y : Str) : cs (x ++ y) = cs x ++ cs y := by
  show (x.cps ++ y.cps).toList = _
  rw [Array.toList_append]
theorem cs_join {e : Str} (he : cs e = []) : ∀ ys : List Str, cs (Str.join e ys) = (ys.map cs).flatten
  | [] => rfl
  | [x] => by
    show cs x = ([x].map cs).flatten
    simp
  | x :: y :: r => by
    show cs (x ++ e ++ Str.join e (y :: r)) = _
    rw [cs_app, cs_app, he, List.append_nil, cs_join he (y :: r)]
    rfl
theorem cs_joinT {e : Str} (he : cs e = []) (ys : List Str) : cs (Txt.join e ys) = (ys.map cs).flatten := by rw [TL.join_eq]; exact cs_join he ys
/-- the text of one sign -/
abbrev sg (c : Nat) : Str := ⟨#[c]⟩
theorem sg_flat : ∀ l : List Nat, ((l.map sg).map cs).flatten = l
  | [] => rfl
  | c :: r => by
    show [c] ++ ((r.map sg).map cs).flatten = c :: r
    rw [sg_flat r]
    rfl
theorem sg_lens : ∀ l : List Nat, ((l.map sg).map (·.length)).sum = l.length
  | [] => rfl
  | c :: r => by
    show 1 + ((r.map sg).map (·.length)).sum = r.length + 1
    rw [sg_lens r]
    omega
theorem join_sg {e : Str} (he : cs e = []) (l : List Nat) : Txt.join e (l.map sg) = ⟨l.toArray⟩ := cs_inj (by rw [cs_joinT he, sg_flat])
theorem But.seq {r : Addr} {K : PySem.W.Frag} {H H' : Hp} {a : Addr} {xs : List V} (e : But r H H') (n : a ≠ r) (h : SqL K H a xs) : SqL K H' a xs := by
  rcases h with (h | ⟨o, h⟩) | h
  · exact .inl (.inl (e _ _ n h))
  · exact .inl (.inr ⟨o, e _ _ n h⟩)
  · exact .inr h
theorem But.free {r : Addr} {H H' : Hp} (e : But r H H') {l : Addr} (n : l ≠ r) (h : H' l = none) : H l = none := by
  cases q : H l with
  | none => rfl
  | some o =>
    rw [e l o n q] at h
    cases h
/-- a text whose signs are signs -/
def TOk (x : Str) : Prop := ∀ c ∈ cs x, c < 1114112
def tokB (x : Str) : Bool := x.cps.toList.all fun c => decide (c < 1114112)
theorem tok_of {x : Str} (h : tokB x = true) : TOk x := fun c hc => of_decide_eq_true (List.all_eq_true.mp h c hc)

section
variable {P : Program} {w : World} {K : PySem.W.Frag} {mg : Str → Option Value} {base : Heap}
theorem ix_tupK {X : Cx} {K : PySem.W.Frag} (h : X.K = K) : IxR X (rIxT K) := by
  subst h
  exact ix_tup
theorem ix_listK {X : Cx} {K : PySem.W.Frag} (h : X.K = K) : IxR X (rIxL K) := by
  subst h
  exact ix_list
theorem call_len_seqK {X : Cx} {K : PySem.W.Frag} (h : X.K = K) : CallR X (.builtin "len") (fun xs H Q => ∃ p ys, xs = [V.ref p] ∧ (SqL K H p ys ∨ SqT K H p ys) ∧ Q (.int (ys.length : Int)) H) := by
  subst h
  exact call_len_seq

/-! ### keyword-only defaults -/
theorem kwd_all3 {K : PySem.W.Frag} {D : Addr} {a b c : Str × V} (ha : ∃ u, PySem.W.nsIn K D a.1 = some (some u) ∧ RelV a.2 u) (hb : ∃ u, PySem.W.nsIn K D b.1 = some (some u) ∧ RelV b.2 u) (hc : ∃ u, PySem.W.nsIn K D c.1 = some (some u) ∧ RelV c.2 u) :
    ∀ q ∈ [a, b, c], ∃ u, PySem.W.nsIn K D q.1 = some (some u) ∧ RelV q.2 u := fun q hq => by
  rcases List.mem_cons.mp hq with rfl | hq
  · exact ha
  · rcases List.mem_cons.mp hq with rfl | hq
    · exact hb
    · rw [List.mem_singleton.mp hq]
      exact hc

/-! ### Node(.., k = v, ..) -/
abbrev psN : List Str := ["self", "kind", "symbol", "state", "lead", "width", "look", "alternative", "nodes", "popped"]
theorem kb_Node4 (T : Txt K mg) : ∃ mv, KBn K T.fd_Node_init psN 3 ["state", "lead", "width", "look"] (fun us ws => us ++ ws ++ mv) (fun vs zs => vs ++ zs ++ [.int (-1), .ref T.T0_Node, .int 0]) :=
  T.FD_Node_init.kbinds0 3 ["state", "lead", "width", "look"] [("alternative", .int (-1)), ("nodes", .ref T.T0_Node), ("popped", .int 0)] (fun a b c => a ++ c ++ b) (List.cons_ne_nil _ _) (fun _ h => h) (fun r1 r2 r3 => (r1.append r3).append r2) fun D doc pm an cdv ct us mv ws l1 l2 l3 => by
    match us, l1, mv, l2, ws, l3 with
    | [u1, u2, u3], _, [m1, m2, m3], _, [w1, w2, w3, w4], _ => exact ⟨_, _, _, _, _, _, rfl, rfl, _, _, _, _, _, _, rfl, rfl, _, _, _, _, _, _, rfl, rfl, rfl⟩
theorem kb_Node6 (T : Txt K mg) : ∃ mv, KBn K T.fd_Node_init psN 3 ["state", "lead", "width", "look", "alternative", "nodes"] (fun us ws => us ++ ws ++ mv) (fun vs zs => vs ++ zs ++ [.int 0]) :=
  T.FD_Node_init.kbinds0 3 ["state", "lead", "width", "look", "alternative", "nodes"] [("popped", .int 0)] (fun a b c => a ++ c ++ b) (List.cons_ne_nil _ _) (fun _ h => by rw [List.mem_singleton.mp h]; exact List.mem_cons_of_mem _ (List.mem_cons_of_mem _ List.mem_cons_self)) (fun r1 r2 r3 => (r1.append r3).append r2) fun D doc pm an cdv ct us mv ws l1 l2 l3 => by
    match us, l1, mv, l2, ws, l3 with
    | [u1, u2, u3], _, [m1], _, [w1, w2, w3, w4, w5, w6], _ => exact ⟨_, _, _, _, _, _, rfl, rfl, rfl⟩
theorem kb_Node7 (T : Txt K mg) : ∃ mv, KBn K T.fd_Node_init psN 3 ["state", "lead", "width", "look", "alternative", "nodes", "popped"] (fun us ws => us ++ ws ++ mv) (fun vs zs => vs ++ zs ++ []) :=
  T.FD_Node_init.kbinds0 3 ["state", "lead", "width", "look", "alternative", "nodes", "popped"] [] (fun a b c => a ++ c ++ b) (List.cons_ne_nil _ _) (fun _ h => absurd h List.not_mem_nil) (fun r1 r2 r3 => (r1.append r3).append r2) fun D doc pm an cdv ct us mv ws l1 l2 l3 => by
    match us, l1, mv, l2, ws, l3 with
    | [u1, u2, u3], _, [], _, [w1, w2, w3, w4, w5, w6, w7], _ => exact rfl

/-! ### the reel -/
def spReel (K : PySem.W.Frag) : Sp := fun vs H Q _ => ∃ (a : Addr) (ns : List Int), vs = [.ref a] ∧ SqL K H a (ns.map V.int) ∧
  ∀ H' p, Same H H' → H p = none → ReelAt H' p → Q (.ref p) H'
def spDraw : Sp := fun vs H Q _ => ∃ (r : Addr) (n : Int), vs = [.ref r, .int n] ∧ ReelAt H r ∧ 0 < n ∧
  ∀ (v : Int) H', 0 ≤ v → v < n → But r H H' → ReelAt H' r → Q (.int v) H'
theorem ok_draw (T : Txt K mg) : FnOk P w K mg base CX0 1 T.a_law_draw T.fd_law_draw ["reel", "size"] spDraw := by
  refine T.F_law_draw.ok sc_law_draw (fun vs H Q E h => ?_) (fun cdv A outer s H vs Q E hr h => ?_)
  · obtain ⟨r, n, rfl, _⟩ := h
    rfl
  · obtain ⟨r, n, rfl, ⟨z, c, hr0, hc, hc2⟩, hn, q⟩ := h
    refine ⟨_, (pss_cons (ps_set (i := 2) sc_law_draw.nd rfl (.inl rfl) (pe_op op_sub (pe_callB call_len_seq (by rfl) T.m_len PySem.boot_len (pa_cons (pv 0) pa_nil)) pe_int))
      (pss_cons (ps_set (i := 3) sc_law_draw.nd rfl (.inl rfl) (pe_ix ix_list (pv 0) pe_int (fun _ _ => rfl)))
      (pss_cons (ps_asg (pe_op op_add (pv 3) pe_int) (pg_sub (pv 0) pe_int set_list))
      (pss_one (ps_ret (pe_op op_modN (pe_callTy call_int1 (by rfl) T.m_int (by decide +kernel) (pa_cons (pe_op op_add (pe_ix ix_list (pv 0) (pe_op op_add pe_int (pe_op op_modN (pe_callTy call_int1 (by rfl) T.m_int (by decide +kernel) (pa_cons (pv 3) pa_nil)) (pv 2))) (fun _ _ => rfl)) (pe_op op_mul (pe_op op_fdivN (pv 3) (pv 2)) pe_int)) pa_nil)) (pv 1))))))), ?_⟩
    have hl : (V.int z :: c.map V.int).length = c.length + 1 := by rw [List.length_cons, List.length_map]
    -- count = len(reel) - 1
    refine ⟨.ref r, rfl, r, _, rfl, .inl (SqL.of hr0), _, _, rfl, rfl, ?_⟩
    -- at = reel[0]
    refine ⟨.ref r, rfl, r, _, 0, .int z, rfl, rfl, SqL.of hr0, atI_nat (j := 0) rfl, ?_⟩
    -- reel[0] = at + 1
    refine ⟨_, rfl, z, 1, rfl, rfl, .ref r, rfl, r, _, 0, 0, rfl, rfl, hr0, by rw [hl]; unfold ixN; rw [if_pos (by omega), if_pos (by omega)]; rfl, ?_⟩
    have e1 : (V.int z :: c.map V.int).set 0 (.int (z + 1)) = .int (z + 1) :: c.map V.int := rfl
    rw [e1]
    have hc0 : (0 : Int) < ((V.int z :: c.map V.int).length : Int) - 1 := by rw [hl]; omega
    have fm := fmod_range z hc0
    have hat : 0 ≤ 1 + z.fmod (((V.int z :: c.map V.int).length : Int) - 1) := by omega
    have hat2 : (1 + z.fmod (((V.int z :: c.map V.int).length : Int) - 1)).toNat < (V.int (z + 1) :: c.map V.int).length := by
      have e2 : (V.int (z + 1) :: c.map V.int).length = c.length + 1 := by rw [List.length_cons, List.length_map]
      rw [hl] at fm ⊢
      rw [e2]
      omega
    obtain ⟨y, hy⟩ : ∃ y, atI (V.int (z + 1) :: c.map V.int) (1 + z.fmod (((V.int z :: c.map V.int).length : Int) - 1)) = some (.int y) := by
      have e := atI_lt hat hat2
      have e2 : (V.int (z + 1) :: c.map V.int) = ((z + 1) :: c).map V.int := rfl
      refine ⟨((z + 1) :: c)[(1 + z.fmod (((V.int z :: c.map V.int).length : Int) - 1)).toNat]'(by rw [e2, List.length_map] at hat2; exact hat2), ?_⟩
      rw [e]
      congr 1
      simp only [e2, List.getElem_map]
    -- return int(reel[1 + int(at) % count] + at // count * 389) % size
    refine ⟨.ref r, rfl, _, rfl, .inl ⟨z, rfl, ?_⟩⟩
    refine ⟨_, rfl, z, _, rfl, rfl, by omega, 1, _, rfl, rfl, r, _, _, .int y, rfl, rfl, SqL.of upd_same, hy, ?_⟩
    refine ⟨_, rfl, _, rfl, z, _, rfl, rfl, ⟨by omega, by rw [hl]; omega⟩, _, 389, rfl, rfl, .inr ⟨by decide, by decide⟩, _, _, rfl, rfl, .inl ⟨_, rfl, ?_⟩⟩
    refine ⟨_, rfl, _, n, rfl, rfl, by omega, ?_⟩
    exact q _ _ (fmod_range _ hn).1 (fmod_range _ hn).2 But.set ⟨z + 1, c, upd_same, hc, hc2⟩
/-- the words in which a turn of the reel's making is told -/
def Making (a o : Addr) (H : Hp) (n : Nat) (σ : L2.St) (H' : Hp) : Prop := ∃ y2 y3 y4 y5 y6, σ = [some (.ref a), some (.ref o), y2, y3, y4, y5, y6] ∧ Same H H' ∧ ∃ c : List Int, H' o = some (.lst (.int 0 :: c.map V.int)) ∧ c.length ≤ n
theorem ints_snoc (c : List Int) (x : Int) : (V.int 0 :: c.map V.int) ++ [V.int x] = .int 0 :: (c ++ [x]).map V.int := by
  rw [List.map_append]
  rfl
theorem same_mut {H H' : Hp} {p : Addr} {o : HO} (e : Same H H') (h : H p = none) : Same H (upd H' p o) := fun b x q => by
  rw [upd_ne (ne_of_none q h)]
  exact e b x q
theorem ok_reel (T : Txt K mg) : FnOk P w K mg base CX0 1 T.a_law_reel T.fd_law_reel ["script"] (spReel K) := by
  refine T.F_law_reel.ok sc_law_reel (fun vs H Q E h => ?_) (fun cdv A outer s H vs Q E hr h => ?_)
  · obtain ⟨a, ns, rfl, _⟩ := h
    rfl
  · obtain ⟨a, ns, rfl, hS, q⟩ := h
    refine ⟨_, (pss_cons (ps_set (i := 1) sc_law_reel.nd rfl (.inl rfl) (pe_lst (pa_cons pe_int pa_nil)))
      (pss_cons (ps_for PassesOwn.never rfl (pi_range1 (by rfl) T.m_range (pa_cons (pe_callB (call_min2 rfl) (by rfl) T.m_min (by decide +kernel) (pa_cons (pe_callB call_len_seq (by rfl) T.m_len PySem.boot_len (pa_cons (pv 0) pa_nil)) (pa_cons pe_int pa_nil))) pa_nil)) (pg_name (i := 2) sc_law_reel.nd rfl (.inl rfl)) (pss_cons (ps_set (i := 3) sc_law_reel.nd rfl (.inl rfl) (pe_ix ix_list (pv 0) (pv 2) (fun _ _ => rfl)))
      (pss_one (ps_if (pt_cmpR op_ge (pe_callB call_abs (by rfl) T.m_abs (by decide +kernel) (pa_cons (pv 3) pa_nil)) (pe_op op_pow pe_int pe_int) (nomark _)) (pss_cons (ps_set (i := 4) sc_law_reel.nd rfl (.inl rfl) (pe_callB call_abs (by rfl) T.m_abs (by decide +kernel) (pa_cons (pv 3) pa_nil)))
      (pss_one (ps_for PassesOwn.never rfl (pi_range1 (by rfl) T.m_range (pa_cons pe_int pa_nil)) (pg_name (i := 5) sc_law_reel.nd rfl (.inl rfl)) (pss_one (ps_if (pt_cmpR op_gt (pv 4) pe_int (nomark _)) (pss_cons (ps_expr (pe_bm PySem.F.plainAttrs_list PySem.F.slot_list_append PySem.F.type_list_append mt_append (pv 1) (pa_cons (pe_op op_mod (pe_callTy call_int1 (by rfl) T.m_int (by decide +kernel) (pa_cons (pv 4) pa_nil)) pe_int) pa_nil)))
      (pss_one (ps_set (i := 4) sc_law_reel.nd rfl (.inl rfl) (pe_op op_fdiv (pv 4) pe_int)))) pss_nil))))) (pss_cons (ps_set (i := 6) sc_law_reel.nd rfl (.inl rfl) (pe_op op_mod (pe_callTy call_int1 (by rfl) T.m_int (by decide +kernel) (pa_cons (pe_op op_add (pe_op op_add (pe_op op_mul (pv 3) pe_int) (pe_op op_mul (pv 2) pe_int)) pe_int) pa_nil)) pe_int))
      (pss_one (ps_for PassesOwn.never rfl (pi_range1 (by rfl) T.m_range (pa_cons pe_int pa_nil)) (pg_name (i := 5) sc_law_reel.nd rfl (.inl rfl)) (pss_cons (ps_set (i := 6) sc_law_reel.nd rfl (.inl rfl) (pe_op op_mod (pe_callTy call_int1 (by rfl) T.m_int (by decide +kernel) (pa_cons (pe_op op_add (pe_op op_add (pe_op op_mul (pv 6) pe_int) (pe_op op_mul (pv 5) pe_int)) pe_int) pa_nil)) pe_int))
      (pss_one (ps_expr (pe_bm PySem.F.plainAttrs_list PySem.F.slot_list_append PySem.F.type_list_append mt_append (pv 1) (pa_cons (pe_op op_mod (pe_callTy call_int1 (by rfl) T.m_int (by decide +kernel) (pa_cons (pe_op op_fdiv (pv 6) pe_int) pa_nil)) pe_int) pa_nil))))))))))))
      (pss_cons (ps_set (i := 6) sc_law_reel.nd rfl (.inl rfl) (pe_op op_mod (pe_callTy call_int1 (by rfl) T.m_int (by decide +kernel) (pa_cons (pe_op op_add (pe_op op_add (pe_op op_mul (pe_callB (cr_sum rfl) (by rfl) T.m_sum (by decide +kernel) (pa_cons (pv 1) pa_nil)) pe_int) (pe_op op_mul (pe_callB call_len_seq (by rfl) T.m_len PySem.boot_len (pa_cons (pv 1) pa_nil)) pe_int)) pe_int) pa_nil)) pe_int))
      (pss_cons (ps_for PassesOwn.never rfl (pi_range1 (by rfl) T.m_range (pa_cons pe_int pa_nil)) (pg_name (i := 5) sc_law_reel.nd rfl (.inl rfl)) (pss_cons (ps_set (i := 6) sc_law_reel.nd rfl (.inl rfl) (pe_op op_mod (pe_callTy call_int1 (by rfl) T.m_int (by decide +kernel) (pa_cons (pe_op op_add (pe_op op_add (pe_op op_mul (pv 6) pe_int) (pe_op op_mul (pv 5) pe_int)) pe_int) pa_nil)) pe_int))
      (pss_one (ps_expr (pe_bm PySem.F.plainAttrs_list PySem.F.slot_list_append PySem.F.type_list_append mt_append (pv 1) (pa_cons (pe_op op_mod (pe_callTy call_int1 (by rfl) T.m_int (by decide +kernel) (pa_cons (pe_op op_fdiv (pv 6) pe_int) pa_nil)) pe_int) pa_nil))))))
      (pss_one (ps_ret (pv 1))))))), ?_⟩
    -- reel = [0]
    refine ⟨by show 1 ≤ sizeLine; decide, fun o no => ?_⟩
    have s1 : Same H (upd H o (.lst [.int 0])) := same_upd no
    -- for k in range(min(len(script), 63))
    refine ⟨.ref a, rfl, a, _, rfl, .inl (s1.seq hS), _, _, rfl, _, rfl, by split <;> omega, by split <;> omega, ?_⟩
    refine for_range (lo := 0) (fun i σ H' => Making a o H (60 * i) σ H' ∧ i ≤ 63) ⟨⟨none, none, none, none, none, rfl, s1, [], upd_same, Nat.zero_le _⟩, Nat.zero_le _⟩ ?_ ?_
    · rintro i σ H3 hi ⟨⟨y2, y3, y4, y5, y6, rfl, s3, c, ho, hc⟩, hi63⟩
      have hi' : i < ns.length ∧ i < 63 := by
        rw [List.length_map] at hi
        split at hi <;> omega
      obtain ⟨x, hx⟩ : ∃ x, ns[i]? = some x := ⟨_, List.getElem?_eq_getElem hi'.1⟩
      -- cell = script[k]
      refine ⟨.ref a, rfl, _, rfl, a, _, _, .int x, rfl, rfl, s3.seq hS, at_of (j := i) (by omega) (by rw [List.getElem?_map, hx]; rfl), ?_⟩
      -- if abs(cell) >= 10 ** 18
      refine ⟨_, rfl, x, rfl, 10, 18, rfl, rfl, ⟨by decide, by decide, by decide⟩, _, _, rfl, rfl, _, rfl, ite2 (fun e => ?_) (fun e => ?_)⟩
      · -- rest = abs(cell); for turn in range(60)
        refine ⟨_, rfl, x, rfl, 60, rfl, by decide, by decide, ?_⟩
        refine for_range (lo := 0) (n := 60) (fun j σ H' => (∃ z : Int, σ[4]? = some (some (.int z))) ∧ Making a o H (60 * i + j) σ H') ⟨⟨_, rfl⟩, _, _, _, _, _, rfl, s3, c, ho, hc⟩ ?_ ?_
        · rintro j σ H4 hj ⟨⟨z, hz⟩, y2, y3, y4, y5, y6, rfl, s4, c, ho, hc⟩
          have hz' : y4 = some (.int z) := Option.some.inj hz
          subst hz'
          refine ⟨_, rfl, z, 0, rfl, rfl, _, rfl, ite2 (fun e => ?_) (fun e => ?_)⟩
          · refine ⟨.ref o, rfl, .inl ⟨rfl, _, SqL.of ho⟩, _, rfl, .inl ⟨z, rfl, z, 1009, rfl, rfl, (by show (0 : Int) < 1009; decide), o, _, _, rfl, rfl, ho, ?_, ?_⟩⟩
            · rw [List.length_cons, List.length_map]
              exact sz2 (by omega)
            · refine ⟨_, rfl, z, 1009, rfl, rfl, ⟨by decide, by decide⟩, ⟨_, rfl⟩, _, _, _, _, _, rfl, same_mut s4 no, c ++ [z % 1009], ?_, ?_⟩
              · rw [upd_same, ints_snoc]
              · rw [List.length_append]
                show c.length + 1 ≤ _
                omega
          · exact ⟨⟨z, rfl⟩, _, _, _, _, _, rfl, s4, c, ho, by omega⟩
        · rintro σ H4 ⟨_, y2, y3, y4, y5, y6, rfl, s4, c, ho, hc⟩
          exact ⟨⟨_, _, _, _, _, rfl, s4, c, ho, by omega⟩, by omega⟩
      · -- mixed = ..; for turn in range(4)
        refine ⟨_, rfl, x, 48271, rfl, rfl, .inr ⟨by decide, by decide⟩, _, rfl, _, 69621, rfl, rfl, .inr ⟨by decide, by decide⟩, _, _, rfl, rfl, _, 4099, rfl, rfl, .inl ⟨_, rfl, _, _, rfl, rfl, (by show (0 : Int) < 2147483647; decide), ?_⟩⟩
        refine ⟨4, rfl, by decide, by decide, ?_⟩
        refine for_range (lo := 0) (n := 4) (fun j σ H' => (∃ z : Int, σ[6]? = some (some (.int z))) ∧ Making a o H (60 * i + j) σ H') ⟨⟨_, rfl⟩, _, _, _, _, _, rfl, s3, c, ho, hc⟩ ?_ ?_
        · rintro j σ H4 hj ⟨⟨z, hz⟩, y2, y3, y4, y5, y6, rfl, s4, c, ho, hc⟩
          have hz' : y6 = some (.int z) := Option.some.inj hz
          subst hz'
          refine ⟨_, rfl, z, 16807, rfl, rfl, .inr ⟨by decide, by decide⟩, _, rfl, _, 7919, rfl, rfl, .inr ⟨by decide, by decide⟩, _, _, rfl, rfl, _, 101, rfl, rfl, .inl ⟨_, rfl, _, _, rfl, rfl, (by show (0 : Int) < 2147483629; decide), ?_⟩⟩
          refine ⟨.ref o, rfl, .inl ⟨rfl, _, SqL.of ho⟩, _, rfl, _, 2111, rfl, rfl, ⟨by decide, by decide⟩, .inl ⟨_, rfl, _, 1009, rfl, rfl, (by show (0 : Int) < 1009; decide), o, _, _, rfl, rfl, ho, ?_, ?_⟩⟩
          · rw [List.length_cons, List.length_map]
            exact sz2 (by omega)
          · refine ⟨⟨_, rfl⟩, _, _, _, _, _, rfl, same_mut s4 no, c ++ [((z * 16807 + (0 + (j : Int)) * 7919 + 101) % 2147483629 / 2111) % 1009], ?_, ?_⟩
            · rw [upd_same]
              exact congrArg (fun l => some (HO.lst l)) (ints_snoc c _)
            · rw [List.length_append]
              show c.length + 1 ≤ _
              omega
        · rintro σ H4 ⟨_, y2, y3, y4, y5, y6, rfl, s4, c, ho, hc⟩
          exact ⟨⟨_, _, _, _, _, rfl, s4, c, ho, by omega⟩, by omega⟩
    · rintro σ H3 ⟨⟨y2, y3, y4, y5, y6, rfl, s3, c, ho, hc⟩, hi63⟩
      have e0 : (V.int 0 :: c.map V.int) = ((0 : Int) :: c).map V.int := rfl
      have ho' : SqL K H3 o (((0 : Int) :: c).map V.int) := SqL.of ho
      refine ⟨.ref o, rfl, o, (0 : Int) :: c, rfl, ho', _, 69621, rfl, rfl, .inr ⟨by decide, by decide⟩, .ref o, rfl, o, _, rfl, .inl ho', _, 48271, rfl, rfl, .inr ⟨by decide, by decide⟩, _, _, rfl, rfl, _, 977, rfl, rfl, .inl ⟨_, rfl, _, _, rfl, rfl, (by show (0 : Int) < 2147483647; decide), ?_⟩⟩
      refine ⟨40, rfl, by decide, by decide, ?_⟩
      refine for_range (lo := 0) (n := 40) (fun j σ H' => (∃ z : Int, σ[6]? = some (some (.int z))) ∧ ∃ y2 y3 y4 y5 y6, σ = [some (.ref a), some (.ref o), y2, y3, y4, y5, y6] ∧ Same H H' ∧ ∃ c : List Int, H' o = some (.lst (.int 0 :: c.map V.int)) ∧ j ≤ c.length ∧ c.length ≤ 4000 + j) ⟨⟨_, rfl⟩, _, _, _, _, _, rfl, s3, c, ho, Nat.zero_le _, ?_⟩ ?_ ?_
      · have : (min' : Nat) → min' ≤ 63 → c.length ≤ 60 * min' → c.length ≤ 4000 + 0 := fun m h1 h2 => by omega
        exact this _ hi63 hc
      · rintro j σ H4 hj ⟨⟨z, hz⟩, y2, y3, y4, y5, y6, rfl, s4, c, ho, hc1, hc⟩
        have hz' : y6 = some (.int z) := Option.some.inj hz
        subst hz'
        refine ⟨_, rfl, z, 16807, rfl, rfl, .inr ⟨by decide, by decide⟩, _, rfl, _, 7919, rfl, rfl, .inr ⟨by decide, by decide⟩, _, _, rfl, rfl, _, 101, rfl, rfl, .inl ⟨_, rfl, _, _, rfl, rfl, (by show (0 : Int) < 2147483629; decide), ?_⟩⟩
        refine ⟨.ref o, rfl, .inl ⟨rfl, _, SqL.of ho⟩, _, rfl, _, 2111, rfl, rfl, ⟨by decide, by decide⟩, .inl ⟨_, rfl, _, 1009, rfl, rfl, (by show (0 : Int) < 1009; decide), o, _, _, rfl, rfl, ho, ?_, ?_⟩⟩
        · rw [List.length_cons, List.length_map]
          exact sz2 (by omega)
        · refine ⟨⟨_, rfl⟩, _, _, _, _, _, rfl, same_mut s4 no, c ++ [((z * 16807 + (0 + (j : Int)) * 7919 + 101) % 2147483629 / 2111) % 1009], ?_, ?_, ?_⟩
          · rw [upd_same]
            exact congrArg (fun l => some (HO.lst l)) (ints_snoc c _)
          · rw [List.length_append]
            show _ ≤ c.length + 1
            omega
          · rw [List.length_append]
            show c.length + 1 ≤ _
            omega
      · rintro σ H4 ⟨_, y2, y3, y4, y5, y6, rfl, s4, c, ho, hc1, hc⟩
        refine ⟨.ref o, rfl, q H4 o s4 no ⟨0, c, ho, by omega, by omega⟩⟩

/-! ### a drawn item, a drawn word -/
theorem But.seqT {r : Addr} {K : PySem.W.Frag} {H H' : Hp} {a : Addr} {xs : List V} (e : But r H H') (n : a ≠ r) (h : SqT K H a xs) : SqT K H' a xs := by
  rcases h with (h | ⟨o, h⟩) | h
  · exact .inl (.inl (e _ _ n h))
  · exact .inl (.inr ⟨o, e _ _ n h⟩)
  · exact .inr h
def spPick (K : PySem.W.Frag) : Sp := fun vs H Q _ => ∃ (r : Addr) (row : V), vs = [.ref r, row] ∧ ReelAt H r ∧
  ((∃ z, row = .str z ∧ 0 < (cs z).length ∧ (cs z).length ≤ 100000 ∧ ∀ c H', c ∈ cs z → But r H H' → ReelAt H' r → Q (.str (sg c)) H') ∨
   (∃ p xs, row = .ref p ∧ p ≠ r ∧ SqL K H p xs ∧ 0 < xs.length ∧ ∀ v H', v ∈ xs → But r H H' → ReelAt H' r → Q v H'))
theorem ok_pick (T : Txt K mg) : FnOk P w K mg base CX0 2 T.a_law_pick T.fd_law_pick ["reel", "row"] (spPick K) := by
  have G_law_draw : FnOk P w K mg base CX0 1 T.a_law_draw T.fd_law_draw ["reel", "size"] spDraw := ok_draw T
  refine T.F_law_pick.ok sc_law_pick (fun vs H Q E h => ?_) (fun cdv A outer s H vs Q E hr h => ?_)
  · obtain ⟨r, n, rfl, _⟩ := h
    rfl
  · have hr_law_draw : Room 1 _ := hr
    obtain ⟨r, row, rfl, hr0, ⟨z, rfl, hz, hz2, q⟩ | ⟨p, xs, rfl, hp, hS, hx, q⟩⟩ := h
    · refine ⟨_, (pss_one (ps_ret (pe_ix ix_seq (pv 1) (pe_call G_law_draw hr_law_draw (by rfl) T.g_law_draw T.F_law_draw.kp T.b_law_draw .nil pass0 (pa_cons (pv 0) (pa_cons (pe_callB call_len (by rfl) T.m_len PySem.boot_len (pa_cons (pv 1) pa_nil)) pa_nil))) (fun _ _ => rfl)))), ?_⟩
      have hl := len_cs z
      refine ⟨_, rfl, _, rfl, _, rfl, _, z.length, rfl, ⟨sz1 (by omega), rfl⟩, r, _, rfl, hr0, by omega, fun v H' h0 h1 hb hR => ?_⟩
      have hv : v.toNat < (cs z).length := by omega
      exact .inr (.inr ⟨z, v, (cs z)[v.toNat], rfl, rfl, sz1 (by omega), at_of' h0 (List.getElem?_eq_getElem hv), q _ _ (List.getElem_mem hv) hb hR⟩)
    · refine ⟨_, (pss_one (ps_ret (pe_ix ix_seq (pv 1) (pe_call G_law_draw hr_law_draw (by rfl) T.g_law_draw T.F_law_draw.kp T.b_law_draw .nil pass0 (pa_cons (pv 0) (pa_cons (pe_callB call_len (by rfl) T.m_len PySem.boot_len (pa_cons (pv 1) pa_nil)) pa_nil))) (fun _ _ => rfl)))), ?_⟩
      refine ⟨_, rfl, _, rfl, _, rfl, _, xs.length, rfl, .inl ⟨xs, hS, rfl⟩, r, _, rfl, hr0, by omega, fun v H' h0 h1 hb hR => ?_⟩
      have hv : v.toNat < xs.length := by omega
      exact .inl ⟨p, xs, v, xs[v.toNat], rfl, rfl, hb.seq hp hS, at_of (j := v.toNat) (by omega) (List.getElem?_eq_getElem hv), q _ _ (List.getElem_mem hv) hb hR⟩

/-! ### walks over texts -/
theorem for_strS {x : Str} {g : L2.TG} {tb : L2.TS} {D : L2.Ends} {σ : L2.St} {H : Hp} (Pv : Nat → L2.St → Hp → Prop) (h0 : Pv 0 σ H)
    (hs : ∀ i c σ H, x.cps[i]? = some c → Pv i σ H → g (.str ⟨#[c]⟩) σ H fun σ2 H2 => tb { D with nx := Pv (i + 1), ct := Pv (i + 1), bk := D.nx } σ2 H2) (hd : ∀ σ H, Pv x.cps.size σ H → D.nx σ H) :
    ∃ Wk : Nat → Nat → L2.St → Hp → Prop, (∃ mm, Wk 0 mm σ H) ∧ ∀ i mm σ H, Wk i mm σ H →
      ((Its x).stop i H ∧ D.nx σ H) ∨ ((Its x).go i H ∧ ∃ N : L2.St → Hp → Prop, (∀ σ' H', N σ' H' → ∃ mm', mm' < mm ∧ Wk (i + 1) mm' σ' H') ∧ ∀ y H', (Its x).yld i H y H' → g y σ H' fun σ2 H2 => tb { D with nx := N, ct := N, bk := D.nx } σ2 H2) := by
  refine ⟨fun i mm σ H => mm = x.cps.size - i ∧ i ≤ x.cps.size ∧ Pv i σ H, ⟨x.cps.size, by simp, Nat.zero_le _, h0⟩, ?_⟩
  rintro i mm σ H ⟨rfl, hi, pz⟩
  by_cases hlt : i < x.cps.size
  · refine .inr ⟨hlt, Pv (i + 1), fun σ' H' pz' => ⟨x.cps.size - (i + 1), by omega, rfl, hlt, pz'⟩, fun y H' hy => ?_⟩
    obtain ⟨rfl, c, hc, rfl⟩ := hy
    exact hs i c σ H' hc pz
  · have ee : i = x.cps.size := by omega
    subst ee
    exact .inl ⟨Nat.le_refl _, hd σ H pz⟩
theorem lc_strS {x : Str} {g : L2.TG} {tt : L2.TT} {te : L2.TE} {vs : List Nat} {σ : L2.St} {H1 : Hp} {D : Addr} {Qd : Hp → Prop} (Pv : Nat → Hp → Prop) (h0 : Pv 0 (upd H1 D (.lst [])))
    (hs : ∀ i c H, x.cps[i]? = some c → Pv i H → g (.str ⟨#[c]⟩) (wipe σ vs) H fun σ2 H2 => wipe σ2 vs = wipe σ vs ∧ tt σ2 H2 fun b H3 =>
      if b = true then te σ2 H3 fun y H4 => ∃ acc, H4 D = some (.lst acc) ∧ acc.length < sizeLine ∧ Pv (i + 1) (upd H4 D (.lst (acc ++ [y]))) else Pv (i + 1) H3) (hd : ∀ H, Pv x.cps.size H → Qd H) :
    ∃ Wk : Nat → Nat → Hp → Prop, (∃ mm, Wk 0 mm (upd H1 D (.lst []))) ∧ ∀ i mm H, Wk i mm H →
      ((Its x).stop i H ∧ Qd H) ∨ ((Its x).go i H ∧ ∃ Nx : Hp → Prop, (∀ H', Nx H' → ∃ mm', mm' < mm ∧ Wk (i + 1) mm' H') ∧ ∀ y H', (Its x).yld i H y H' → g y (wipe σ vs) H' fun σ2 H2 => wipe σ2 vs = wipe σ vs ∧ tt σ2 H2 fun b H3 =>
        if b = true then te σ2 H3 fun y H4 => ∃ acc, H4 D = some (.lst acc) ∧ acc.length < sizeLine ∧ Nx (upd H4 D (.lst (acc ++ [y]))) else Nx H3) := by
  refine ⟨fun i mm H => mm = x.cps.size - i ∧ i ≤ x.cps.size ∧ Pv i H, ⟨x.cps.size, by simp, Nat.zero_le _, h0⟩, ?_⟩
  rintro i mm H ⟨rfl, hi, pz⟩
  by_cases hlt : i < x.cps.size
  · refine .inr ⟨hlt, Pv (i + 1), fun H' pz' => ⟨x.cps.size - (i + 1), by omega, rfl, hlt, pz'⟩, fun y H' hy => ?_⟩
    obtain ⟨rfl, c, hc, rfl⟩ := hy
    exact hs i c H' hc pz
  · have ee : i = x.cps.size := by omega
    subst ee
    exact .inl ⟨Nat.le_refl _, hd H pz⟩
/-- a walk over enumerate(xs) -/
theorem for_enumS {K : PySem.W.Frag} {a : Addr} {xs : List V} {g : L2.TG} {tb : L2.TS} {D : L2.Ends} {σ : L2.St} {H : Hp} (Pv : Nat → L2.St → Hp → Prop) (h0 : Pv 0 σ H) (hl : ∀ i σ H, i ≤ xs.length → Pv i σ H → SqL K H a xs)
    (hs : ∀ i x t σ H, xs[i]? = some x → Pv i σ H → H t = none → g (.ref t) σ (upd H t (.tup [.int (i : Nat), x])) fun σ2 H2 => tb { D with nx := Pv (i + 1), ct := Pv (i + 1), bk := D.nx } σ2 H2) (hd : ∀ σ H, Pv xs.length σ H → D.nx σ H) :
    ∃ Wk : Nat → Nat → L2.St → Hp → Prop, (∃ mm, Wk 0 mm σ H) ∧ ∀ i mm σ H, Wk i mm σ H →
      ((Ite K a).stop i H ∧ D.nx σ H) ∨ ((Ite K a).go i H ∧ ∃ N : L2.St → Hp → Prop, (∀ σ' H', N σ' H' → ∃ mm', mm' < mm ∧ Wk (i + 1) mm' σ' H') ∧ ∀ y H', (Ite K a).yld i H y H' → g y σ H' fun σ2 H2 => tb { D with nx := N, ct := N, bk := D.nx } σ2 H2) := by
  refine ⟨fun i mm σ H => mm = xs.length - i ∧ i ≤ xs.length ∧ Pv i σ H, ⟨xs.length, by simp, Nat.zero_le _, h0⟩, ?_⟩
  rintro i mm σ H ⟨rfl, hi, pz⟩
  have q := hl i σ H hi pz
  by_cases hlt : i < xs.length
  · have hx : xs[i]? = some (xs[i]) := List.getElem?_eq_getElem hlt
    refine .inr ⟨⟨xs, xs[i], q, hx⟩, Pv (i + 1), fun σ' H' pz' => ⟨xs.length - (i + 1), by omega, rfl, hlt, pz'⟩, fun y H' hy => ?_⟩
    obtain ⟨t, x, rfl, ht, rfl, hall⟩ := hy
    exact hs i x t σ H (hall xs q) pz ht
  · have ee : i = xs.length := by omega
    subst ee
    exact .inl ⟨⟨xs, q, Nat.le_refl _⟩, hd σ H pz⟩

/-! ### tuples, pairs -/
def Tups (H H' : Hp) : Prop := ∀ b xs, H b = some (.tup xs) → H' b = some (.tup xs)
theorem Tups.refl (H : Hp) : Tups H H := fun _ _ h => h
theorem Tups.trans {H H1 H2 : Hp} (a : Tups H H1) (b : Tups H1 H2) : Tups H H2 := fun c xs h => b c xs (a c xs h)
theorem But.tups {r : Addr} {H H' : Hp} (b : But r H H') (h : ReelAt H r) : Tups H H' := fun c xs e => b c _ (fun z => by
  obtain ⟨z1, c1, e1, _⟩ := h
  rw [z, e1] at e
  cases e) e
theorem Tups.new {H : Hp} {p : Addr} {o : HO} (h : H p = none) : Tups H (upd H p o) := fun c xs e => by rw [upd_ne (ne_of_none e h)]; exact e
theorem Tups.mut {H : Hp} {p : Addr} {xs : List V} {o : HO} (h : H p = some (.lst xs)) : Tups H (upd H p o) := fun c ys e => by
  rw [upd_ne (ne_of e h (fun z => by cases z))]
  exact e
theorem paired_len {α β : Type} {F : α → β → Prop} : ∀ {xs : List α} {ys : List β}, Paired F xs ys → xs.length = ys.length
  | _, _, .nil => rfl
  | _, _, .cons _ t => congrArg (· + 1) (paired_len t)
theorem paired_app {α β : Type} {F : α → β → Prop} : ∀ {xs xs' : List α} {ys ys' : List β}, Paired F xs ys → Paired F xs' ys' → Paired F (xs ++ xs') (ys ++ ys')
  | _, _, _, _, .nil, h => h
  | _, _, _, _, .cons r t, h => .cons r (paired_app t h)
theorem paired_get {α β : Type} {F : α → β → Prop} : ∀ {xs : List α} {ys : List β} {i : Nat} {y : β}, Paired F xs ys → ys[i]? = some y → ∃ x, xs[i]? = some x ∧ F x y
  | _, _, _, _, .nil, h => by simp at h
  | _, _, 0, y, .cons r t, h => by
    have e := Option.some.inj h
    subst e
    exact ⟨_, rfl, r⟩
  | _, _, i + 1, y, .cons r t, h => by
    obtain ⟨x, h1, h2⟩ := paired_get (i := i) (y := y) t (by simpa using h)
    exact ⟨x, by simpa using h1, h2⟩
theorem paired_take {α β : Type} {F : α → β → Prop} : ∀ {xs : List α} {ys : List β} (n : Nat), Paired F xs ys → Paired F (xs.take n) (ys.take n)
  | _, _, 0, _ => .nil
  | _, _, _ + 1, .nil => .nil
  | _, _, n + 1, .cons r t => .cons r (paired_take n t)
theorem paired_drop {α β : Type} {F : α → β → Prop} : ∀ {xs : List α} {ys : List β} (n : Nat), Paired F xs ys → Paired F (xs.drop n) (ys.drop n)
  | _, _, 0, h => h
  | _, _, _ + 1, .nil => .nil
  | _, _, n + 1, .cons r t => paired_drop n t

/-! ### an if told once -/
theorem if_ev {tt : L2.TT} {a b : L2.TS} {D : L2.Ends} {σ : L2.St} {H : Hp} (R : Hp → Prop) (h : ∀ Qb : Bool → Hp → Prop, (∀ c H2, R H2 → Qb c H2) → tt σ H Qb) (ha : ∀ H2, R H2 → a D σ H2) (hb : ∀ H2, R H2 → b D σ H2) : tIfS tt a b D σ H := h _ (fun c H2 r => by
  cases c
  · exact iteF (hb H2 r)
  · exact iteT (ha H2 r))
theorem if_2 {tt : L2.TT} {a b : L2.TS} {D : L2.Ends} {σ : L2.St} {H : Hp} (R : Hp → Prop) (A : Prop) (h : ∀ Qb : Bool → Hp → Prop, (∀ c H2, R H2 → (c = true ↔ A) → Qb c H2) → tt σ H Qb) (ha : A → ∀ H2, R H2 → a D σ H2) (hb : ¬ A → ∀ H2, R H2 → b D σ H2) : tIfS tt a b D σ H := h _ (fun c H2 r i => by
  cases c
  · exact iteF (hb (fun z => absurd (i.mpr z) (by decide)) H2 r)
  · exact iteT (ha (i.mp rfl) H2 r))
theorem g_if {i : Nat} {x : V} {σ : L2.St} {H : Hp} {tt : L2.TT} {a b : L2.TS} {D : L2.Ends} {r : VK} {k c : L2.St → Hp → Prop} (h : tIfS tt a b D (σ.set i (some x)) H) : gName i x σ H (Ends.nx ⟨tIfS tt a b D, r, k, c⟩) := h
theorem g_seq {i : Nat} {x : V} {σ : L2.St} {H : Hp} {t u : L2.TS} {D : L2.Ends} {r : VK} {k c : L2.St → Hp → Prop} (h : tSeq t u D (σ.set i (some x)) H) : gName i x σ H (Ends.nx ⟨tSeq t u D, r, k, c⟩) := h
/-- if ..: a (and it ends here); the rest is told once -/
theorem sif {tt : L2.TT} {a c : L2.TS} {D : L2.Ends} {σ : L2.St} {H : Hp} (R : Hp → Prop) (A : Prop) (h : ∀ Qb : Bool → Hp → Prop, (∀ c H2, R H2 → (c = true ↔ A) → Qb c H2) → tt σ H Qb) (ha : A → ∀ H2, R H2 → a { D with nx := fun σ2 H2 => c D σ2 H2 } σ H2) (hb : ¬ A → ∀ H2, R H2 → c D σ H2) :
    tSeq (tIfS tt a tNext) c D σ H := if_2 (D := { D with nx := fun σ2 H2 => c D σ2 H2 }) R A h ha hb
theorem itF {c : Bool} {A B : Prop} (h : c = false) (b : B) : if c = true then A else B := by
  rw [h]
  exact iteF b

/-! ### slices -/
theorem cut_pre (z : Str) (a : Nat) : cs (cutS z none (some (a : Int))) = (cs z).take a := by
  show ((cs z).drop 0).take _ = _
  rw [HT.sIx_nat, HT.sIx_none, List.drop_zero, Nat.sub_zero, len_cs, ← List.take_eq_take_min]
theorem cut_suf (z : Str) (a : Nat) : cs (cutS z (some (a : Int)) none) = (cs z).drop a := by
  show ((cs z).drop _).take _ = _
  rw [HT.sIx_nat, HT.sIx_none, len_cs, List.take_of_length_le (by rw [List.length_drop]; exact Nat.le_refl _)]
  by_cases h : a ≤ (cs z).length
  · rw [Nat.min_eq_left h]
  · rw [Nat.min_eq_right (by omega), List.drop_eq_nil_of_le (Nat.le_refl _), List.drop_eq_nil_of_le (by omega)]
theorem cut_mid (z : Str) (a b : Nat) : cs (cutS z (some (a : Int)) (some (b : Int))) = ((cs z).take b).drop a := by
  show ((cs z).drop _).take _ = _
  rw [HT.sIx_nat, HT.sIx_nat, len_cs]
  by_cases h : a ≤ (cs z).length
  · rw [Nat.min_eq_left h, List.drop_take]
    by_cases h2 : b ≤ (cs z).length
    · rw [Nat.min_eq_left h2]
    · rw [Nat.min_eq_right (by omega), List.take_of_length_le (by rw [List.length_drop]; exact Nat.le_refl _), List.take_of_length_le (by rw [List.length_drop]; omega)]
  · rw [Nat.min_eq_right (show (cs z).length ≤ a by omega), List.drop_eq_nil_of_le (Nat.le_refl _), List.take_nil, List.drop_eq_nil_of_le (by rw [List.length_take]; omega)]

/-! ### trees, in plain Lean -/
structure Nd where
  kind : Str
  sym : Str
  st : Int
  lead : Int
  wid : Int
  look : Int
  alt : Int
  pop : Int
inductive Tr where
  | mk (p : Addr) (d : Nd) (ks : List Tr)
def Tr.at : Tr → Addr
  | .mk p _ _ => p
def Tr.d : Tr → Nd
  | .mk _ d _ => d
def Tr.ks : Tr → List Tr
  | .mk _ _ ks => ks
/-- a tree's rows, in their order -/
abbrev Rw := Int × Nd
mutual
def Tr.rows (l : Int) : Tr → List Rw
  | .mk _ d ks => (l, d) :: rowsL (l + 1) ks
def rowsL (l : Int) : List Tr → List Rw
  | [] => []
  | t :: ts => t.rows l ++ rowsL l ts
end
mutual
/-- a tree's nodes, in their order -/
def Tr.ats : Tr → List Addr
  | .mk p _ ks => p :: atsL ks
def atsL : List Tr → List Addr
  | [] => []
  | t :: ts => t.ats ++ atsL ts
end
/-- a row with its node -/
abbrev Ra := Int × Nd × Addr
mutual
def Tr.ras (l : Int) : Tr → List Ra
  | .mk p d ks => (l, d, p) :: rasL (l + 1) ks
def rasL (l : Int) : List Tr → List Ra
  | [] => []
  | t :: ts => t.ras l ++ rasL l ts
end
abbrev Lt := Int × Tr
def flatL (ps : List Lt) : List Ra := (ps.map fun p => p.2.ras p.1).flatten
/-- from the right: each row takes the trees in front that stand one level below it -/
def grow : List Ra → List Lt
  | [] => []
  | r :: rs => (r.1, .mk r.2.2 r.2.1 (((grow rs).takeWhile fun p => p.1 == r.1 + 1).map Prod.snd)) :: (grow rs).dropWhile fun p => p.1 == r.1 + 1
theorem rasL_same {l : Int} : ∀ ps : List Lt, (∀ p ∈ ps, p.1 = l) → rasL l (ps.map Prod.snd) = flatL ps
  | [], _ => rfl
  | p :: ps, h => by
    have ih := rasL_same ps fun q hq => h q (List.mem_cons_of_mem _ hq)
    show p.2.ras l ++ rasL l (ps.map Prod.snd) = p.2.ras p.1 ++ flatL ps
    rw [ih, h p List.mem_cons_self]
theorem mem_takeW {α : Type} {f : α → Bool} {x : α} : ∀ {l : List α}, x ∈ l.takeWhile f → f x = true ∧ x ∈ l
  | [], h => absurd h List.not_mem_nil
  | y :: l, h => by
    rw [List.takeWhile_cons] at h
    split at h
    · rename_i c
      rcases List.mem_cons.mp h with rfl | h
      · exact ⟨c, List.mem_cons_self⟩
      · have := mem_takeW h
        exact ⟨this.1, List.mem_cons_of_mem _ this.2⟩
    · exact absurd h List.not_mem_nil
theorem mem_dropW {α : Type} {f : α → Bool} {x : α} {l : List α} (h : x ∈ l.dropWhile f) : x ∈ l := by
  rw [← List.takeWhile_append_dropWhile (p := f) (l := l)]
  exact List.mem_append_right _ h
theorem flat_app (ps qs : List Lt) : flatL (ps ++ qs) = flatL ps ++ flatL qs := by
  unfold flatL
  rw [List.map_append, List.flatten_append]
theorem grow_flat : ∀ rs : List Ra, flatL (grow rs) = rs
  | [] => rfl
  | r :: rs => by
    have ih := grow_flat rs
    have h1 := rasL_same (l := r.1 + 1) ((grow rs).takeWhile fun p => p.1 == r.1 + 1) fun p hp => by simpa using (mem_takeW hp).1
    have h2 : flatL ((grow rs).takeWhile fun p => p.1 == r.1 + 1) ++ flatL ((grow rs).dropWhile fun p => p.1 == r.1 + 1) = rs := by
      rw [← flat_app, List.takeWhile_append_dropWhile]
      exact ih
    show (((r.1, r.2.1, r.2.2) : Ra) :: rasL (r.1 + 1) (((grow rs).takeWhile fun p => p.1 == r.1 + 1).map Prod.snd)) ++ flatL ((grow rs).dropWhile fun p => p.1 == r.1 + 1) = r :: rs
    rw [h1, List.cons_append, h2]
/-- levels that climb by one at most -/
def Lad : List Int → Prop
  | [] => True
  | [_] => True
  | a :: b :: ls => b ≤ a + 1 ∧ Lad (b :: ls)
theorem Lad.tail {a : Int} {ls : List Int} (h : Lad (a :: ls)) : Lad ls := by
  cases ls with
  | nil => exact True.intro
  | cons b ls => exact h.2
theorem grow_mem {p : Lt} : ∀ {rs : List Ra}, p ∈ grow rs → ∃ r ∈ rs, r.1 = p.1
  | [], h => absurd h List.not_mem_nil
  | r :: rs, h => by
    rcases List.mem_cons.mp h with rfl | h
    · exact ⟨r, List.mem_cons_self, rfl⟩
    · obtain ⟨x, hx, e⟩ := grow_mem (mem_dropW h)
      exact ⟨x, List.mem_cons_of_mem _ hx, e⟩
theorem grow_head : ∀ {r : Ra} {rs : List Ra}, ∃ t ps, grow (r :: rs) = (r.1, t) :: ps := ⟨_, _, rfl⟩
/-- along grow the levels fall -/
theorem grow_desc : ∀ {rs : List Ra}, Lad (rs.map Prod.fst) → (grow rs).Pairwise fun p q => q.1 ≤ p.1
  | [], _ => .nil
  | r :: rs, h => by
    have ih := grow_desc (rs := rs) h.tail
    have ihd : ((grow rs).dropWhile fun p => p.1 == r.1 + 1).Pairwise fun p q => q.1 ≤ p.1 := ih.sublist (List.dropWhile_sublist _)
    refine List.pairwise_cons.mpr ⟨fun q hq => ?_, ihd⟩
    have top : ∀ q ∈ grow rs, q.1 ≤ r.1 + 1 := fun q hq => by
      cases rs with
      | nil => exact absurd hq List.not_mem_nil
      | cons s rs =>
        have hs : s.1 ≤ r.1 + 1 := h.1
        obtain ⟨t, ps, e⟩ := grow_head (r := s) (rs := rs)
        rw [e] at hq ih
        rcases List.mem_cons.mp hq with rfl | hq
        · exact hs
        · have := (List.pairwise_cons.mp ih).1 q hq
          simp only at this
          omega
    show q.1 ≤ r.1
    cases hd : (grow rs).dropWhile fun p => p.1 == r.1 + 1 with
    | nil =>
      rw [hd] at hq
      exact absurd hq List.not_mem_nil
    | cons x xs =>
      have hx : ¬ x.1 = r.1 + 1 := by
        have := List.head?_dropWhile_not (fun p : Lt => p.1 == r.1 + 1) (grow rs)
        rw [hd] at this
        simpa using this
      have hx2 := top x (mem_dropW (by rw [hd]; exact List.mem_cons_self))
      rw [hd] at hq ihd
      rcases List.mem_cons.mp hq with rfl | hq
      · omega
      · have := (List.pairwise_cons.mp ihd).1 q hq
        omega
/-- rows that begin at the level 0 and stand above it from then on are one tree -/
theorem grow_one {r : Ra} {rs : List Ra} (h : Lad ((r :: rs).map Prod.fst)) (hr : r.1 = 0) (hs : ∀ x ∈ rs, 1 ≤ x.1) : ∃ t, grow (r :: rs) = [(0, t)] := by
  obtain ⟨t, ps, e⟩ := grow_head (r := r) (rs := rs)
  have hd := grow_desc h
  rw [e] at hd
  cases ps with
  | nil => exact ⟨t, by rw [e, hr]⟩
  | cons p ps =>
    exfalso
    have h1 := (List.pairwise_cons.mp hd).1 p List.mem_cons_self
    have h2 : p ∈ (grow rs).dropWhile fun p => p.1 == r.1 + 1 := by
      have e2 : grow (r :: rs) = _ :: (grow rs).dropWhile fun p => p.1 == r.1 + 1 := rfl
      rw [e] at e2
      have := (List.cons.inj e2).2
      rw [← this]
      exact List.mem_cons_self
    obtain ⟨x, hx, ex⟩ := grow_mem (mem_dropW h2)
    have := hs x hx
    simp only at h1
    omega

/-! ### nodes in the heap -/
theorem putF_le (f : Str) (v : V) : ∀ fs : List (Str × V), (putF f v fs).length ≤ fs.length + 1
  | [] => Nat.le_refl _
  | (g, u) :: r => by
    have ih := putF_le f v r
    show (if g = f then _ else _ : List (Str × V)).length ≤ _
    split
    · rw [List.length_cons, List.length_cons]
      omega
    · rw [List.length_cons, List.length_cons]
      omega
def nfl (d : Nd) (tp : Addr) : List (Str × V) := putF "popped" (.int d.pop) (putF "nodes" (.ref tp) (putF "alternative" (.int d.alt) (putF "look" (.int d.look) (putF "width" (.int d.wid) (putF "lead" (.int d.lead) (putF "state" (.int d.st) (putF "symbol" (.str d.sym) (putF "kind" (.str d.kind) []))))))))
theorem nf_kind (d : Nd) (tp : Addr) : (nfl d tp).lookup ("kind" : Str) = some (.str d.kind) := by
  unfold nfl
  rw [lookup_putF, if_neg (by decide +kernel), lookup_putF, if_neg (by decide +kernel), lookup_putF, if_neg (by decide +kernel), lookup_putF, if_neg (by decide +kernel), lookup_putF, if_neg (by decide +kernel), lookup_putF, if_neg (by decide +kernel), lookup_putF, if_neg (by decide +kernel), lookup_putF, if_neg (by decide +kernel), lookup_putF, if_pos rfl]
theorem nf_symbol (d : Nd) (tp : Addr) : (nfl d tp).lookup ("symbol" : Str) = some (.str d.sym) := by
  unfold nfl
  rw [lookup_putF, if_neg (by decide +kernel), lookup_putF, if_neg (by decide +kernel), lookup_putF, if_neg (by decide +kernel), lookup_putF, if_neg (by decide +kernel), lookup_putF, if_neg (by decide +kernel), lookup_putF, if_neg (by decide +kernel), lookup_putF, if_neg (by decide +kernel), lookup_putF, if_pos rfl]
theorem nf_state (d : Nd) (tp : Addr) : (nfl d tp).lookup ("state" : Str) = some (.int d.st) := by
  unfold nfl
  rw [lookup_putF, if_neg (by decide +kernel), lookup_putF, if_neg (by decide +kernel), lookup_putF, if_neg (by decide +kernel), lookup_putF, if_neg (by decide +kernel), lookup_putF, if_neg (by decide +kernel), lookup_putF, if_neg (by decide +kernel), lookup_putF, if_pos rfl]
theorem nf_lead (d : Nd) (tp : Addr) : (nfl d tp).lookup ("lead" : Str) = some (.int d.lead) := by
  unfold nfl
  rw [lookup_putF, if_neg (by decide +kernel), lookup_putF, if_neg (by decide +kernel), lookup_putF, if_neg (by decide +kernel), lookup_putF, if_neg (by decide +kernel), lookup_putF, if_neg (by decide +kernel), lookup_putF, if_pos rfl]
theorem nf_width (d : Nd) (tp : Addr) : (nfl d tp).lookup ("width" : Str) = some (.int d.wid) := by
  unfold nfl
  rw [lookup_putF, if_neg (by decide +kernel), lookup_putF, if_neg (by decide +kernel), lookup_putF, if_neg (by decide +kernel), lookup_putF, if_neg (by decide +kernel), lookup_putF, if_pos rfl]
theorem nf_look (d : Nd) (tp : Addr) : (nfl d tp).lookup ("look" : Str) = some (.int d.look) := by
  unfold nfl
  rw [lookup_putF, if_neg (by decide +kernel), lookup_putF, if_neg (by decide +kernel), lookup_putF, if_neg (by decide +kernel), lookup_putF, if_pos rfl]
theorem nf_alternative (d : Nd) (tp : Addr) : (nfl d tp).lookup ("alternative" : Str) = some (.int d.alt) := by
  unfold nfl
  rw [lookup_putF, if_neg (by decide +kernel), lookup_putF, if_neg (by decide +kernel), lookup_putF, if_pos rfl]
theorem nf_nodes (d : Nd) (tp : Addr) : (nfl d tp).lookup ("nodes" : Str) = some (.ref tp) := by
  unfold nfl
  rw [lookup_putF, if_neg (by decide +kernel), lookup_putF, if_pos rfl]
theorem nf_popped (d : Nd) (tp : Addr) : (nfl d tp).lookup ("popped" : Str) = some (.int d.pop) := by
  unfold nfl
  rw [lookup_putF, if_pos rfl]
theorem szM {n : Nat} (h : n ≤ 4000000) : n ≤ sizeLine := Nat.le_trans h (by decide)
mutual
def NodeAt (K : PySem.W.Frag) (C : Addr) (H : Hp) : Tr → Prop
  | .mk p d ks => (∃ dx tp, H p = some (.ins C dx (nfl d tp)) ∧ SqT K H tp (ks.map fun t => V.ref t.at)) ∧ NodesAt K C H ks
def NodesAt (K : PySem.W.Frag) (C : Addr) (H : Hp) : List Tr → Prop
  | [] => True
  | t :: ts => NodeAt K C H t ∧ NodesAt K C H ts
end
/-- what a heap keeps of nodes and tuples -/
structure Keeps (K : PySem.W.Frag) (C : Addr) (H H' : Hp) : Prop where
  ins : ∀ p dx d tp, H p = some (.ins C dx (nfl d tp)) → H' p = some (.ins C dx (nfl d tp))
  tup : ∀ tp us, SqT K H tp us → SqT K H' tp us
theorem Keeps.of {K : PySem.W.Frag} {C : Addr} {H H' : Hp} (s : Same H H') : Keeps K C H H' :=
  ⟨fun _ _ _ _ h => s _ _ h, fun tp us h => by
    rcases h with (h | ⟨o, h⟩) | h
    · exact .inl (.inl (s _ _ h))
    · exact .inl (.inr ⟨o, s _ _ h⟩)
    · exact .inr h⟩
theorem Keeps.trans {K : PySem.W.Frag} {C : Addr} {H H1 H2 : Hp} (a : Keeps K C H H1) (b : Keeps K C H1 H2) : Keeps K C H H2 := ⟨fun p dx d tp h => b.ins p dx d tp (a.ins p dx d tp h), fun tp us h => b.tup tp us (a.tup tp us h)⟩
mutual
theorem NodeAt.keep {K : PySem.W.Frag} {C : Addr} {H H' : Hp} (s : Keeps K C H H') : ∀ {t : Tr}, NodeAt K C H t → NodeAt K C H' t
  | .mk _ _ _, ⟨⟨dx, tp, h1, h2⟩, h3⟩ => ⟨⟨dx, tp, s.ins _ _ _ _ h1, s.tup _ _ h2⟩, NodesAt.keep s h3⟩
theorem NodesAt.keep {K : PySem.W.Frag} {C : Addr} {H H' : Hp} (s : Keeps K C H H') : ∀ {ts : List Tr}, NodesAt K C H ts → NodesAt K C H' ts
  | [], _ => True.intro
  | _ :: _, ⟨h1, h2⟩ => ⟨NodeAt.keep s h1, NodesAt.keep s h2⟩
end
theorem NodesAt.mem {K : PySem.W.Frag} {C : Addr} {H : Hp} : ∀ {ts : List Tr} {t : Tr}, NodesAt K C H ts → t ∈ ts → NodeAt K C H t
  | _ :: _, _, ⟨h1, h2⟩, hm => by
    rcases List.mem_cons.mp hm with rfl | hm
    · exact h1
    · exact NodesAt.mem h2 hm
theorem NodesAt.of {K : PySem.W.Frag} {C : Addr} {H : Hp} : ∀ {ts : List Tr}, (∀ t ∈ ts, NodeAt K C H t) → NodesAt K C H ts
  | [], _ => True.intro
  | _ :: _, h => ⟨h _ List.mem_cons_self, NodesAt.of fun t ht => h t (List.mem_cons_of_mem _ ht)⟩
theorem NodeAt.it {K : PySem.W.Frag} {C : Addr} {H : Hp} : ∀ {t : Tr}, NodeAt K C H t → ∃ dx tp, H t.at = some (.ins C dx (nfl t.d tp)) ∧ SqT K H tp (t.ks.map fun t => V.ref t.at)
  | .mk _ _ _, h => h.1
theorem NodeAt.kids {K : PySem.W.Frag} {C : Addr} {H : Hp} : ∀ {t : Tr}, NodeAt K C H t → NodesAt K C H t.ks
  | .mk _ _ _, h => h.2
/-! ### Node(..) -/
def spNInit (K : PySem.W.Frag) (C : Addr) : Sp := fun vs H Q _ => ∃ (p dx tn : Addr) (d : Nd) (us : List V), H p = some (.ins C dx []) ∧ vs = [.ref p, .str d.kind, .str d.sym, .int d.st, .int d.lead, .int d.wid, .int d.look, .int d.alt, .ref tn, .int d.pop] ∧
  ((SqT K H tn us ∧ Q .non (upd H p (.ins C dx (nfl d tn)))) ∨ (SqL K H tn us ∧ ∀ tp, tp ≠ p → H tp = none → Q .non (upd (upd H tp (.tup us)) p (.ins C dx (nfl d tp)))))
theorem upd_swap {H : Hp} {a b : Addr} {x y : HO} (h : a ≠ b) : upd (upd H a x) b y = upd (upd H b y) a x := by
  funext c
  unfold upd
  by_cases c1 : c = a
  · by_cases c2 : c = b
    · exact absurd (c1.symm.trans c2) h
    · rw [if_neg c2, if_pos c1, if_pos c1]
  · rw [if_neg c1]
    by_cases c2 : c = b
    · rw [if_pos c2, if_neg c1]
    · rw [if_neg c2, if_neg c1]
theorem sqT_updI {K : PySem.W.Frag} {H : Hp} {t p C dx : Addr} {us : List V} {fs : List (Str × V)} {o : HO} (h : SqT K H t us) (hp : H p = some (.ins C dx fs)) : SqT K (upd H p o) t us := by
  rcases h with (h | ⟨x, h⟩) | h
  · exact .inl (.inl (by rw [upd_ne (fun e => by rw [e, hp] at h; cases h)]; exact h))
  · exact .inl (.inr ⟨x, by rw [upd_ne (fun e => by rw [e, hp] at h; cases h)]; exact h⟩)
  · exact .inr h
theorem sqL_updI {K : PySem.W.Frag} {H : Hp} {t p C dx : Addr} {us : List V} {fs : List (Str × V)} {o : HO} (h : SqL K H t us) (hp : H p = some (.ins C dx fs)) : SqL K (upd H p o) t us := by
  rcases h with (h | ⟨x, h⟩) | h
  · exact .inl (.inl (by rw [upd_ne (fun e => by rw [e, hp] at h; cases h)]; exact h))
  · exact .inl (.inr ⟨x, by rw [upd_ne (fun e => by rw [e, hp] at h; cases h)]; exact h⟩)
  · exact .inr h
theorem ok_Node_init (T : Txt K mg) : FnOk P w K mg base CX0 1 T.a_Node_init T.fd_Node_init psN (spNInit K T.C_Node) := by
  refine T.F_Node_init.ok sc_Node_init (fun vs H Q E h => ?_) (fun cdv A outer s H vs Q E hr h => ?_)
  · obtain ⟨p, dx, tn, d, us, _, rfl, _⟩ := h
    rfl
  · obtain ⟨p, dx, tn, d, us, hp, rfl, h⟩ := h
    refine ⟨_, (pss_cons (ps_fld (pv 0) (pv 1) rfl)
      (pss_cons (ps_fld (pv 0) (pv 2) rfl)
      (pss_cons (ps_fld (pv 0) (pv 3) rfl)
      (pss_cons (ps_fld (pv 0) (pv 4) rfl)
      (pss_cons (ps_fld (pv 0) (pv 5) rfl)
      (pss_cons (ps_fld (pv 0) (pv 6) rfl)
      (pss_cons (ps_fld (pv 0) (pv 7) rfl)
      (pss_cons (ps_fld (pv 0) (pe_callTy call_tuple_of (by rfl) T.m_tuple (by decide +kernel) (pa_cons (pv 8) pa_nil)) rfl)
      (pss_one (ps_fld (pv 0) (pv 9) rfl)))))))))), ?_⟩
    have ln0 : ([] : List (Str × V)).length = 0 := rfl
    have l1 := putF_le "kind" (.str d.kind) []
    have l2 := putF_le "symbol" (.str d.sym) (putF "kind" (.str d.kind) [])
    have l3 := putF_le "state" (.int d.st) (putF "symbol" (.str d.sym) (putF "kind" (.str d.kind) []))
    have l4 := putF_le "lead" (.int d.lead) (putF "state" (.int d.st) (putF "symbol" (.str d.sym) (putF "kind" (.str d.kind) [])))
    have l5 := putF_le "width" (.int d.wid) (putF "lead" (.int d.lead) (putF "state" (.int d.st) (putF "symbol" (.str d.sym) (putF "kind" (.str d.kind) []))))
    have l6 := putF_le "look" (.int d.look) (putF "width" (.int d.wid) (putF "lead" (.int d.lead) (putF "state" (.int d.st) (putF "symbol" (.str d.sym) (putF "kind" (.str d.kind) [])))))
    have l7 := putF_le "alternative" (.int d.alt) (putF "look" (.int d.look) (putF "width" (.int d.wid) (putF "lead" (.int d.lead) (putF "state" (.int d.st) (putF "symbol" (.str d.sym) (putF "kind" (.str d.kind) []))))))
    refine ⟨_, rfl, _, rfl, p, _, dx, _, rfl, hp, T.CL_Node, T.NA_Node_kind, by omega, ?_⟩
    refine ⟨_, rfl, _, rfl, p, _, dx, _, rfl, upd_same, T.CL_Node, T.NA_Node_symbol, by omega, ?_⟩
    refine ⟨_, rfl, _, rfl, p, _, dx, _, rfl, upd_same, T.CL_Node, T.NA_Node_state, by omega, ?_⟩
    refine ⟨_, rfl, _, rfl, p, _, dx, _, rfl, upd_same, T.CL_Node, T.NA_Node_lead, by omega, ?_⟩
    refine ⟨_, rfl, _, rfl, p, _, dx, _, rfl, upd_same, T.CL_Node, T.NA_Node_width, by omega, ?_⟩
    refine ⟨_, rfl, _, rfl, p, _, dx, _, rfl, upd_same, T.CL_Node, T.NA_Node_look, by omega, ?_⟩
    refine ⟨_, rfl, _, rfl, p, _, dx, _, rfl, upd_same, T.CL_Node, T.NA_Node_alternative, by omega, ?_⟩
    rw [upd_upd, upd_upd, upd_upd, upd_upd, upd_upd, upd_upd]
    have l8 := fun tp : Addr => putF_le "nodes" (.ref tp) (putF "alternative" (.int d.alt) (putF "look" (.int d.look) (putF "width" (.int d.wid) (putF "lead" (.int d.lead) (putF "state" (.int d.st) (putF "symbol" (.str d.sym) (putF "kind" (.str d.kind) [])))))))
    rcases h with ⟨ht, q⟩ | ⟨ht, q⟩
    · refine ⟨_, rfl, tn, us, rfl, .inr ⟨sqT_updI ht hp, ?_⟩⟩
      refine ⟨_, rfl, p, _, dx, _, rfl, upd_same, T.CL_Node, T.NA_Node_nodes, by omega, ?_⟩
      have := l8 tn
      refine ⟨_, rfl, _, rfl, p, _, dx, _, rfl, upd_same, T.CL_Node, T.NA_Node_popped, by omega, ?_⟩
      rw [upd_upd, upd_upd]
      exact q
    · refine ⟨_, rfl, tn, us, rfl, .inl ⟨sqL_updI ht hp, fun tp ntp => ?_⟩⟩
      have hne : tp ≠ p := fun e => by rw [e, upd_same] at ntp; cases ntp
      refine ⟨_, rfl, p, _, dx, _, rfl, by rw [upd_ne hne.symm]; exact upd_same, T.CL_Node, T.NA_Node_nodes, by omega, ?_⟩
      have := l8 tp
      refine ⟨_, rfl, _, rfl, p, _, dx, _, rfl, upd_same, T.CL_Node, T.NA_Node_popped, by omega, ?_⟩
      rw [upd_upd, upd_swap hne.symm, upd_upd]
      exact q tp hne (by rw [upd_ne hne] at ntp; exact ntp)

theorem takeN {α : Type} {xs : List α} {k : Nat} {x : α} (h : xs[k]? = some x) : xs.take (k + 1) = xs.take k ++ [x] := by
  rw [List.take_add_one, h, Option.toList_some]

def intsIn (lo hi : Int) : List V → Bool
  | [] => true
  | .int i :: r => decide (lo ≤ i) && decide (i ≤ hi) && intsIn lo hi r
  | _ :: _ => false
theorem intsIn_mem {lo hi : Int} : ∀ {vs : List V}, intsIn lo hi vs = true → ∀ v ∈ vs, ∃ i, v = V.int i ∧ lo ≤ i ∧ i ≤ hi
  | [], _, v, m => absurd m List.not_mem_nil
  | .int i :: r, h, v, m => by
    unfold intsIn at h
    simp only [Bool.and_eq_true, decide_eq_true_eq] at h
    rcases List.mem_cons.mp m with rfl | m
    · exact ⟨i, rfl, h.1.1, h.1.2⟩
    · exact intsIn_mem h.2 v m
  | .non :: _, h, _, _ => by cases h
  | .bl _ :: _, h, _, _ => by cases h
  | .str _ :: _, h, _, _ => by cases h
  | .byt _ :: _, h, _, _ => by cases h
  | .flt _ :: _, h, _, _ => by cases h
  | .ref _ :: _, h, _, _ => by cases h
  | .ty _ :: _, h, _, _ => by cases h
def Lev (L : List Int) : Prop := ∃ ls, L = 0 :: ls ∧ (∀ x ∈ ls, 1 ≤ x) ∧ Lad L
theorem Lad.snoc {a x : Int} : ∀ {L : List Int}, Lad (L ++ [a]) → x ≤ a + 1 → Lad (L ++ [a] ++ [x])
  | [], _, h => ⟨h, True.intro⟩
  | [b], h1, h => ⟨h1.1, h, True.intro⟩
  | b :: c :: L, h1, h => ⟨h1.1, Lad.snoc (L := c :: L) h1.2 h⟩
def LevsAt (H : Hp) (l : Addr) (L : List Int) : Prop := H l = some (.lst (L.map V.int))
theorem But.updN {r l : Addr} {H H' : Hp} {o : HO} (b : But r H H') (nl : H l = none) : But r H (upd H' l o) := fun c u n e => by
  rw [upd_ne (ne_of_none e nl)]
  exact b c u n e
theorem ReelAt.updN {H : Hp} {r p : Addr} {o : HO} (h : ReelAt H r) (n : p ≠ r) : ReelAt (upd H p o) r := by
  obtain ⟨z, c, h1, h2⟩ := h
  exact ⟨z, c, by rw [upd_ne n.symm]; exact h1, h2⟩

def numsV (d : Nd) : List V := [.int d.st, .int d.lead, .int d.wid, .int d.look, .int d.alt, .int d.pop]
def rwV (r : Rw) : List V := .int r.1 :: .str r.2.kind :: .str r.2.sym :: numsV r.2
def RwAt (H : Hp) (v : V) (r : Rw) : Prop := ∃ g, v = .ref g ∧ H g = some (.tup (rwV r))
theorem RwAt.tups {H H' : Hp} (t : Tups H H') {v : V} {r : Rw} (h : RwAt H v r) : RwAt H' v r := by
  obtain ⟨g, e, k⟩ := h
  exact ⟨g, e, t _ _ k⟩

def Ts (tt : L2.TT) (σ : L2.St) (H : Hp) (A : Prop) : Prop := ∀ Q : Bool → Hp → Prop, (∀ c, (c = true ↔ A) → Q c H) → tt σ H Q
theorem Ts.imp {tt : L2.TT} {σ : L2.St} {H : Hp} {A B : Prop} (h : Ts tt σ H A) (e : A ↔ B) : Ts tt σ H B := fun Q q => h Q fun c i => q c (i.trans e)
theorem Ts.and {t u : L2.TT} {σ : L2.St} {H : Hp} {A B : Prop} (a : Ts t σ H A) (b : A → Ts u σ H B) : Ts (tAnd t u) σ H (A ∧ B) := fun Q q => a _ fun c i => by
  cases c
  · exact iteF (q false ⟨fun h => (by cases h), fun h => i.mpr h.1⟩)
  · exact iteT (b (i.mp rfl) _ fun d j => q d ⟨fun h => ⟨i.mp rfl, j.mp h⟩, fun h => j.mpr h.2⟩)
theorem Ts.or {t u : L2.TT} {σ : L2.St} {H : Hp} {A B : Prop} (a : Ts t σ H A) (b : ¬ A → Ts u σ H B) : Ts (tOr t u) σ H (A ∨ B) := fun Q q => a _ fun c i => by
  cases c
  · exact iteF (b (fun h => by cases i.mpr h) _ fun d j => q d ⟨fun h => .inr (j.mp h), fun h => j.mpr (h.resolve_left fun h => by cases i.mpr h)⟩)
  · exact iteT (q true ⟨fun _ => .inl (i.mp rfl), fun _ => rfl⟩)
theorem Ts.not {t : L2.TT} {σ : L2.St} {H : Hp} {A : Prop} (a : Ts t σ H A) : Ts (tNot t) σ H (¬ A) := fun Q q => a _ fun c i => q (!c) (by
  cases c
  · exact ⟨fun _ h => (by cases i.mpr h), fun _ => rfl⟩
  · exact ⟨fun h => (by cases h), fun h => absurd (i.mp rfl) h⟩)
theorem ts_if {tt : L2.TT} {a c : L2.TS} {D : L2.Ends} {σ : L2.St} {H : Hp} {A : Prop} (h : Ts tt σ H A) (ha : A → a { D with nx := fun σ2 H2 => c D σ2 H2 } σ H) (hb : ¬ A → c D σ H) : tSeq (tIfS tt a tNext) c D σ H := h _ fun b i => by
  cases b
  · exact iteF (hb fun h => by cases i.mpr h)
  · exact iteT (ha (i.mp rfl))
theorem ts_ite {tt : L2.TT} {a b : L2.TS} {D : L2.Ends} {σ : L2.St} {H : Hp} {A : Prop} (h : Ts tt σ H A) (ha : A → a D σ H) (hb : ¬ A → b D σ H) : tIfS tt a b D σ H := h _ fun b i => by
  cases b
  · exact iteF (hb fun h => by cases i.mpr h)
  · exact iteT (ha (i.mp rfl))
theorem ts_eqI {i : Nat} {m z : Int} {σ : L2.St} {H : Hp} (h : σ[i]? = some (some (.int m))) : Ts (tTest (tOp rEq (tVar i) (tC (V.int z)))) σ H (m = z) := fun Q q => ⟨_, h, rfl, _, rfl, q _ (by
  rw [decide_eq_true_eq]
  exact ⟨fun e => by injection e, fun e => by rw [e]⟩)⟩
theorem ts_ltI {i : Nat} {m z : Int} {σ : L2.St} {H : Hp} (h : σ[i]? = some (some (.int m))) : Ts (tTest (tOp (rI0 fun i j => .bl (decide (i < j))) (tVar i) (tC (V.int z)))) σ H (m < z) := fun Q q => ⟨_, h, _, _, rfl, rfl, _, rfl, q _ decide_eq_true_iff⟩
theorem ts_gtI {i : Nat} {m z : Int} {σ : L2.St} {H : Hp} (h : σ[i]? = some (some (.int m))) : Ts (tTest (tOp (rI0 fun i j => .bl (decide (j < i))) (tVar i) (tC (V.int z)))) σ H (z < m) := fun Q q => ⟨_, h, _, _, rfl, rfl, _, rfl, q _ decide_eq_true_iff⟩

theorem pe_fldK {X : Cx} {K : PySem.W.Frag} {e : Expr} {ta : TE} {f : Str} {pos : Pos} (h : X.K = K) (he : PE X e ta) (hb : attributeBase e f X.env (eval e X.env) = eval e X.env) : PE X (.Attribute e f pos) (tFld K ta f) := by
  subst h
  exact pe_fld he hb

/-! ### rows, with no more told of them than their levels -/
structure RowsAt (H : Hp) (l : Addr) (rows : List Rw) : Prop where
  ex : ∃ us, H l = some (.lst us) ∧ Paired (RwAt H) us rows
  lev : Lev (rows.map Prod.fst)
  any : True

/-! ### the tree of rows -/
theorem while_nat {c : L2.TT} {tb : L2.TS} {D : L2.Ends} {σ : L2.St} {H : Hp} (Pv : Nat → L2.St → Hp → Prop) (Ex : L2.St → Hp → Prop) {m0 : Nat} (h0 : Pv m0 σ H)
    (hs : ∀ m σ H, Pv m σ H → ∃ b : Bool, (∀ Q : Bool → Hp → Prop, Q b H → c σ H Q) ∧ (b = true → tb { D with nx := fun σ' H' => ∃ m', m' < m ∧ Pv m' σ' H', ct := fun σ' H' => ∃ m', m' < m ∧ Pv m' σ' H', bk := D.nx } σ H) ∧ (b = false → Ex σ H)) (hd : ∀ σ H, Ex σ H → D.nx σ H) : tWhile c tb D σ H := by
  refine ⟨fun m σ H => Pv m σ H, ⟨_, h0⟩, ?_⟩
  rintro m σ H p
  obtain ⟨b, h1, h2, h3⟩ := hs m σ H p
  refine h1 _ ?_
  cases b with
  | true => exact ⟨_, fun σ' H' h => h, h2 rfl⟩
  | false => exact hd _ _ (h3 rfl)
theorem d_if {v : V} {σ : L2.St} {H : Hp} {tt : L2.TT} {a b : L2.TS} {D : L2.Ends} {r : VK} {k c : L2.St → Hp → Prop} (h : tIfS tt a b D σ H) : (fun (_ : V) H1 => Ends.nx ⟨tIfS tt a b D, r, k, c⟩ σ H1) v H := h
theorem Keeps.lst {K : PySem.W.Frag} {C : Addr} {H : Hp} {p : Addr} {xs : List V} {o : HO} (h : H p = some (.lst xs)) : Keeps K C H (upd H p o) :=
  ⟨fun q dx d tp e => by rw [upd_ne (fun z => by rw [z, h] at e; cases e)]; exact e, fun tp us e => by
    rcases e with (e | ⟨x, e⟩) | e
    · exact .inl (.inl (by rw [upd_ne (fun z => by rw [z, h] at e; cases e)]; exact e))
    · exact .inl (.inr ⟨x, by rw [upd_ne (fun z => by rw [z, h] at e; cases e)]; exact e⟩)
    · exact .inr e⟩
theorem take_while_is {α : Type} {f : α → Bool} : ∀ {a b : List α}, (∀ x ∈ a, f x = true) → (∀ x, b.head? = some x → f x = false) → (a ++ b).takeWhile f = a ∧ (a ++ b).dropWhile f = b
  | [], [], _, _ => ⟨rfl, rfl⟩
  | [], y :: b, _, h => by
    have hy := h y rfl
    exact ⟨by rw [List.nil_append, List.takeWhile_cons, hy]; rfl, by rw [List.nil_append, List.dropWhile_cons, hy]; rfl⟩
  | x :: a, b, h1, h2 => by
    have ih := take_while_is (a := a) (b := b) (fun y hy => h1 y (List.mem_cons_of_mem _ hy)) h2
    have hx := h1 x List.mem_cons_self
    exact ⟨by rw [List.cons_append, List.takeWhile_cons, hx, if_pos rfl, ih.1], by rw [List.cons_append, List.dropWhile_cons, hx, if_pos rfl, ih.2]⟩
theorem drop_at {α : Type} {x : α} : ∀ {xs : List α} {k : Nat}, xs[k]? = some x → xs.drop k = x :: xs.drop (k + 1)
  | y :: xs, 0, h => by
    obtain rfl : y = x := by simpa using h
    rfl
  | y :: xs, k + 1, h => drop_at (xs := xs) (k := k) (by simpa using h)
theorem set_rep {α : Type} {a x : α} : ∀ (k : Nat) (xs ys : List α), (List.replicate (k + 1) a ++ xs).set k x = List.replicate k a ++ x :: xs
  | 0, _, _ => rfl
  | k + 1, xs, ys => by
    have ih := set_rep (a := a) (x := x) k xs ys
    show a :: (List.replicate (k + 1) a ++ xs).set k x = a :: (List.replicate k a ++ x :: xs)
    rw [ih]
def rasOf (rows : List Rw) (as : List Addr) : List Ra := (rows.zip as).map fun x => (x.1.1, x.1.2, x.2)
theorem rg_down {n : Nat} (h : n ≤ 4000000) : RgC ((n : Int) - 1) (-1) (-1) n := by
  have e := RgC.neg (i := (n : Int) - 1) (j := -1) (by omega) (by omega) (by omega) (by omega)
  rwa [show ((n : Int) - 1 - -1).toNat = n by omega] at e
/-- the state of the loop that makes the nodes -/
structure MadeSt (K : PySem.W.Frag) (C : Addr) (rows : List Rw) (H0 : Hp) (m w : Addr) (i : Nat) (as : List Addr) (js : List Nat) (H' : Hp) : Prop where
  same : Same H0 H'
  len : as.length = i
  hm : H' m = some (.lst (List.replicate (rows.length - i) V.non ++ as.map V.ref))
  hw : H' w = some (.lst (js.reverse.map fun (j : Nat) => V.int j))
  pr : Paired (fun (j : Nat) (p : Lt) => (∃ d, rows[j]? = some (p.1, d)) ∧ (List.replicate (rows.length - i) V.non ++ as.map V.ref)[j]? = some (.ref p.2.at)) js (grow (rasOf (rows.drop (rows.length - i)) as))
  nd : ∀ p ∈ grow (rasOf (rows.drop (rows.length - i)) as), NodeAt K C H' p.2
theorem grow_len : ∀ rs : List Ra, (grow rs).length ≤ rs.length
  | [] => Nat.le_refl _
  | r :: rs => by
    have ih := grow_len rs
    have e : ((grow rs).dropWhile fun p => p.1 == r.1 + 1).length ≤ (grow rs).length := (List.dropWhile_sublist _).length_le
    show ((grow rs).dropWhile fun p => p.1 == r.1 + 1).length + 1 ≤ rs.length + 1
    omega
def spMade (K : PySem.W.Frag) (C : Addr) : Sp := fun vs H Q _ => ∃ (l : Addr) (rows : List Rw), vs = [.ref l] ∧ RowsAt H l rows ∧ rows.length ≤ 5000 ∧
  ∀ m as t H', Same H H' → H m = none → H' m = some (.lst (as.map V.ref)) → as.length = rows.length → t.ras 0 = rasOf rows as → NodeAt K C H' t → Q (.ref m) H'
theorem ok_made (T : Txt K mg) : FnOk P w K mg base CX0 3 T.a_law_made T.fd_law_made ["rows"] (spMade K T.C_Node) := by
  have G_Node_init : FnOk P w K mg base CX0 1 T.a_Node_init T.fd_Node_init psN (spNInit K T.C_Node) := ok_Node_init T
  refine T.F_law_made.ok sc_law_made (fun vs H Q E h => ?_) (fun cdv A outer s H vs Q E hr h => ?_)
  · obtain ⟨l, rows, rfl, _⟩ := h
    rfl
  · obtain ⟨l, rows, rfl, ⟨⟨us, hl, hu⟩, lev, ok⟩, ln, q⟩ := h
    have hr_Node_init : Room 2 _ := hr
    refine ⟨_, (pss_cons (ps_set (i := 1) sc_law_made.nd rfl (.inl rfl) (pe_op op_rep (pe_lst (pa_cons pe_non pa_nil)) (pe_callB call_len_seq (by rfl) T.m_len PySem.boot_len (pa_cons (pv 0) pa_nil))))
      (pss_cons (ps_set (i := 2) sc_law_made.nd rfl (.inl rfl) (pe_lst pa_nil))
      (pss_cons (ps_for PassesOwn.never rfl (pi_range3 (by rfl) T.m_range (pa_cons (pe_op op_sub (pe_callB call_len_seq (by rfl) T.m_len PySem.boot_len (pa_cons (pv 0) pa_nil)) pe_int) (pa_cons (pe_un un_neg pe_int) (pa_cons (pe_un un_neg pe_int) pa_nil)))) (pg_name (i := 3) sc_law_made.nd rfl (.inl rfl)) (pss_cons (ps_set (i := 4) sc_law_made.nd rfl (.inl rfl) (pe_ix ix_list (pv 0) (pv 3) (fun _ _ => rfl)))
      (pss_cons (ps_set (i := 5) sc_law_made.nd rfl (.inl rfl) (pe_lst pa_nil))
      (pss_cons (ps_while PassesOwn.never (PW.pt (pw_and (pt_truth (pv 2) (by intro _; rfl)) (pw_and1 (pt_cmpR op_eq (pe_ix ix_tup (pe_ix ix_list (pv 0) (pe_ix ix_list (pv 2) (pe_op op_sub (pe_callB call_len_seq (by rfl) T.m_len PySem.boot_len (pa_cons (pv 2) pa_nil)) pe_int) (fun _ _ => rfl)) (fun _ _ => rfl)) pe_int (fun _ _ => rfl)) (pe_op op_add (pe_ix ix_tup (pv 4) pe_int (fun _ _ => rfl)) pe_int) (nomark _))))) (pss_one (ps_expr (pe_bm PySem.F.plainAttrs_list PySem.F.slot_list_append PySem.F.type_list_append mt_append (pv 5) (pa_cons (pe_ix ix_list (pv 1) (pe_bm0 PySem.F.plainAttrs_list PySem.F.slot_list_pop PySem.F.type_list_pop mt_pop (pv 2)) (fun _ _ => rfl)) pa_nil)))))
      (pss_cons (ps_expr (pe_bm PySem.F.plainAttrs_list PySem.F.slot_list_append PySem.F.type_list_append mt_append (pv 2) (pa_cons (pv 3) pa_nil)))
      (pss_one (ps_if (PW.pt (pw_and (pt_cmpR op_eq (pe_op op_mod (pv 3) pe_int) pe_int (nomark _)) (pw_and (pt_cmpR op_eq (pe_ix ix_tup (pv 4) pe_int (fun _ _ => rfl)) (pe_un un_neg pe_int) (nomark _)) (pw_and (pt_cmpR op_eq (pe_ix ix_tup (pv 4) pe_int (fun _ _ => rfl)) pe_int (nomark _)) (pw_and1 (pt_not (pt_truth (pv 5) (by intro _; rfl)))))))) (pss_one (ps_asg (pe_makeK (n := 2) T.MK_Node G_Node_init hr_Node_init (by rfl) T.G_Node (kb_Node4 T).choose_spec pass0 (pa_cons (pe_ix ix_tup (pv 4) pe_int (fun _ _ => rfl)) (pa_cons (pe_ix ix_tup (pv 4) pe_int (fun _ _ => rfl)) pa_nil)) (pk_cons (pe_ix ix_tup (pv 4) pe_int (fun _ _ => rfl)) (pk_cons (pe_ix ix_tup (pv 4) pe_int (fun _ _ => rfl)) (pk_cons (pe_ix ix_tup (pv 4) pe_int (fun _ _ => rfl)) (pk_cons (pe_ix ix_tup (pv 4) pe_int (fun _ _ => rfl)) pk_nil))))) (pg_sub (pv 1) (pv 3) set_list))) (pss_cons (ps_set (i := 5) sc_law_made.nd rfl (.inl rfl) (pe_callTy call_tuple_of (by rfl) T.m_tuple (by decide +kernel) (pa_cons (pv 5) pa_nil)))
      (pss_one (ps_asg (pe_makeK (n := 2) T.MK_Node G_Node_init hr_Node_init (by rfl) T.G_Node (kb_Node7 T).choose_spec pass0 (pa_cons (pe_ix ix_tup (pv 4) pe_int (fun _ _ => rfl)) (pa_cons (pe_ix ix_tup (pv 4) pe_int (fun _ _ => rfl)) pa_nil)) (pk_cons (pe_ix ix_tup (pv 4) pe_int (fun _ _ => rfl)) (pk_cons (pe_ix ix_tup (pv 4) pe_int (fun _ _ => rfl)) (pk_cons (pe_ix ix_tup (pv 4) pe_int (fun _ _ => rfl)) (pk_cons (pe_ix ix_tup (pv 4) pe_int (fun _ _ => rfl)) (pk_cons (pe_ix ix_tup (pv 4) pe_int (fun _ _ => rfl)) (pk_cons (pv 5) (pk_cons (pe_ix ix_tup (pv 4) pe_int (fun _ _ => rfl)) pk_nil)))))))) (pg_sub (pv 1) (pv 3) set_list)))))))))))
      (pss_one (ps_ret (pv 1)))))), ?_⟩
    have lus := paired_len hu
    refine ⟨by show 1 ≤ sizeLine; decide, fun p np => ?_⟩
    refine ⟨_, rfl, l, us, rfl, .inl (SqL.of ((same_upd np) _ _ hl)), ?_⟩
    rw [lus]
    have en : (List.replicate ((rows.length : Nat) : Int).toNat [V.non]).flatten = List.replicate rows.length V.non := by
      rw [show ((rows.length : Nat) : Int).toNat = rows.length by omega]
      induction rows.length with
      | zero => rfl
      | succ m ih => rw [List.replicate_succ, List.replicate_succ, List.flatten_cons, ih]; rfl
    refine ⟨p, _, _, rfl, rfl, upd_same, by omega, by omega, by show 1 * _ ≤ _; exact Nat.le_trans (show 1 * ((rows.length : Nat) : Int).toNat ≤ 5000 by omega) (by decide), fun m nm => ?_⟩
    rw [en]
    refine ⟨by show 0 ≤ sizeLine; decide, fun w nw => ?_⟩
    have s1 := same_upd (o := .lst [V.non]) np
    have s2 := same_upd (o := .lst (List.replicate rows.length V.non)) nm
    have nm0 : H m = none := s1.free nm
    have nw0 : H w = none := (s1.trans s2).free nw
    have hm0 : (upd (upd H p (.lst [V.non])) m (.lst (List.replicate rows.length V.non))) m = some (.lst (List.replicate rows.length V.non)) := upd_same
    have hmw : m ≠ w := ne_of_none hm0 nw
    have s3 := same_upd (o := .lst []) nw
    have s03 := (s1.trans s2).trans s3
    refine ⟨_, rfl, l, us, rfl, .inl (SqL.of (s03 _ _ hl)), ?_⟩
    rw [lus]
    refine ⟨_, _, rfl, rfl, 1, rfl, 1, rfl, _, _, _, rows.length, rfl, rg_down (by omega), ?_⟩
    refine for_it (walk_rangeC (lo := ((rows.length : Nat) : Int) - 1) (c := -1) (n := rows.length)) (fun i σ H' => i ≤ rows.length ∧ ∃ (as : List Addr) (js : List Nat) (y3 y4 y5 : Option V), σ = [some (.ref l), some (.ref m), some (.ref w), y3, y4, y5] ∧ MadeSt K T.C_Node rows H m w i as js H')
      ⟨Nat.zero_le _, [], [], none, none, none, rfl, s03, rfl, by rw [Nat.sub_zero, List.map_nil, List.append_nil]; exact s3 _ _ hm0, upd_same, ?_, ?_⟩ (fun _ _ _ _ _ => True.intro) ?_ ?_
    · have e : rasOf (rows.drop (rows.length - 0)) [] = [] := by
        unfold rasOf
        rw [List.zip_nil_right]
        rfl
      rw [e]
      exact .nil
    · have e : rasOf (rows.drop (rows.length - 0)) [] = [] := by
        unfold rasOf
        rw [List.zip_nil_right]
        rfl
      rw [e]
      exact fun p hp => absurd hp List.not_mem_nil
    · rintro i x σ H1 H2 hi ⟨_, as, js, y3, y4, y5, rfl, S⟩ ⟨rfl, hxe⟩
      obtain ⟨k, hk⟩ : ∃ k, k = rows.length - 1 - i := ⟨_, rfl⟩
      have ek : ((rows.length : Nat) : Int) - 1 + ((i : Nat) : Int) * -1 = (k : Int) := by omega
      have kn : k < rows.length := by omega
      obtain ⟨rk, hrk⟩ : ∃ r, rows[k]? = some r := ⟨_, List.getElem?_eq_getElem kn⟩
      obtain ⟨x', hx', g, rfl, hg0⟩ := paired_get hu hrk
      have hl2 := S.same _ _ hl
      obtain rfl : x = V.int (k : Int) := hxe.trans (congrArg V.int ek)
      refine ⟨_, rfl, _, rfl, l, us, _, _, rfl, rfl, SqL.of hl2, atI_nat hx', ?_⟩
      refine ⟨by show 0 ≤ sizeLine; decide, fun b nb => ?_⟩
      obtain ⟨G, hG⟩ : ∃ G, G = grow (rasOf (rows.drop (rows.length - i)) as) := ⟨_, rfl⟩
      obtain ⟨M, hM⟩ : ∃ M, M = List.replicate (rows.length - i) V.non ++ as.map V.ref := ⟨_, rfl⟩
      have pr0 := S.pr
      have nd0 := S.nd
      have hm2 := S.hm
      rw [← hG, ← hM] at pr0
      rw [← hG] at nd0
      rw [← hM] at hm2
      have ljs : js.length ≤ 5000 := by
        rw [paired_len pr0, hG]
        have e := grow_len (rasOf (rows.drop (rows.length - i)) as)
        have e2 : (rasOf (rows.drop (rows.length - i)) as).length ≤ rows.length := by
          unfold rasOf
          rw [List.length_map, List.length_zip, List.length_drop]
          omega
        omega
      have sb : Same H2 (upd H2 b (.lst [])) := same_upd nb
      have nb0 : H b = none := S.same.free nb
      have hmb : m ≠ b := ne_of_none hm2 nb
      have hwb : w ≠ b := ne_of_none S.hw nb
      refine while_nat (m0 := G.length) (fun mm σ H' => ∃ (bt rest : List Lt) (js2 : List Nat), σ = [some (.ref l), some (.ref m), some (.ref w), some (.int (k : Int)), some (.ref g), some (.ref b)] ∧ mm = rest.length ∧ G = bt ++ rest ∧ (∀ p ∈ bt, p.1 = rk.1 + 1) ∧
          Same H H' ∧ Keeps K T.C_Node H2 H' ∧ H' m = some (.lst M) ∧ H' w = some (.lst (js2.reverse.map fun (j : Nat) => V.int j)) ∧ H' b = some (.lst (bt.map fun p => V.ref p.2.at)) ∧
          Paired (fun (j : Nat) (p : Lt) => (∃ d, rows[j]? = some (p.1, d)) ∧ M[j]? = some (.ref p.2.at)) js2 rest)
        (fun σ H' => ∃ (bt rest : List Lt) (js2 : List Nat), σ = [some (.ref l), some (.ref m), some (.ref w), some (.int (k : Int)), some (.ref g), some (.ref b)] ∧ G = bt ++ rest ∧ (∀ p ∈ bt, p.1 = rk.1 + 1) ∧ (∀ x, rest.head? = some x → ¬ x.1 = rk.1 + 1) ∧
          Same H H' ∧ Keeps K T.C_Node H2 H' ∧ H' m = some (.lst M) ∧ H' w = some (.lst (js2.reverse.map fun (j : Nat) => V.int j)) ∧ H' b = some (.lst (bt.map fun p => V.ref p.2.at)) ∧
          Paired (fun (j : Nat) (p : Lt) => (∃ d, rows[j]? = some (p.1, d)) ∧ M[j]? = some (.ref p.2.at)) js2 rest)
        ⟨[], G, js, rfl, rfl, rfl, fun p hp => absurd hp List.not_mem_nil, S.same.trans sb, Keeps.of sb, sb _ _ hm2, sb _ _ S.hw, upd_same, pr0⟩ ?_ ?_
      · rintro mm σ H3 ⟨bt, rest, js2, rfl, rfl, eG, hbt, sm3, kp3, hm3, hw3, hb3, pr3⟩
        have hl3 := sm3 _ _ hl
        have hg3 := sm3 _ _ hg0
        have lpr := paired_len pr3
        have lj2 : js2.length ≤ js.length := by
          have e1 := paired_len pr0
          rw [eG, List.length_append] at e1
          omega
        have hk0 : atI (rwV rk) 0 = some (.int rk.1) := rfl
        cases rest with
        | nil =>
          obtain rfl : js2 = [] := List.eq_nil_of_length_eq_zero (by rw [lpr]; rfl)
          refine ⟨false, fun Q hQ => ?_, fun z => (by cases z), fun _ => ?_⟩
          · exact ⟨_, rfl, false, .inl ⟨_, SqL.of hw3, rfl⟩, iteF hQ⟩
          · exact ⟨bt, [], [], rfl, eG, hbt, fun x hx => (by cases hx), sm3, kp3, hm3, hw3, hb3, .nil⟩
        | cons pt rest =>
          obtain ⟨j, js2, rfl⟩ : ∃ j js', js2 = j :: js' := by
            cases js2 with
            | nil => cases lpr
            | cons j js' => exact ⟨j, js', rfl⟩
          obtain ⟨⟨d, hrj⟩, hMj⟩ : (∃ d, rows[j]? = some (pt.1, d)) ∧ M[j]? = some (.ref pt.2.at) := by
            cases pr3 with
            | cons h t => exact h
          obtain ⟨xj, hxj, gj, rfl, hgj0⟩ := paired_get hu hrj
          have hgj := sm3 _ _ hgj0
          have wl : ((j :: js2).reverse.map fun (j : Nat) => V.int j).length = js2.length + 1 := by
            rw [List.length_map, List.length_reverse, List.length_cons]
          have wlast : atI ((j :: js2).reverse.map fun (j : Nat) => V.int j) ((js2.length + 1 : Nat) - 1 : Int) = some (.int (j : Int)) := by
            rw [show ((js2.length + 1 : Nat) : Int) - 1 = (js2.length : Int) by omega]
            refine atI_nat ?_
            rw [List.getElem?_map, List.reverse_cons, List.getElem?_append_right (by rw [List.length_reverse]; exact Nat.le_refl _), List.length_reverse, Nat.sub_self]
            rfl
          refine ⟨decide (pt.1 = rk.1 + 1), fun Q hQ => ?_, fun c => ?_, fun c => ?_⟩
          · refine ⟨_, rfl, true, .inl ⟨_, SqL.of hw3, ?_⟩, iteT ?_⟩
            · rw [List.reverse_cons, List.map_append]
              simp
            refine ⟨_, rfl, _, rfl, _, rfl, w, _, rfl, .inl (SqL.of hw3), ?_⟩
            rw [wl]
            refine ⟨_, _, rfl, rfl, w, _, _, _, rfl, rfl, SqL.of hw3, wlast, l, us, _, _, rfl, rfl, SqL.of hl3, atI_nat hxj, gj, _, 0, .int pt.1, rfl, rfl, SqT.of hgj, rfl, ?_⟩
            refine ⟨_, rfl, g, _, 0, .int rk.1, rfl, rfl, SqT.of hg3, rfl, _, _, rfl, rfl, rfl, ?_⟩
            have e : decide (V.int pt.1 = (fun i j : Int => V.int (i + j)) rk.1 1) = decide (pt.1 = rk.1 + 1) := decide_eq_decide.mpr ⟨fun h => by injection h, fun h => by rw [h]⟩
            refine ⟨_, rfl, ?_⟩
            rw [e]
            exact hQ
          · have c := of_decide_eq_true c
            have bl : bt.length + (pt :: rest).length = G.length := by rw [eG, List.length_append]
            have lG := paired_len pr0
            have b1 : (bt.map fun p => V.ref p.2.at).length ≤ 5000 := by
              rw [List.length_map]
              omega
            have wrev : ((j :: js2).reverse.map fun (j : Nat) => V.int j) = (js2.reverse.map fun (j : Nat) => V.int j) ++ [V.int j] := by
              rw [List.reverse_cons, List.map_append]
              rfl
            have hb3' := hb3
            rw [wrev] at hw3
            have gl : ((js2.reverse.map fun (j : Nat) => V.int j) ++ [V.int (j : Int)])[((js2.reverse.map fun (j : Nat) => V.int j) ++ [V.int (j : Int)]).length - 1]? = some (V.int (j : Int)) := by
              rw [List.length_append, List.length_singleton, Nat.add_sub_cancel, List.getElem?_append_right (Nat.le_refl _), Nat.sub_self]
              rfl
            refine ⟨_, rfl, .inl ⟨rfl, _, SqL.of hb3⟩, _, rfl, _, rfl, .inl ⟨rfl, _, SqL.of hw3⟩, w, _, .int (j : Int), rfl, rfl, hw3, gl, ?_⟩
            rw [List.dropLast_concat]
            have hm4 : (upd H3 w (.lst (js2.reverse.map fun (j : Nat) => V.int j))) m = some (.lst M) := by rw [upd_ne hmw]; exact hm3
            have hb4 : (upd H3 w (.lst (js2.reverse.map fun (j : Nat) => V.int j))) b = some (.lst (bt.map fun p => V.ref p.2.at)) := by rw [upd_ne hwb.symm]; exact hb3
            refine ⟨m, M, _, _, rfl, rfl, SqL.of hm4, atI_nat hMj, b, _, _, rfl, rfl, hb4, sz2 (by omega), ?_⟩
            refine ⟨rest.length, Nat.lt_succ_self _, bt ++ [pt], rest, js2, rfl, rfl, by rw [eG, List.append_assoc]; rfl, fun p hp => ?_, same_mut (same_mut sm3 nw0) nb0, kp3.trans ((Keeps.lst hw3).trans (Keeps.lst hb4)), ?_, ?_, ?_, ?_⟩
            · rcases List.mem_append.mp hp with h | h
              · exact hbt p h
              · rw [List.mem_singleton.mp h]
                exact c
            · rw [upd_ne hmb]
              exact hm4
            · rw [upd_ne hwb]
              exact upd_same
            · rw [upd_same, List.map_append]
              rfl
            · cases pr3 with
              | cons h t => exact t
          · exact ⟨bt, pt :: rest, j :: js2, rfl, eG, hbt, fun x hx => by obtain rfl : pt = x := Option.some.inj hx; exact of_decide_eq_false c, sm3, kp3, hm3, hw3, hb3, pr3⟩
      · rintro σ H3 ⟨bt, rest, js2, rfl, eG, hbt, hrest, sm3, kp3, hm3, hw3, hb3, pr3⟩
        have lpr := paired_len pr3
        have l2 : js2.length ≤ 5000 := by
          have e1 := paired_len pr0
          rw [eG, List.length_append] at e1
          omega
        obtain ⟨lk, d⟩ := rk
        refine ⟨_, rfl, .inl ⟨rfl, _, SqL.of hw3⟩, _, rfl, w, _, _, rfl, rfl, hw3, sz2 (by rw [List.length_map, List.length_reverse]; omega), ?_⟩
        have wk : ((js2.reverse.map fun (j : Nat) => V.int j) ++ [V.int (k : Int)]) = ((k :: js2).reverse.map fun (j : Nat) => V.int j) := by
          rw [List.reverse_cons, List.map_append]
          rfl
        rw [wk]
        obtain ⟨H4, hH4⟩ : ∃ H4, H4 = upd H3 w (.lst ((k :: js2).reverse.map fun (j : Nat) => V.int j)) := ⟨_, rfl⟩
        rw [← hH4]
        have hm4 : H4 m = some (.lst M) := by rw [hH4, upd_ne hmw]; exact hm3
        have hw4 : H4 w = some (.lst ((k :: js2).reverse.map fun (j : Nat) => V.int j)) := by rw [hH4]; exact upd_same
        have hb4 : H4 b = some (.lst (bt.map fun p => V.ref p.2.at)) := by rw [hH4, upd_ne hwb.symm]; exact hb3
        have sm4 : Same H H4 := by rw [hH4]; exact same_mut sm3 nw0
        have kp4 : Keeps K T.C_Node H2 H4 := by rw [hH4]; exact kp3.trans (Keeps.lst hw3)
        have hg4 := sm4 _ _ hg0
        have at_ : ∀ (n : Nat) (v : V), (rwV (lk, d))[n]? = some v → atI (rwV (lk, d)) (n : Int) = some v := fun n v h => atI_nat h
        have tail : ∀ (x : Addr) (H5 : Hp), Same H4 H5 → NodeAt K T.C_Node H5 (.mk x d (bt.map Prod.snd)) → MadeSt K T.C_Node rows H m w (i + 1) (x :: as) (k :: js2) (upd H5 m (.lst (M.set k (.ref x)))) := fun x H5 s5 nx => by
          have hm5 := s5 _ _ hm4
          have kp5 : Keeps K T.C_Node H2 (upd H5 m (.lst (M.set k (.ref x)))) := kp4.trans ((Keeps.of s5).trans (Keeps.lst hm5))
          have edrop : rows.drop (rows.length - (i + 1)) = (lk, d) :: rows.drop (rows.length - i) := by
            rw [show rows.length - (i + 1) = k by omega, show rows.length - i = k + 1 by omega]
            exact drop_at hrk
          have eras : rasOf (rows.drop (rows.length - (i + 1))) (x :: as) = (lk, d, x) :: rasOf (rows.drop (rows.length - i)) as := by
            rw [edrop]
            rfl
          have tw := take_while_is (f := fun p : Lt => p.1 == lk + 1) (a := bt) (b := rest) (fun p hp => by simpa using hbt p hp) (fun p hp => by simpa using hrest p hp)
          have eg : grow (rasOf (rows.drop (rows.length - (i + 1))) (x :: as)) = (lk, .mk x d (bt.map Prod.snd)) :: rest := by
            rw [eras]
            show (lk, Tr.mk x d (((grow (rasOf (rows.drop (rows.length - i)) as)).takeWhile fun p => p.1 == lk + 1).map Prod.snd)) :: ((grow (rasOf (rows.drop (rows.length - i)) as)).dropWhile fun p => p.1 == lk + 1) = _
            rw [← hG, eG, tw.1, tw.2]
          have eM : M.set k (.ref x) = List.replicate (rows.length - (i + 1)) V.non ++ (x :: as).map V.ref := by
            rw [hM, show rows.length - i = k + 1 by omega, show rows.length - (i + 1) = k by omega]
            exact set_rep k _ []
          have Mk : M[k]? = some V.non := by
            rw [hM, show rows.length - i = k + 1 by omega, List.getElem?_append_left (by rw [List.length_replicate]; omega), List.getElem?_replicate, if_pos (Nat.lt_succ_self _)]
          have lM : k < M.length := by
            rw [List.getElem?_eq_some_iff] at Mk
            exact Mk.1
          refine ⟨same_mut (sm4.trans s5) nm0, by rw [List.length_cons, S.len], by rw [upd_same, eM], by rw [upd_ne hmw.symm]; exact s5 _ _ hw4, ?_, ?_⟩
          · rw [eg, ← eM]
            refine .cons ⟨⟨d, hrk⟩, ?_⟩ (Paired.mapP pr3 fun j p h => ⟨h.1, ?_⟩)
            · rw [List.getElem?_set_self lM]
              rfl
            · rw [List.getElem?_set_ne]
              · exact h.2
              · rintro rfl
                have := h.2
                rw [Mk] at this
                cases this
          · rw [eg]
            intro p hp
            rcases List.mem_cons.mp hp with rfl | hp
            · exact nx.keep (Keeps.lst hm5)
            · exact (nd0 p (by rw [eG]; exact List.mem_append_right _ hp)).keep kp5
        have ixM : ixN M.length (k : Int) = some k := by
          have lM : M.length = rows.length := by
            rw [hM, List.length_append, List.length_replicate, List.length_map, S.len]
            omega
          unfold ixN
          rw [if_pos (by omega), if_pos (by omega)]
          rfl
        refine d_if (v := .non) ?_
        refine if_2 (fun H' => H' = H4) (d.alt = -1 ∧ d.pop = 0 ∧ bt = [] ∧ k % 2 = 0) (fun Qb qb => ?_) (fun c H' e => ?_) (fun c H' e => ?_)
        · have ff : ∀ {A : Prop}, ¬ A → ((false = true) ↔ A) := fun n => ⟨fun z => (by cases z), fun a => absurd a n⟩
          refine ⟨_, rfl, _, _, rfl, rfl, by show (0 : Int) < 2; decide, rfl, _, rfl, ite2 (fun c1 => ?_) (fun c1 => qb false _ rfl (ff fun h => c1 (decide_eq_true (congrArg V.int (show (k : Int) % 2 = 0 by omega)))))⟩
          have c1' : V.int ((k : Int) % 2) = V.int 0 := of_decide_eq_true c1
          injection c1' with c1'
          refine ⟨_, rfl, g, _, 7, _, rfl, rfl, SqT.of hg4, at_ 7 _ rfl, 1, rfl, rfl, _, rfl, ite2 (fun c2 => ?_) (fun c2 => qb false _ rfl (ff fun h => c2 (decide_eq_true (congrArg V.int h.1))))⟩
          have c2' : V.int d.alt = V.int (-1) := of_decide_eq_true c2
          injection c2' with c2'
          refine ⟨_, rfl, g, _, 8, _, rfl, rfl, SqT.of hg4, at_ 8 _ rfl, rfl, _, rfl, ite2 (fun c3 => ?_) (fun c3 => qb false _ rfl (ff fun h => c3 (decide_eq_true (congrArg V.int h.2.1))))⟩
          have c3' : V.int d.pop = V.int 0 := of_decide_eq_true c3
          injection c3' with c3'
          refine ⟨_, rfl, _, .inl ⟨_, SqL.of hb4, rfl⟩, qb _ _ rfl ?_⟩
          cases bt with
          | nil => exact ⟨fun _ => ⟨c2', c3', rfl, by omega⟩, fun _ => rfl⟩
          | cons x bt => exact ⟨fun z => (by cases z), fun h => absurd h.2.2.1 (by simp)⟩
        · cases e
          obtain ⟨ca, cp, rfl, _⟩ := c
          refine ⟨_, rfl, g, _, 1, _, rfl, rfl, SqT.of hg4, at_ 1 _ rfl, _, rfl, g, _, 2, _, rfl, rfl, SqT.of hg4, at_ 2 _ rfl, _, rfl, g, _, 3, _, rfl, rfl, SqT.of hg4, at_ 3 _ rfl, _, rfl, g, _, 4, _, rfl, rfl, SqT.of hg4, at_ 4 _ rfl, _, rfl, g, _, 5, _, rfl, rfl, SqT.of hg4, at_ 5 _ rfl, _, rfl, g, _, 6, _, rfl, rfl, SqT.of hg4, at_ 6 _ rfl, rfl, rfl, fun x dx nx ndx hne => ?_⟩
          obtain ⟨oc, n0, sl, ht0⟩ := T.t0_Node
          have sq : ∀ H', SqT K H' T.T0_Node [] := fun H' => .inr ⟨_, #[], n0, ht0, rfl, rfl, Nat.zero_le _, .nil⟩
          refine ⟨x, dx, T.T0_Node, d, [], upd_same, by rw [ca, cp]; rfl, .inl ⟨sq _, rfl, ?_⟩⟩
          have s5 : Same H4 (upd (upd H4 dx (.own x)) x (.ins T.C_Node dx (nfl d T.T0_Node))) := (same_upd ndx).trans (same_upd (by rw [upd_ne hne.symm]; exact nx))
          have hm5 := s5 _ _ hm4
          rw [upd_upd]
          refine ⟨_, rfl, _, rfl, m, M, _, k, rfl, rfl, hm5, ixM, ?_⟩
          exact ⟨by omega, _, _, _, _, _, rfl, tail x _ s5 ⟨⟨dx, T.T0_Node, upd_same, sq _⟩, True.intro⟩⟩
        · cases e
          refine ⟨_, rfl, b, _, rfl, .inl ⟨SqL.of hb4, fun tp ntp => ?_⟩⟩
          have st := same_upd (o := .tup (bt.map fun p => V.ref p.2.at)) ntp
          have hg5 := st _ _ hg4
          refine ⟨_, rfl, g, _, 1, _, rfl, rfl, SqT.of hg5, at_ 1 _ rfl, _, rfl, g, _, 2, _, rfl, rfl, SqT.of hg5, at_ 2 _ rfl, _, rfl, g, _, 3, _, rfl, rfl, SqT.of hg5, at_ 3 _ rfl, _, rfl, g, _, 4, _, rfl, rfl, SqT.of hg5, at_ 4 _ rfl, _, rfl, g, _, 5, _, rfl, rfl, SqT.of hg5, at_ 5 _ rfl, _, rfl, g, _, 6, _, rfl, rfl, SqT.of hg5, at_ 6 _ rfl, _, rfl, g, _, 7, _, rfl, rfl, SqT.of hg5, at_ 7 _ rfl, _, rfl, _, rfl, g, _, 8, _, rfl, rfl, SqT.of hg5, at_ 8 _ rfl, rfl, rfl, fun x dx nx ndx hne => ?_⟩
          have s4 : Same (upd H4 tp (.tup (bt.map fun p => V.ref p.2.at))) (upd (upd (upd H4 tp (.tup (bt.map fun p => V.ref p.2.at))) dx (.own x)) x (.ins T.C_Node dx [])) := (same_upd ndx).trans (same_upd (by rw [upd_ne hne.symm]; exact nx))
          have s5 : Same H4 (upd (upd (upd H4 tp (.tup (bt.map fun p => V.ref p.2.at))) dx (.own x)) x (.ins T.C_Node dx (nfl d tp))) := st.trans ((same_upd (o := .own x) ndx).trans (same_upd (by rw [upd_ne hne.symm]; exact nx)))
          have htp : (upd H4 tp (.tup (bt.map fun p => V.ref p.2.at))) tp = some (.tup (bt.map fun p => V.ref p.2.at)) := upd_same
          refine ⟨x, dx, tp, d, _, upd_same, rfl, .inl ⟨SqT.of (s4 _ _ htp), rfl, ?_⟩⟩
          have hm5 := s5 _ _ hm4
          rw [upd_upd]
          refine ⟨_, rfl, _, rfl, m, M, _, k, rfl, rfl, hm5, ixM, ?_⟩
          refine ⟨by omega, _, _, _, _, _, rfl, tail x _ s5 ⟨⟨dx, tp, upd_same, ?_⟩, ?_⟩⟩
          · rw [List.map_map]
            refine SqT.of ?_
            have e1 := ((same_upd (o := .own x) ndx).trans (same_upd (o := .ins T.C_Node dx (nfl d tp)) (by rw [upd_ne hne.symm]; exact nx))) _ _ htp
            exact e1
          · refine NodesAt.of fun t ht => ?_
            obtain ⟨p, hp, rfl⟩ := List.mem_map.mp ht
            exact (nd0 p (by rw [eG]; exact List.mem_append_left _ hp)).keep (kp4.trans (Keeps.of s5))
    · rintro σ H1 ⟨_, as, js, y3, y4, y5, rfl, S⟩
      have hm9 := S.hm
      have nd9 := S.nd
      rw [Nat.sub_self, List.replicate_zero, List.nil_append] at hm9
      rw [Nat.sub_self, List.drop_zero] at nd9
      have lras : (rasOf rows as).map Prod.fst = rows.map Prod.fst := by
        unfold rasOf
        rw [List.map_map]
        have key : ∀ (rs : List Rw) (bs : List Addr), rs.length ≤ bs.length → (rs.zip bs).map (Prod.fst ∘ fun x : Rw × Addr => ((x.1.1, x.1.2, x.2) : Ra)) = rs.map Prod.fst := fun rs => by
          induction rs with
          | nil => exact fun _ _ => rfl
          | cons r rs ih =>
            intro bs hb
            cases bs with
            | nil => exact absurd hb (by simp)
            | cons b bs =>
              exact congrArg (r.1 :: ·) (ih bs (by simpa using hb))
        exact key rows as (by rw [S.len]; exact Nat.le_refl _)
      obtain ⟨ls, e0, h1, h2⟩ := lev
      obtain ⟨r0, rs0, er⟩ : ∃ r rs, rasOf rows as = r :: rs := by
        cases h : rasOf rows as with
        | nil =>
          rw [h, e0] at lras
          cases lras
        | cons r rs => exact ⟨r, rs, rfl⟩
      have lras2 := lras
      rw [er, e0] at lras2
      have lras2 : r0.1 :: rs0.map Prod.fst = 0 :: ls := lras2
      injection lras2 with k1 k2
      obtain ⟨t, ht⟩ := grow_one (r := r0) (rs := rs0) (by show Lad (r0.1 :: rs0.map Prod.fst); rw [k1, k2, ← e0]; exact h2) k1 (fun x hx => h1 _ (by rw [← k2]; exact List.mem_map_of_mem hx))
      rw [← er] at ht
      have fl := grow_flat (rasOf rows as)
      rw [ht] at fl nd9
      have ft : t.ras 0 = rasOf rows as := by
        rw [← fl]
        show _ = t.ras 0 ++ []
        rw [List.append_nil]
      exact ⟨_, rfl, q m as t H1 S.same nm0 hm9 S.len ft (nd9 _ List.mem_cons_self)⟩

/-! ### Grammar(.., k = v, ..) -/
theorem kwd_all5 {K : PySem.W.Frag} {D : Addr} {a b c d e : Str × V} (ha : ∃ u, PySem.W.nsIn K D a.1 = some (some u) ∧ RelV a.2 u) (hb : ∃ u, PySem.W.nsIn K D b.1 = some (some u) ∧ RelV b.2 u) (hc : ∃ u, PySem.W.nsIn K D c.1 = some (some u) ∧ RelV c.2 u)
    (hd : ∃ u, PySem.W.nsIn K D d.1 = some (some u) ∧ RelV d.2 u) (he : ∃ u, PySem.W.nsIn K D e.1 = some (some u) ∧ RelV e.2 u) : ∀ q ∈ [a, b, c, d, e], ∃ u, PySem.W.nsIn K D q.1 = some (some u) ∧ RelV q.2 u := fun q hq => by
  rcases List.mem_cons.mp hq with rfl | hq
  · exact ha
  rcases List.mem_cons.mp hq with rfl | hq
  · exact hb
  exact kwd_all3 hc hd he q hq
abbrev psG : List Str := ["self", "name", "kinds", "rules", "alternatives", "skip", "hidden", "recover", "inner", "steps"]
theorem kb_Grammar6 (T : Txt K mg) : ∃ mv, KBn K T.fd_Grammar_init psG 2 ["kinds", "rules", "alternatives", "skip", "hidden", "recover"] (fun us ws => us ++ ws ++ mv) (fun vs zs => vs ++ zs ++ [.ref T.T0_Grammar_inner, .ref T.T0_Grammar_steps]) :=
  T.FD_Grammar_init.kbinds0 2 ["kinds", "rules", "alternatives", "skip", "hidden", "recover"] [("inner", .ref T.T0_Grammar_inner), ("steps", .ref T.T0_Grammar_steps)] (fun a b c => a ++ c ++ b) (List.cons_ne_nil _ _) (fun q h => by
    rcases List.mem_cons.mp h with rfl | h
    · exact List.mem_cons_of_mem _ (List.mem_cons_of_mem _ (List.mem_cons_of_mem _ List.mem_cons_self))
    · rw [List.mem_singleton.mp h]
      exact List.mem_cons_of_mem _ (List.mem_cons_of_mem _ (List.mem_cons_of_mem _ (List.mem_cons_of_mem _ List.mem_cons_self)))) (fun r1 r2 r3 => (r1.append r3).append r2) fun D doc pm an cdv ct us mv ws l1 l2 l3 => by
    match us, l1, mv, l2, ws, l3 with
    | [u1, u2], _, [m1, m2], _, [w1, w2, w3, w4, w5, w6], _ => exact ⟨_, _, _, _, _, _, rfl, rfl, _, _, _, _, _, _, rfl, rfl, rfl⟩

/-! ### leaves -/
def leafB (d : Nd) : Bool := decide (d.alt = -1) && (!decide (d.kind = "error") && !decide (d.kind = "root"))
theorem decI (i j : Int) : decide (V.int i = V.int j) = decide (i = j) := decide_eq_decide.mpr ⟨fun e => by injection e, fun e => by rw [e]⟩
theorem decS (x y : Str) : decide (V.str x = V.str y) = decide (x = y) := decide_eq_decide.mpr ⟨fun e => by injection e, fun e => by rw [e]⟩
def spRowB (K : PySem.W.Frag) : Sp := fun vs H Q _ => ∃ (g : Addr) (lv : Int) (d : Nd), vs = [.ref g] ∧ SqT K H g (rwV (lv, d)) ∧ Q (.bl (leafB d)) H
theorem ok_is_leafL (T : Txt K mg) : FnOk P w K mg base CX0 1 T.a_law_is_leaf T.fd_law_is_leaf ["row"] (spRowB K) := by
  refine T.F_law_is_leaf.ok sc_law_is_leaf (fun vs H Q E h => ?_) (fun cdv A outer s H vs Q E hr h => ?_)
  · obtain ⟨g, lv, d, rfl, _⟩ := h
    rfl
  · obtain ⟨g, lv, d, rfl, hg, q⟩ := h
    refine ⟨_, (pss_one (ps_ret (pe_and (pe_cmpR op_eq (pe_ix ix_tup (pv 0) pe_int (fun _ _ => rfl)) (pe_un un_neg pe_int) (nomark _)) (pe_and (pe_cmpR op_ne (pe_ix ix_tup (pv 0) pe_int (fun _ _ => rfl)) pe_str (nomark _)) (pe_one (pe_cmpR op_ne (pe_ix ix_tup (pv 0) pe_int (fun _ _ => rfl)) pe_str (nomark _))))))), ?_⟩
    have at_ : ∀ (n : Nat) (v : V), (rwV (lv, d))[n]? = some v → atI (rwV (lv, d)) (n : Int) = some v := fun n v h => atI_nat h
    refine ⟨_, rfl, g, _, 7, _, rfl, rfl, hg, at_ 7 _ rfl, 1, rfl, rfl, _, rfl, ?_⟩
    unfold leafB at q
    rw [← decI] at q
    cases hc : decide (V.int d.alt = V.int (-1)) with
    | false =>
      rw [hc] at q
      exact iteF q
    | true =>
      rw [hc] at q
      refine iteT ⟨_, rfl, g, _, 1, _, rfl, rfl, hg, at_ 1 _ rfl, rfl, _, rfl, ?_⟩
      rw [decS]
      cases hk : decide (d.kind = "error") with
      | true =>
        rw [hk] at q
        exact iteF q
      | false =>
        rw [hk] at q
        refine iteT ⟨_, rfl, g, _, 1, _, rfl, rfl, hg, at_ 1 _ rfl, rfl, ?_⟩
        rw [decS]
        exact q

def sumZ : List Int → Int
  | [] => 0
  | x :: xs => x + sumZ xs
theorem sumZ_app : ∀ xs ys : List Int, sumZ (xs ++ ys) = sumZ xs + sumZ ys
  | [], ys => (Int.zero_add _).symm
  | x :: xs, ys => by
    show x + sumZ (xs ++ ys) = x + sumZ xs + sumZ ys
    rw [sumZ_app xs ys]
    omega
def wids (ks : List Tr) : List Int := ks.map fun t => t.d.wid
mutual
/-- leaves have no children; other nodes are as wide as their children together -/
def WOk : Tr → Prop
  | .mk _ d ks => (leafB d = false → d.wid = sumZ (wids ks)) ∧ (leafB d = true → ks = [] ∧ 0 ≤ d.wid) ∧ WOks ks
def WOks : List Tr → Prop
  | [] => True
  | t :: ts => WOk t ∧ WOks ts
end
theorem WOks.of : ∀ {ts : List Tr}, (∀ t ∈ ts, WOk t) → WOks ts
  | [], _ => True.intro
  | _ :: _, h => ⟨h _ List.mem_cons_self, WOks.of fun t ht => h t (List.mem_cons_of_mem _ ht)⟩
theorem WOks.mem : ∀ {ts : List Tr} {t : Tr}, WOks ts → t ∈ ts → WOk t
  | _ :: _, _, ⟨h1, h2⟩, hm => by
    rcases List.mem_cons.mp hm with rfl | hm
    · exact h1
    · exact WOks.mem h2 hm
mutual
theorem WOk.nn : ∀ {t : Tr}, WOk t → 0 ≤ t.d.wid
  | .mk _ d ks, ⟨h1, h2, h3⟩ => by
    show 0 ≤ d.wid
    cases hb : leafB d with
    | true => exact (h2 hb).2
    | false =>
      rw [h1 hb]
      exact WOks.nn h3
theorem WOks.nn : ∀ {ts : List Tr}, WOks ts → 0 ≤ sumZ (wids ts)
  | [], _ => Int.le_refl _
  | t :: ts, ⟨h1, h2⟩ => by
    have a := WOk.nn h1
    have b := WOks.nn h2
    show 0 ≤ t.d.wid + sumZ (wids ts)
    omega
end

/-! ### the nodes of a tree with their paths and places -/
abbrev Spot := List Nat × Int × Tr
mutual
def Tr.spots (pl : Int) : Tr → List Spot
  | .mk p d ks => ([], pl, .mk p d ks) :: spotsL pl 0 ks
def spotsL (pl : Int) (i : Nat) : List Tr → List Spot
  | [] => []
  | t :: ts => (t.spots pl).map (fun x => (i :: x.1, x.2)) ++ spotsL (pl + t.d.wid) (i + 1) ts
end
/-- where a path leads -/
def follow : Tr → Int → List Nat → Option (Int × Tr)
  | t, pl, [] => some (pl, t)
  | t, pl, i :: l => match t.ks[i]? with
    | none => none
    | some c => follow c (pl + sumZ (wids (t.ks.take i))) l
mutual
theorem spots_follow {x : Spot} : ∀ {t : Tr} {pl : Int}, x ∈ t.spots pl → follow t pl x.1 = some x.2
  | .mk p d ks, pl, h => by
    rcases List.mem_cons.mp h with rfl | h
    · rfl
    · obtain ⟨j, c, l, e1, e2, e3⟩ := spotsL_follow (ts := ks) (pl := pl) (i := 0) h
      rw [e1]
      show (match ks[0 + j]? with | none => none | some c => follow c (pl + sumZ (wids (ks.take (0 + j)))) l) = _
      rw [Nat.zero_add, e2]
      exact e3
theorem spotsL_follow {x : Spot} : ∀ {ts : List Tr} {pl : Int} {i : Nat}, x ∈ spotsL pl i ts → ∃ j c l, x.1 = (i + j) :: l ∧ ts[j]? = some c ∧ follow c (pl + sumZ (wids (ts.take j))) l = some x.2
  | [], _, _, h => absurd h List.not_mem_nil
  | t :: ts, pl, i, h => by
    rcases List.mem_append.mp h with h | h
    · obtain ⟨y, hy, rfl⟩ := List.mem_map.mp h
      exact ⟨0, t, y.1, rfl, rfl, by rw [show pl + sumZ (wids ((t :: ts).take 0)) = pl from Int.add_zero pl]; exact spots_follow hy⟩
    · obtain ⟨j, c, l, e1, e2, e3⟩ := spotsL_follow h
      refine ⟨j + 1, c, l, by rw [e1]; exact congrArg (· :: l) (by omega), e2, ?_⟩
      rw [show pl + sumZ (wids ((t :: ts).take (j + 1))) = pl + t.d.wid + sumZ (wids (ts.take j)) from (Int.add_assoc _ _ _).symm]
      exact e3
end
/-- what tells a spot's row: its level, node, address -/
def spR (l : Int) (x : Spot) : Ra := (l + x.1.length, x.2.2.d, x.2.2.at)
mutual
theorem spots_ras : ∀ (t : Tr) (pl l : Int), (t.spots pl).map (spR l) = t.ras l
  | .mk p d ks, pl, l => by
    show spR l ([], pl, .mk p d ks) :: (spotsL pl 0 ks).map (spR l) = (l, d, p) :: rasL (l + 1) ks
    rw [spotsL_ras ks pl 0 l]
    have : spR l ([], pl, .mk p d ks) = (l, d, p) := by
      show (l + ((0 : Nat) : Int), d, p) = _
      rw [Int.ofNat_zero, Int.add_zero]
    rw [this]
theorem spotsL_ras : ∀ (ts : List Tr) (pl : Int) (i : Nat) (l : Int), (spotsL pl i ts).map (spR l) = rasL (l + 1) ts
  | [], _, _, _ => rfl
  | t :: ts, pl, i, l => by
    show ((t.spots pl).map (fun x => ((i :: x.1, x.2) : Spot)) ++ spotsL (pl + t.d.wid) (i + 1) ts).map (spR l) = t.ras (l + 1) ++ rasL (l + 1) ts
    rw [List.map_append, List.map_map, spotsL_ras ts _ _ l, ← spots_ras t pl (l + 1)]
    congr 1
    refine List.map_congr_left fun x _ => ?_
    show (l + ((x.1.length + 1 : Nat) : Int), _, _) = (l + 1 + (x.1.length : Int), _, _)
    rw [show l + ((x.1.length + 1 : Nat) : Int) = l + 1 + (x.1.length : Int) by omega]
end
/-- widths of leaves, added up -/
def leafW (d : Nd) : Int := if leafB d = true then d.wid else 0
def leafSum (xs : List Spot) : Int := sumZ (xs.map fun x => leafW x.2.2.d)
theorem leafSum_app (xs ys : List Spot) : leafSum (xs ++ ys) = leafSum xs + leafSum ys := by
  unfold leafSum
  rw [List.map_append, sumZ_app]
theorem leafSum_map (xs : List Spot) (i : Nat) : leafSum (xs.map fun x => ((i :: x.1, x.2) : Spot)) = leafSum xs := by
  unfold leafSum
  rw [List.map_map]
  rfl
mutual
theorem spots_sum : ∀ {t : Tr} (pl : Int), WOk t → leafSum (t.spots pl) = t.d.wid
  | .mk p d ks, pl, h => by
    obtain ⟨h1, h2, h3⟩ := h
    show leafW d + leafSum (spotsL pl 0 ks) = d.wid
    rw [spotsL_sum pl 0 h3]
    unfold leafW
    cases hb : leafB d with
    | true =>
      rw [(h2 hb).1]
      show d.wid + 0 = _
      rw [Int.add_zero]
    | false =>
      rw [h1 hb]
      show 0 + _ = _
      rw [Int.zero_add]
theorem spotsL_sum : ∀ {ts : List Tr} (pl : Int) (i : Nat), WOks ts → leafSum (spotsL pl i ts) = sumZ (wids ts)
  | [], _, _, _ => rfl
  | t :: ts, pl, i, h => by
    show leafSum ((t.spots pl).map (fun x => ((i :: x.1, x.2) : Spot)) ++ spotsL (pl + t.d.wid) (i + 1) ts) = t.d.wid + sumZ (wids ts)
    rw [leafSum_app, leafSum_map, spots_sum pl h.1, spotsL_sum _ _ h.2]
end
mutual
/-- a spot's place: behind all leaves in front of it -/
theorem spots_place {x : Spot} : ∀ {t : Tr} {pl : Int} {k : Nat}, WOk t → (t.spots pl)[k]? = some x → x.2.1 = pl + leafSum ((t.spots pl).take k)
  | .mk p d ks, pl, k, h, e => by
    obtain ⟨h1, h2, h3⟩ := h
    cases k with
    | zero =>
      obtain rfl : (([], pl, .mk p d ks) : Spot) = x := Option.some.inj e
      exact (Int.add_zero pl).symm
    | succ k =>
      have e : (spotsL pl 0 ks)[k]? = some x := e
      have ih := spotsL_place h3 e
      show x.2.1 = pl + (leafW d + leafSum ((spotsL pl 0 ks).take k))
      have hl : leafB d = false := by
        cases hb : leafB d with
        | false => rfl
        | true =>
          rw [(h2 hb).1] at e
          cases e
      unfold leafW
      rw [hl, ih]
      show _ = pl + (0 + _)
      rw [Int.zero_add]
theorem spotsL_place {x : Spot} : ∀ {ts : List Tr} {pl : Int} {i k : Nat}, WOks ts → (spotsL pl i ts)[k]? = some x → x.2.1 = pl + leafSum ((spotsL pl i ts).take k)
  | [], _, _, _, _, e => by cases e
  | t :: ts, pl, i, k, h, e => by
    have e : ((t.spots pl).map (fun x => ((i :: x.1, x.2) : Spot)) ++ spotsL (pl + t.d.wid) (i + 1) ts)[k]? = some x := e
    show x.2.1 = pl + leafSum (((t.spots pl).map (fun x => ((i :: x.1, x.2) : Spot)) ++ spotsL (pl + t.d.wid) (i + 1) ts).take k)
    by_cases hk : k < (t.spots pl).length
    · rw [List.getElem?_append_left (by rw [List.length_map]; exact hk), List.getElem?_map] at e
      cases hy : (t.spots pl)[k]? with
      | none =>
        rw [hy] at e
        cases e
      | some y =>
        rw [hy] at e
        obtain rfl : ((i :: y.1, y.2) : Spot) = x := Option.some.inj e
        have ih := spots_place h.1 hy
        rw [List.take_append_of_le_length (by rw [List.length_map]; omega), ← List.map_take, leafSum_map]
        exact ih
    · rw [List.getElem?_append_right (by rw [List.length_map]; omega), List.length_map] at e
      have ih := spotsL_place h.2 e
      have lt : ((t.spots pl).map (fun x => ((i :: x.1, x.2) : Spot))).length ≤ k := by rw [List.length_map]; omega
      rw [List.take_append, List.take_of_length_le lt, leafSum_app, leafSum_map, spots_sum pl h.1, List.length_map, ih, Int.add_assoc]
end
mutual
/-- a spot lies within its tree -/
theorem spots_in {x : Spot} : ∀ {t : Tr} {pl : Int}, WOk t → x ∈ t.spots pl → pl ≤ x.2.1 ∧ x.2.1 + x.2.2.d.wid ≤ pl + t.d.wid
  | .mk p d ks, pl, h, hx => by
    obtain ⟨h1, h2, h3⟩ := h
    rcases List.mem_cons.mp hx with rfl | hx
    · exact ⟨Int.le_refl _, Int.le_refl _⟩
    · have ih := spotsL_in h3 hx
      have hl : leafB d = false := by
        cases hb : leafB d with
        | false => rfl
        | true =>
          rw [(h2 hb).1] at hx
          cases hx
      show _ ∧ _ ≤ pl + d.wid
      rw [h1 hl]
      exact ih
theorem spotsL_in {x : Spot} : ∀ {ts : List Tr} {pl : Int} {i : Nat}, WOks ts → x ∈ spotsL pl i ts → pl ≤ x.2.1 ∧ x.2.1 + x.2.2.d.wid ≤ pl + sumZ (wids ts)
  | [], _, _, _, hx => absurd hx List.not_mem_nil
  | t :: ts, pl, i, h, hx => by
    have a := WOk.nn h.1
    have b := WOks.nn h.2
    have e : sumZ (wids (t :: ts)) = t.d.wid + sumZ (wids ts) := rfl
    rcases List.mem_append.mp hx with hx | hx
    · obtain ⟨y, hy, rfl⟩ := List.mem_map.mp hx
      have ih := spots_in h.1 hy
      show pl ≤ y.2.1 ∧ y.2.1 + y.2.2.d.wid ≤ _
      omega
    · have ih := spotsL_in h.2 hx
      omega
end
mutual
theorem spots_wok {x : Spot} : ∀ {t : Tr} {pl : Int}, WOk t → x ∈ t.spots pl → WOk x.2.2
  | .mk p d ks, pl, h, hx => by
    rcases List.mem_cons.mp hx with rfl | hx
    · exact h
    · exact spotsL_wok h.2.2 hx
theorem spotsL_wok {x : Spot} : ∀ {ts : List Tr} {pl : Int} {i : Nat}, WOks ts → x ∈ spotsL pl i ts → WOk x.2.2
  | [], _, _, _, hx => absurd hx List.not_mem_nil
  | t :: ts, pl, i, h, hx => by
    rcases List.mem_append.mp hx with hx | hx
    · obtain ⟨y, hy, rfl⟩ := List.mem_map.mp hx
      exact spots_wok (x := y) h.1 hy
    · exact spotsL_wok h.2 hx
end
/-! ### the leaf that contains a place -/
def childAt : List Tr → Nat → Int → Int × Int
  | [], _, o => (-1, o)
  | c :: cs, i, o => if o < c.d.wid then ((i : Int), o) else childAt cs (i + 1) (o - c.d.wid)
inductive Leads : Tr → Int → List Nat → Prop
  | leaf {t : Tr} {o : Int} : leafB t.d = true → Leads t o []
  | step {t c : Tr} {o o2 : Int} {i : Nat} {l : List Nat} : leafB t.d = false → childAt t.ks 0 o = ((i : Int), o2) → t.ks[i]? = some c → Leads c o2 l → Leads t o (i :: l)
mutual
theorem spots_leads {x : Spot} {o : Int} : ∀ {t : Tr} {pl : Int}, WOk t → x ∈ t.spots pl → leafB x.2.2.d = true → 0 ≤ o → o < x.2.2.d.wid → Leads t (x.2.1 - pl + o) x.1
  | .mk p d ks, pl, h, hx, hl, h0, h1 => by
    obtain ⟨w1, w2, w3⟩ := h
    rcases List.mem_cons.mp hx with rfl | hx
    · exact .leaf hl
    · obtain ⟨j, c, o2, l, e1, e2, e3, e4⟩ := spotsL_leads w3 hx hl h0 h1
      have hf : leafB d = false := by
        cases hb : leafB d with
        | false => rfl
        | true =>
          rw [(w2 hb).1] at hx
          cases hx
      rw [e1, Nat.zero_add]
      exact .step hf (by rw [Nat.zero_add] at e3; exact e3) e2 e4
theorem spotsL_leads {x : Spot} {o : Int} : ∀ {ts : List Tr} {pl : Int} {i : Nat}, WOks ts → x ∈ spotsL pl i ts → leafB x.2.2.d = true → 0 ≤ o → o < x.2.2.d.wid →
    ∃ j c o2 l, x.1 = (i + j) :: l ∧ ts[j]? = some c ∧ childAt ts i (x.2.1 - pl + o) = (((i + j : Nat) : Int), o2) ∧ Leads c o2 l
  | [], _, _, _, hx, _, _, _ => absurd hx List.not_mem_nil
  | t :: ts, pl, i, h, hx, hl, h0, h1 => by
    rcases List.mem_append.mp hx with hx | hx
    · obtain ⟨y, hy, rfl⟩ := List.mem_map.mp hx
      have hin := spots_in h.1 hy
      have h1 : o < y.2.2.d.wid := h1
      refine ⟨0, t, y.2.1 - pl + o, y.1, rfl, rfl, ?_, spots_leads h.1 hy hl h0 h1⟩
      show (if y.2.1 - pl + o < t.d.wid then ((i : Int), y.2.1 - pl + o) else _) = _
      rw [if_pos (by omega)]
      rfl
    · have hin := spotsL_in h.2 hx
      obtain ⟨j, c, o2, l, e1, e2, e3, e4⟩ := spotsL_leads h.2 hx hl h0 h1
      refine ⟨j + 1, c, o2, l, by rw [e1]; exact congrArg (· :: l) (by omega), e2, ?_, e4⟩
      show (if x.2.1 - pl + o < t.d.wid then _ else childAt ts (i + 1) (x.2.1 - pl + o - t.d.wid)) = _
      rw [if_neg (by omega), show x.2.1 - pl + o - t.d.wid = x.2.1 - (pl + t.d.wid) + o by omega, e3, show i + (j + 1) = i + 1 + j by omega]
end

/-! ### paths alone -/
mutual
def Tr.paths : Tr → List (List Nat)
  | .mk _ _ ks => [] :: pathsL 0 ks
def pathsL (i : Nat) : List Tr → List (List Nat)
  | [] => []
  | t :: ts => t.paths.map (i :: ·) ++ pathsL (i + 1) ts
end
mutual
theorem spots_paths : ∀ (t : Tr) (pl : Int), (t.spots pl).map Prod.fst = t.paths
  | .mk p d ks, pl => by
    show [] :: (spotsL pl 0 ks).map Prod.fst = [] :: pathsL 0 ks
    rw [spotsL_paths ks pl 0]
theorem spotsL_paths : ∀ (ts : List Tr) (pl : Int) (i : Nat), (spotsL pl i ts).map Prod.fst = pathsL i ts
  | [], _, _ => rfl
  | t :: ts, pl, i => by
    show ((t.spots pl).map (fun x => ((i :: x.1, x.2) : Spot)) ++ spotsL (pl + t.d.wid) (i + 1) ts).map Prod.fst = t.paths.map (i :: ·) ++ pathsL (i + 1) ts
    rw [List.map_append, spotsL_paths ts, ← spots_paths t pl, List.map_map, List.map_map]
    rfl
end
theorem pathsL_head {x : List Nat} : ∀ {ts : List Tr} {i : Nat}, x ∈ pathsL i ts → ∃ j l, x = j :: l ∧ i ≤ j
  | [], _, h => absurd h List.not_mem_nil
  | t :: ts, i, h => by
    rcases List.mem_append.mp h with h | h
    · obtain ⟨y, _, rfl⟩ := List.mem_map.mp h
      exact ⟨i, y, rfl, Nat.le_refl _⟩
    · obtain ⟨j, l, e, hj⟩ := pathsL_head h
      exact ⟨j, l, e, by omega⟩
theorem map_cons_nodup {i : Nat} : ∀ {xs : List (List Nat)}, xs.Nodup → (xs.map (i :: ·)).Nodup
  | [], _ => .nil
  | x :: xs, h => by
    rw [List.nodup_cons] at h
    show ((i :: x) :: xs.map (i :: ·)).Nodup
    rw [List.nodup_cons]
    refine ⟨fun hm => ?_, map_cons_nodup h.2⟩
    obtain ⟨y, hy, e⟩ := List.mem_map.mp hm
    injection e with _ e
    rw [e] at hy
    exact h.1 hy
mutual
theorem paths_nodup : ∀ t : Tr, t.paths.Nodup
  | .mk _ _ ks => by
    show ([] :: pathsL 0 ks).Nodup
    rw [List.nodup_cons]
    refine ⟨fun h => ?_, pathsL_nodup ks 0⟩
    obtain ⟨j, l, e, _⟩ := pathsL_head h
    cases e
theorem pathsL_nodup : ∀ (ts : List Tr) (i : Nat), (pathsL i ts).Nodup
  | [], _ => .nil
  | t :: ts, i => by
    show (t.paths.map (i :: ·) ++ pathsL (i + 1) ts).Nodup
    rw [List.nodup_append]
    refine ⟨map_cons_nodup (paths_nodup t), pathsL_nodup ts _, fun a ha b hb e => ?_⟩
    obtain ⟨y, _, rfl⟩ := List.mem_map.mp ha
    obtain ⟨j, l, e2, hj⟩ := pathsL_head hb
    rw [← e] at e2
    injection e2 with e2 _
    omega
end
theorem snoc_nil {α : Type} {l : List α} {x : α} (h : l ++ [x] = []) : False := by simp at h
theorem cons_snoc {j i : Nat} {l pi : List Nat} (h : pi ++ [i] = j :: l) : (pi = [] ∧ i = j ∧ l = []) ∨ ∃ p', pi = j :: p' ∧ l = p' ++ [i] := by
  cases pi with
  | nil =>
    injection h with h1 h2
    exact .inl ⟨rfl, h1, h2.symm⟩
  | cons a p' =>
    have h : a :: (p' ++ [i]) = j :: l := h
    injection h with h1 h2
    exact .inr ⟨p', by rw [h1], h2.symm⟩
mutual
/-- a node's parent stands in front of it, and between them only deeper ones than the parent -/
theorem paths_par : ∀ {t : Tr} {k i : Nat} {pi : List Nat}, t.paths[k]? = some (pi ++ [i]) → ∃ p, p < k ∧ t.paths[p]? = some pi ∧ ∀ m y, p < m → m < k → t.paths[m]? = some y → pi.length < y.length
  | .mk _ _ ks, 0, i, pi, h => by
    have h : some ([] : List Nat) = some (pi ++ [i]) := h
    exact (snoc_nil (Option.some.inj h).symm).elim
  | .mk _ _ ks, k + 1, i, pi, h => by
    have h : (pathsL 0 ks)[k]? = some (pi ++ [i]) := h
    rcases pathsL_par h with rfl | ⟨p, h1, h2, h3⟩
    · refine ⟨0, Nat.succ_pos _, rfl, fun m y m0 mk hy => ?_⟩
      obtain ⟨m', rfl⟩ : ∃ m', m = m' + 1 := ⟨m - 1, by omega⟩
      have hy : (pathsL 0 ks)[m']? = some y := hy
      obtain ⟨j, l, rfl, _⟩ := pathsL_head (List.mem_of_getElem? hy)
      exact Nat.succ_pos _
    · refine ⟨p + 1, by omega, h2, fun m y m0 mk hy => ?_⟩
      obtain ⟨m', rfl⟩ : ∃ m', m = m' + 1 := ⟨m - 1, by omega⟩
      exact h3 m' y (by omega) (by omega) hy
theorem pathsL_par : ∀ {ts : List Tr} {i0 k i : Nat} {pi : List Nat}, (pathsL i0 ts)[k]? = some (pi ++ [i]) → pi = [] ∨ ∃ p, p < k ∧ (pathsL i0 ts)[p]? = some pi ∧ ∀ m y, p < m → m < k → (pathsL i0 ts)[m]? = some y → pi.length < y.length
  | [], _, _, _, _, h => by cases h
  | t :: ts, i0, k, i, pi, h => by
    have h : (t.paths.map (i0 :: ·) ++ pathsL (i0 + 1) ts)[k]? = some (pi ++ [i]) := h
    show pi = [] ∨ ∃ p, p < k ∧ (t.paths.map (i0 :: ·) ++ pathsL (i0 + 1) ts)[p]? = some pi ∧ ∀ m y, p < m → m < k → (t.paths.map (i0 :: ·) ++ pathsL (i0 + 1) ts)[m]? = some y → pi.length < y.length
    by_cases hk : k < t.paths.length
    · rw [List.getElem?_append_left (by rw [List.length_map]; exact hk), List.getElem?_map] at h
      cases hy : t.paths[k]? with
      | none =>
        rw [hy] at h
        cases h
      | some z =>
        rw [hy] at h
        have h : i0 :: z = pi ++ [i] := Option.some.inj h
        rcases cons_snoc h.symm with ⟨e, _⟩ | ⟨p', rfl, rfl⟩
        · exact .inl e
        · obtain ⟨p, h1, h2, h3⟩ := paths_par hy
          refine .inr ⟨p, h1, ?_, fun m y m0 mk hy => ?_⟩
          · rw [List.getElem?_append_left (by rw [List.length_map]; omega), List.getElem?_map, h2]
            rfl
          · rw [List.getElem?_append_left (by rw [List.length_map]; omega), List.getElem?_map] at hy
            cases hz : t.paths[m]? with
            | none =>
              rw [hz] at hy
              cases hy
            | some z =>
              rw [hz] at hy
              obtain rfl : i0 :: z = y := Option.some.inj hy
              have := h3 m z m0 mk hz
              rw [List.length_cons, List.length_cons]
              omega
    · rw [List.getElem?_append_right (by rw [List.length_map]; omega), List.length_map] at h
      rcases pathsL_par h with e | ⟨p, h1, h2, h3⟩
      · exact .inl e
      · refine .inr ⟨p + t.paths.length, by omega, ?_, fun m y m0 mk hy => ?_⟩
        · rw [List.getElem?_append_right (by rw [List.length_map]; omega), List.length_map, Nat.add_sub_cancel]
          exact h2
        · rw [List.getElem?_append_right (by rw [List.length_map]; omega), List.length_map] at hy
          exact h3 (m - t.paths.length) y (by omega) (by omega) hy
end
mutual
/-- the child in front stands in front -/
theorem paths_prev : ∀ {t : Tr} {k i : Nat} {pi : List Nat}, t.paths[k]? = some (pi ++ [i + 1]) → ∃ m, m < k ∧ t.paths[m]? = some (pi ++ [i])
  | .mk _ _ ks, 0, i, pi, h => by
    have h : some ([] : List Nat) = some (pi ++ [i + 1]) := h
    exact (snoc_nil (Option.some.inj h).symm).elim
  | .mk _ _ ks, k + 1, i, pi, h => by
    have h : (pathsL 0 ks)[k]? = some (pi ++ [i + 1]) := h
    rcases pathsL_prev h with ⟨_, e⟩ | ⟨m, h1, h2⟩
    · omega
    · exact ⟨m + 1, by omega, h2⟩
theorem pathsL_prev : ∀ {ts : List Tr} {i0 k i : Nat} {pi : List Nat}, (pathsL i0 ts)[k]? = some (pi ++ [i + 1]) → (pi = [] ∧ i + 1 = i0) ∨ ∃ m, m < k ∧ (pathsL i0 ts)[m]? = some (pi ++ [i])
  | [], _, _, _, _, h => by cases h
  | t :: ts, i0, k, i, pi, h => by
    have h : (t.paths.map (i0 :: ·) ++ pathsL (i0 + 1) ts)[k]? = some (pi ++ [i + 1]) := h
    show (pi = [] ∧ i + 1 = i0) ∨ ∃ m, m < k ∧ (t.paths.map (i0 :: ·) ++ pathsL (i0 + 1) ts)[m]? = some (pi ++ [i])
    by_cases hk : k < t.paths.length
    · rw [List.getElem?_append_left (by rw [List.length_map]; exact hk), List.getElem?_map] at h
      cases hy : t.paths[k]? with
      | none =>
        rw [hy] at h
        cases h
      | some z =>
        rw [hy] at h
        have h : i0 :: z = pi ++ [i + 1] := Option.some.inj h
        rcases cons_snoc h.symm with ⟨e1, e2, _⟩ | ⟨p', rfl, rfl⟩
        · exact .inl ⟨e1, e2⟩
        · obtain ⟨m, h1, h2⟩ := paths_prev hy
          refine .inr ⟨m, h1, ?_⟩
          rw [List.getElem?_append_left (by rw [List.length_map]; omega), List.getElem?_map, h2]
          rfl
    · rw [List.getElem?_append_right (by rw [List.length_map]; omega), List.length_map] at h
      have t0 : t.paths[0]? = some [] := by cases t; rfl
      have tl : 0 < t.paths.length := (List.getElem?_eq_some_iff.mp t0).1
      rcases pathsL_prev h with ⟨e1, e2⟩ | ⟨m, h1, h2⟩
      · obtain rfl : i = i0 := by omega
        refine .inr ⟨0, by omega, ?_⟩
        rw [List.getElem?_append_left (by rw [List.length_map]; exact tl), List.getElem?_map, t0, e1]
        rfl
      · refine .inr ⟨m + t.paths.length, by omega, ?_⟩
        rw [List.getElem?_append_right (by rw [List.length_map]; omega), List.length_map, Nat.add_sub_cancel]
        exact h2
end
theorem paths_uniq {t : Tr} {a b : Nat} {x : List Nat} (ha : t.paths[a]? = some x) (hb : t.paths[b]? = some x) : a = b := by
  obtain ⟨la, ea⟩ := List.getElem?_eq_some_iff.mp ha
  obtain ⟨lb, eb⟩ := List.getElem?_eq_some_iff.mp hb
  exact (List.getElem_inj (paths_nodup t)).mp (ea.trans eb.symm)

/-! ### NoNode -/
/-! ### trees that aren't too large -/
mutual
theorem kids_le : ∀ t : Tr, t.ks.length < t.ats.length
  | .mk _ _ ks => by
    have := kidsL_le ks
    show ks.length < (atsL ks).length + 1
    omega
theorem kidsL_le : ∀ ts : List Tr, ts.length ≤ (atsL ts).length
  | [] => Nat.le_refl _
  | t :: ts => by
    have h1 := kids_le t
    have h2 := kidsL_le ts
    show ts.length + 1 ≤ (t.ats ++ atsL ts).length
    rw [List.length_append]
    omega
end
theorem kid_ats {c : Tr} : ∀ {ts : List Tr}, c ∈ ts → c.ats.length ≤ (atsL ts).length
  | [], h => absurd h List.not_mem_nil
  | t :: ts, h => by
    show _ ≤ (t.ats ++ atsL ts).length
    rw [List.length_append]
    rcases List.mem_cons.mp h with rfl | h
    · omega
    · have := kid_ats h
      omega
theorem kid_lt {c : Tr} : ∀ {t : Tr}, c ∈ t.ks → c.ats.length < t.ats.length
  | .mk _ _ ks, h => by
    have := kid_ats (ts := ks) h
    show _ < (atsL ks).length + 1
    omega
theorem follow_ats {q : Int} {s : Tr} : ∀ {l : List Nat} {t : Tr} {pl : Int}, follow t pl l = some (q, s) → s.ats.length ≤ t.ats.length
  | [], t, pl, h => by
    have h := Option.some.inj h
    injection h with _ h
    rw [h]
    exact Nat.le_refl _
  | i :: l, t, pl, h => by
    unfold follow at h
    cases hc : t.ks[i]? with
    | none =>
      rw [hc] at h
      cases h
    | some c =>
      rw [hc] at h
      have := follow_ats h
      have := kid_lt (List.mem_of_getElem? hc)
      omega
theorem follow_node {K : PySem.W.Frag} {C : Addr} {H : Hp} {q : Int} {s : Tr} : ∀ {l : List Nat} {t : Tr} {pl : Int}, NodeAt K C H t → follow t pl l = some (q, s) → NodeAt K C H s
  | [], t, pl, n, h => by
    have h := Option.some.inj h
    injection h with _ h
    rw [← h]
    exact n
  | i :: l, .mk p d ks, pl, n, h => by
    unfold follow at h
    cases hc : (Tr.mk p d ks).ks[i]? with
    | none =>
      rw [hc] at h
      cases h
    | some c =>
      rw [hc] at h
      exact follow_node (NodesAt.mem n.2 (List.mem_of_getElem? hc)) h
theorem follow_snoc : ∀ {l : List Nat} {t : Tr} {pl : Int} {i : Nat}, follow t pl (l ++ [i]) = match follow t pl l with
    | none => none
    | some x => match x.2.ks[i]? with
      | none => none
      | some c => some (x.1 + sumZ (wids (x.2.ks.take i)), c)
  | [], t, pl, i => rfl
  | j :: l, t, pl, i => by
    show (match t.ks[j]? with | none => none | some c => follow c (pl + sumZ (wids (t.ks.take j))) (l ++ [i])) = (match (match t.ks[j]? with | none => none | some c => follow c (pl + sumZ (wids (t.ks.take j))) l) with | none => none | some x => _)
    cases t.ks[j]? with
    | none => rfl
    | some c => exact follow_snoc
/-! ### at_path -/

def natsZ (l : List Nat) : List Int := l.map fun (n : Nat) => (n : Int)
theorem follow_some {t : Tr} {pl : Int} {l : List Nat} {x : Int × Tr} (h : follow t pl l = some x) : ∀ {i : Nat}, i ≤ l.length → ∃ y, follow t pl (l.take i) = some y := fun {i} hi => by
  induction l generalizing t pl i with
  | nil => exact ⟨_, by rw [List.take_nil]; exact h⟩
  | cons j l ih =>
    cases i with
    | zero => exact ⟨_, rfl⟩
    | succ i =>
      unfold follow at h
      rw [List.take_succ_cons]
      unfold follow
      cases hc : t.ks[j]? with
      | none =>
        rw [hc] at h
        cases h
      | some c =>
        rw [hc] at h
        exact ih h (by simpa using hi)
theorem sumZ_sum : ∀ xs : List Int, xs.sum = sumZ xs
  | [] => rfl
  | x :: xs => by
    rw [List.sum_cons, sumZ_sum xs]
    rfl
theorem g_seqF {i : Nat} {x : V} {σ : L2.St} {H : Hp} {t u : L2.TS} {D : L2.Ends} (h : tSeq t u D (σ.set i (some x)) H) : gName i x σ H (fun σ2 H2 => tSeq t u D σ2 H2) := h

/-- a while whose test leaves new things in the heap (R) -/
theorem while_nat2 {c : L2.TT} {tb : L2.TS} {D : L2.Ends} {σ : L2.St} {H : Hp} (Pv : Nat → L2.St → Hp → Prop) (Ex : L2.St → Hp → Prop) (R : Hp → Hp → Prop) {m0 : Nat} (h0 : Pv m0 σ H)
    (hs : ∀ m σ H, Pv m σ H → ∃ b : Bool, (∀ Q : Bool → Hp → Prop, (∀ H2, R H H2 → Q b H2) → c σ H Q) ∧ (b = true → ∀ H2, R H H2 → tb { D with nx := fun σ' H' => ∃ m', m' < m ∧ Pv m' σ' H', ct := fun σ' H' => ∃ m', m' < m ∧ Pv m' σ' H', bk := D.nx } σ H2) ∧ (b = false → ∀ H2, R H H2 → Ex σ H2)) (hd : ∀ σ H, Ex σ H → D.nx σ H) : tWhile c tb D σ H := by
  refine ⟨fun m σ H => Pv m σ H, ⟨_, h0⟩, ?_⟩
  rintro m σ H p
  obtain ⟨b, h1, h2, h3⟩ := hs m σ H p
  refine h1 _ fun H2 r => ?_
  cases b with
  | true => exact ⟨_, fun σ' H' h => h, h2 rfl H2 r⟩
  | false => exact hd _ _ (h3 rfl H2 r)

/-! ### places, ends -/
structure RowsIn (H : Hp) (l : Addr) (us : List V) (rows : List Rw) : Prop where
  lst : H l = some (.lst us)
  row : Paired (RwAt H) us rows
theorem RowsIn.same {H H' : Hp} {l : Addr} {us : List V} {rows : List Rw} (h : RowsIn H l us rows) (s : Same H H') : RowsIn H' l us rows := ⟨s _ _ h.lst, Paired.mapP h.row fun _ _ r => r.tups fun b xs e => s b _ e⟩
def sumTo (start : Int) (rows : List Rw) (k : Nat) : Int := start + sumZ ((rows.take k).map fun x => leafW x.2)
def spPlaces : Sp := fun vs H Q _ => ∃ (l : Addr) (us : List V) (rows : List Rw) (start : Int), vs = [.ref l, .int start] ∧ RowsIn H l us rows ∧ rows.length ≤ 5000 ∧
  ∀ (p : Addr) (ns : List Int) (H' : Hp), Same H H' → H p = none → H' p = some (.lst (ns.map V.int)) → ns.length = rows.length → (∀ k, k < rows.length → ns[k]? = some (sumTo start rows k)) → Q (.ref p) H'
theorem ok_places (T : Txt K mg) : FnOk P w K mg base CX0 2 T.a_law_places T.fd_law_places ["rows", "start"] spPlaces := by
  have G_law_is_leaf : FnOk P w K mg base CX0 1 T.a_law_is_leaf T.fd_law_is_leaf ["row"] (spRowB K) := ok_is_leafL T
  refine T.F_law_places.ok sc_law_places (fun vs H Q E h => ?_) (fun cdv A outer s H vs Q E hr h => ?_)
  · obtain ⟨l, us, rows, start, rfl, _⟩ := h
    rfl
  · have hr_law_is_leaf : Room 1 _ := hr
    obtain ⟨l, us, rows, start, rfl, hR, hn, q⟩ := h
    refine ⟨_, (pss_cons (ps_set (i := 2) sc_law_places.nd rfl (.inl rfl) (pe_lst pa_nil))
      (pss_cons (ps_set (i := 3) sc_law_places.nd rfl (.inl rfl) (pv 1))
      (pss_cons (ps_for PassesOwn.never rfl (pi_list (pv 0)) (pg_name (i := 4) sc_law_places.nd rfl (.inl rfl)) (pss_cons (ps_expr (pe_bm PySem.F.plainAttrs_list PySem.F.slot_list_append PySem.F.type_list_append mt_append (pv 2) (pa_cons (pv 3) pa_nil)))
      (pss_one (ps_if (pt_val (pe_call G_law_is_leaf hr_law_is_leaf (by rfl) T.g_law_is_leaf T.F_law_is_leaf.kp T.b_law_is_leaf .nil pass0 (pa_cons (pv 4) pa_nil))) (pss_one (ps_set (i := 3) sc_law_places.nd rfl (.inl rfl) (pe_op op_add (pv 3) (pe_ix ix_tup (pv 4) pe_int (fun _ _ => rfl))))) pss_nil))))
      (pss_one (ps_ret (pv 2)))))), ?_⟩
    have lu := paired_len hR.row
    refine ⟨by show 0 ≤ sizeLine; decide, fun p np => ?_⟩
    have s0 := same_upd (o := .lst []) np
    refine ⟨_, rfl, _, rfl, l, rfl, ⟨_, SqL.of (s0 _ _ hR.lst)⟩, ?_⟩
    refine for_list (K := K) (a := l) (xs := us) (fun i σ H' => i ≤ rows.length ∧ Same H H' ∧ ∃ (ns : List Int) (y4 : Option V), σ = [some (.ref l), some (.int start), some (.ref p), some (.int (sumTo start rows i)), y4] ∧ H' p = some (.lst (ns.map V.int)) ∧ ns.length = i ∧ ∀ k, k < i → ns[k]? = some (sumTo start rows k))
      ⟨Nat.zero_le _, s0, [], none, by rw [show sumTo start rows 0 = start from Int.add_zero start]; rfl, upd_same, rfl, fun k hk => absurd hk (Nat.not_lt_zero _)⟩ (fun i σ H' _ ⟨_, sm, _⟩ => SqL.of (sm _ _ hR.lst)) ?_ ?_
    · rintro i x σ H1 hx ⟨_, sm, ns, y4, rfl, hp, ln, hv⟩
      have hi : i < rows.length := by rw [← lu]; exact (List.getElem?_eq_some_iff.mp hx).1
      obtain ⟨r, hr1⟩ : ∃ r, rows[i]? = some r := ⟨_, List.getElem?_eq_getElem hi⟩
      obtain ⟨x', hx', g, rfl, hg⟩ := paired_get hR.row hr1
      obtain rfl : x = .ref g := Option.some.inj (hx.symm.trans hx')
      obtain ⟨lv, d⟩ := r
      have sm1 := same_mut (o := .lst (ns.map V.int ++ [.int (sumTo start rows i)])) sm np
      have hg1 := sm1 _ _ hg
      have tk := takeN hr1
      have e1 : sumTo start rows (i + 1) = sumTo start rows i + leafW d := by
        unfold sumTo
        rw [tk, List.map_append, sumZ_app]
        show start + (_ + (leafW d + 0)) = _
        omega
      refine ⟨_, rfl, .inl ⟨rfl, _, SqL.of hp⟩, _, rfl, p, _, _, rfl, rfl, hp, sz2 (by rw [List.length_map]; omega), ?_⟩
      have fin : ∀ v : Int, v = sumTo start rows (i + 1) → (i + 1 ≤ rows.length ∧ Same H (upd H1 p (.lst (ns.map V.int ++ [.int (sumTo start rows i)]))) ∧ ∃ (ns2 : List Int) (y4 : Option V), [some (V.ref l), some (.int start), some (.ref p), some (.int v), some (.ref g)] = [some (.ref l), some (.int start), some (.ref p), some (.int (sumTo start rows (i + 1))), y4] ∧ (upd H1 p (.lst (ns.map V.int ++ [.int (sumTo start rows i)]))) p = some (.lst (ns2.map V.int)) ∧ ns2.length = i + 1 ∧ ∀ k, k < i + 1 → ns2[k]? = some (sumTo start rows k)) := fun v hv1 => by
        refine ⟨hi, sm1, ns ++ [sumTo start rows i], _, by rw [hv1], ?_, by rw [List.length_append, ln]; rfl, fun k hk => ?_⟩
        · rw [upd_same, List.map_append]
          rfl
        · by_cases h : k < i
          · rw [List.getElem?_append_left (by omega)]
            exact hv k h
          · obtain rfl : k = i := by omega
            rw [List.getElem?_append_right (by omega), ln, Nat.sub_self]
            rfl
      refine ⟨_, rfl, g, lv, d, rfl, SqT.of hg1, leafB d, rfl, ?_⟩
      cases hb : leafB d with
      | true =>
        refine iteT ⟨_, rfl, _, rfl, g, _, 5, .int d.wid, rfl, rfl, SqT.of hg1, rfl, _, _, rfl, rfl, fin _ ?_⟩
        rw [e1]
        unfold leafW
        rw [hb]
        rfl
      | false =>
        refine iteF (fin _ ?_)
        rw [e1]
        unfold leafW
        rw [hb]
        exact (Int.add_zero _).symm
    · rintro σ H1 ⟨_, sm, ns, y4, rfl, hp, ln, hv⟩
      rw [lu] at ln hv
      exact ⟨_, rfl, q p ns H1 sm np hp ln hv⟩
def EndIs (rows : List Rw) (k e : Nat) : Prop := k < e ∧ e ≤ rows.length ∧ ∀ r, rows[k]? = some r → (∀ m x, k < m → m < e → rows[m]? = some x → r.1 < x.1) ∧ ∀ x, rows[e]? = some x → x.1 ≤ r.1
def spEnd : Sp := fun vs H Q _ => ∃ (l : Addr) (us : List V) (rows : List Rw) (k : Nat), vs = [.ref l, .int (k : Int)] ∧ RowsIn H l us rows ∧ rows.length ≤ 5000 ∧ k < rows.length ∧ ∀ e : Nat, EndIs rows k e → Q (.int (e : Int)) H
theorem ok_end (T : Txt K mg) : FnOk P w K mg base CX0 1 T.a_law_end T.fd_law_end ["rows", "at"] spEnd := by
  refine T.F_law_end.ok sc_law_end (fun vs H Q E h => ?_) (fun cdv A outer s H vs Q E hr h => ?_)
  · obtain ⟨l, us, rows, k, rfl, _⟩ := h
    rfl
  · obtain ⟨l, us, rows, k, rfl, hR, hn, hk, q⟩ := h
    refine ⟨_, (pss_cons (ps_set (i := 2) sc_law_end.nd rfl (.inl rfl) (pe_op op_add (pv 1) pe_int))
      (pss_cons (ps_while PassesOwn.never (PW.pt (pw_and (pt_cmpR op_lt (pv 2) (pe_callB call_len_seq (by rfl) T.m_len PySem.boot_len (pa_cons (pv 0) pa_nil)) (nomark _)) (pw_and1 (pt_cmpR op_gt (pe_ix ix_tup (pe_ix ix_list (pv 0) (pv 2) (fun _ _ => rfl)) pe_int (fun _ _ => rfl)) (pe_ix ix_tup (pe_ix ix_list (pv 0) (pv 1) (fun _ _ => rfl)) pe_int (fun _ _ => rfl)) (nomark _))))) (pss_one (ps_set (i := 2) sc_law_end.nd rfl (.inl rfl) (pe_op op_add (pv 2) pe_int))))
      (pss_one (ps_ret (pv 2))))), ?_⟩
    have lu := paired_len hR.row
    obtain ⟨r, hrk⟩ : ∃ r, rows[k]? = some r := ⟨_, List.getElem?_eq_getElem hk⟩
    obtain ⟨vk, hvk, gk, rfl, hgk⟩ := paired_get hR.row hrk
    refine ⟨_, rfl, _, _, rfl, rfl, ?_⟩
    refine while_nat (m0 := rows.length - (k + 1)) (fun m σ H' => H' = H ∧ ∃ e : Nat, σ = [some (.ref l), some (.int (k : Int)), some (.int (e : Int))] ∧ m = rows.length - e ∧ k < e ∧ e ≤ rows.length ∧ ∀ m x, k < m → m < e → rows[m]? = some x → r.1 < x.1)
      (fun σ H' => H' = H ∧ ∃ e : Nat, σ = [some (.ref l), some (.int (k : Int)), some (.int (e : Int))] ∧ EndIs rows k e)
      ⟨rfl, k + 1, by rw [show ((k + 1 : Nat) : Int) = (k : Int) + 1 by omega]; rfl, rfl, Nat.lt_succ_self _, hk, fun m x h1 h2 => by omega⟩ ?_ ?_
    · rintro m σ H' ⟨rfl, e, rfl, rfl, h1, h2, h3⟩
      rcases Nat.lt_or_ge e rows.length with he | he
      · obtain ⟨re, hre⟩ : ∃ r, rows[e]? = some r := ⟨_, List.getElem?_eq_getElem he⟩
        obtain ⟨ve, hve, ge, rfl, hge⟩ := paired_get hR.row hre
        refine ⟨decide (r.1 < re.1), fun Q hQ => ⟨_, rfl, _, rfl, l, _, rfl, .inl (SqL.of hR.lst), _, _, rfl, rfl, _, rfl, ite2 (fun _ => ?_) (fun z => absurd (decide_eq_true (by omega)) z)⟩, fun c => ?_, fun c => ⟨rfl, e, rfl, h1, h2, fun r' hr' => ?_⟩⟩
        · exact ⟨_, rfl, _, rfl, l, _, _, _, rfl, rfl, SqL.of hR.lst, atI_nat hve, ge, _, 0, .int re.1, rfl, rfl, SqT.of hge, rfl, _, rfl, _, rfl, l, _, _, _, rfl, rfl, SqL.of hR.lst, atI_nat hvk, gk, _, 0, .int r.1, rfl, rfl, SqT.of hgk, rfl, _, _, rfl, rfl, _, rfl, hQ⟩
        · refine ⟨_, rfl, _, _, rfl, rfl, rows.length - (e + 1), by omega, rfl, e + 1, by rw [show ((e + 1 : Nat) : Int) = (e : Int) + 1 by omega]; rfl, rfl, by omega, he, fun m x m1 m2 hx => ?_⟩
          by_cases hm : m < e
          · exact h3 m x m1 hm hx
          · obtain rfl : m = e := by omega
            obtain rfl : re = x := Option.some.inj (hre.symm.trans hx)
            exact of_decide_eq_true c
        · obtain rfl : r = r' := Option.some.inj (hrk.symm.trans hr')
          refine ⟨h3, fun x hx => ?_⟩
          obtain rfl : re = x := Option.some.inj (hre.symm.trans hx)
          have := of_decide_eq_false c
          omega
      · refine ⟨false, fun Q hQ => ⟨_, rfl, _, rfl, l, _, rfl, .inl (SqL.of hR.lst), _, _, rfl, rfl, _, rfl, ite2 (fun z => ?_) (fun _ => hQ)⟩, fun c => (by cases c), fun _ => ⟨rfl, e, rfl, h1, h2, fun r' hr' => ⟨fun m x m1 m2 hx => ?_, fun x hx => by rw [List.getElem?_eq_none he] at hx; cases hx⟩⟩⟩
        · have := of_decide_eq_true z
          omega
        · obtain rfl : r = r' := Option.some.inj (hrk.symm.trans hr')
          exact h3 m x m1 m2 hx
    · rintro σ H' ⟨rfl, e, rfl, he⟩
      exact ⟨_, rfl, q e he⟩

theorem depth_le {t : Tr} : ∀ {k : Nat} {pi : List Nat}, t.paths[k]? = some pi → pi.length ≤ k := fun {k} => by
  induction k using Nat.strongRecOn with
  | ind k ih =>
    intro pi h
    rcases List.eq_nil_or_concat pi with rfl | ⟨p', i, rfl⟩
    · exact Nat.zero_le _
    · rw [List.concat_eq_append] at h ⊢
      obtain ⟨p, h1, h2, _⟩ := paths_par h
      have := ih p h1 h2
      rw [List.length_append, List.length_singleton]
      omega
theorem path_zero {t : Tr} : t.paths[0]? = some [] := by
  cases t
  rfl
structure UpsAt (H : Hp) (l : Addr) (t : Tr) : Prop where
  ex : ∃ us, H l = some (.lst us) ∧ us.length = t.paths.length ∧ ∀ (k p i : Nat) (pi : List Nat), t.paths[p]? = some pi → t.paths[k]? = some (pi ++ [i]) → ∃ g, us[k]? = some (.ref g) ∧ H g = some (.tup [.int (p : Int), .int (i : Int)])
theorem UpsAt.same {H H' : Hp} {l : Addr} {t : Tr} (h : UpsAt H l t) (s : Same H H') : UpsAt H' l t := by
  obtain ⟨us, h1, h2, h3⟩ := h.ex
  exact ⟨⟨us, s _ _ h1, h2, fun k p i pi a b => by
    obtain ⟨g, e1, e2⟩ := h3 k p i pi a b
    exact ⟨g, e1, s _ _ e2⟩⟩⟩

/-! ### kids -/
/-- rows whose levels are the lengths of a tree's paths -/
structure RowsOf (t : Tr) (rows : List Rw) : Prop where
  len : rows.length = t.paths.length
  lev : ∀ (k : Nat) (r : Rw) (pi : List Nat), rows[k]? = some r → t.paths[k]? = some pi → r.1 = (pi.length : Int)
/-- the kids among the first n rows -/
def KidsTo (t : Tr) (n : Nat) (j : Nat) (c : List Nat) : Prop := ∀ pi, t.paths[j]? = some pi → (∀ (i m : Nat), c[i]? = some m → m < n ∧ t.paths[m]? = some (pi ++ [i])) ∧ (∀ (i m : Nat), m < n → t.paths[m]? = some (pi ++ [i]) → c[i]? = some m)
theorem KidsTo.skip {t : Tr} {n j : Nat} {c : List Nat} (h : KidsTo t n j c) (hn : ∀ pi i, t.paths[j]? = some pi → t.paths[n]? ≠ some (pi ++ [i])) : KidsTo t (n + 1) j c := fun pi hp => by
  obtain ⟨a, b⟩ := h pi hp
  refine ⟨fun i m e => ⟨Nat.lt_succ_of_lt (a i m e).1, (a i m e).2⟩, fun i m hm e => ?_⟩
  rcases Nat.lt_succ_iff_lt_or_eq.mp hm with h | rfl
  · exact b i m h e
  · exact absurd e (hn pi i hp)
theorem KidsTo.next {t : Tr} {n j i : Nat} {c pi : List Nat} (h : KidsTo t n j c) (hp : t.paths[j]? = some pi) (hn : t.paths[n]? = some (pi ++ [i])) : c.length = i ∧ KidsTo t (n + 1) j (c ++ [n]) := by
  obtain ⟨a, b⟩ := h pi hp
  have l1 : ¬ i < c.length := fun z => by
    obtain ⟨m, hm⟩ : ∃ m, c[i]? = some m := ⟨_, List.getElem?_eq_getElem z⟩
    obtain ⟨h1, h2⟩ := a i m hm
    have := paths_uniq h2 hn
    omega
  have l2 : ¬ c.length < i := fun z => by
    obtain ⟨i', rfl⟩ : ∃ i', i = i' + 1 := ⟨i - 1, by omega⟩
    obtain ⟨m, h1, h2⟩ := paths_prev hn
    have := b i' m h1 h2
    have := (List.getElem?_eq_some_iff.mp this).1
    omega
  have l : c.length = i := by omega
  refine ⟨l, fun pi' hp' => ?_⟩
  obtain rfl : pi = pi' := Option.some.inj (hp.symm.trans hp')
  refine ⟨fun x m e => ?_, fun x m hm e => ?_⟩
  · by_cases hx : x < c.length
    · rw [List.getElem?_append_left hx] at e
      exact ⟨Nat.lt_succ_of_lt (a x m e).1, (a x m e).2⟩
    · rw [List.getElem?_append_right (by omega)] at e
      have hx2 : x - c.length = 0 := by
        rcases Nat.eq_zero_or_pos (x - c.length) with h | h
        · exact h
        · rw [List.getElem?_eq_none (by show 1 ≤ _; omega)] at e
          cases e
      rw [hx2] at e
      obtain rfl : n = m := Option.some.inj e
      rw [show x = i by omega]
      exact ⟨Nat.lt_succ_self _, hn⟩
  · rcases Nat.lt_succ_iff_lt_or_eq.mp hm with h | rfl
    · have := b x m h e
      rw [List.getElem?_append_left (List.getElem?_eq_some_iff.mp this).1]
      exact this
    · rw [hn] at e
      have e := Option.some.inj e
      have e2 := List.append_inj' e rfl
      obtain rfl : i = x := by injection e2.2
      rw [← l, List.getElem?_append_right (Nat.le_refl _), Nat.sub_self]
      rfl
/-- the kids' lists in the heap -/
structure KidsAt (H : Hp) (l : Addr) (t : Tr) (n : Nat) (ks : List Addr) : Prop where
  lst : H l = some (.lst (ks.map V.ref))
  len : ks.length = t.paths.length
  nd : ks.Nodup
  kid : ∀ j a, ks[j]? = some a → a ≠ l ∧ ∃ c : List Nat, H a = some (.lst ((natsZ c).map V.int)) ∧ c.length ≤ n ∧ KidsTo t n j c
/-- the last row of each level -/
def LastTo (t : Tr) (n : Nat) (kvs : List (Key × V)) : Prop := ∀ (m : Nat) (pi : List Nat), m < n → t.paths[m]? = some pi → (∀ m' pi', m < m' → m' < n → t.paths[m']? = some pi' → pi'.length ≠ pi.length) → valV kvs (.inl (pi.length : Int)) = some (.int (m : Int))
theorem LastTo.put {t : Tr} {n : Nat} {kvs : List (Key × V)} {pi : List Nat} (h : LastTo t n kvs) (hp : t.paths[n]? = some pi) : LastTo t (n + 1) (putK kvs (.inl (pi.length : Int)) (.int (n : Int))) := fun m pm hm em hl => by
  rw [valV_put]
  rcases Nat.lt_succ_iff_lt_or_eq.mp hm with h1 | rfl
  · have ne := hl n pi h1 (Nat.lt_succ_self _) hp
    rw [if_neg (fun z => ne (by injection z with z; omega))]
    exact h m pm h1 em fun m' pi' a b => hl m' pi' a (by omega)
  · obtain rfl : pi = pm := Option.some.inj (hp.symm.trans em)
    rw [if_pos rfl]
def spKids : Sp := fun vs H Q _ => ∃ (l : Addr) (us : List V) (rows : List Rw) (t : Tr), vs = [.ref l] ∧ RowsIn H l us rows ∧ RowsOf t rows ∧ rows.length ≤ 5000 ∧
  ∀ p ks H', Same H H' → H p = none → KidsAt H' p t rows.length ks → (∀ a ∈ ks, H a = none) → Q (.ref p) H'
theorem ok_kids (T : Txt K mg) : FnOk P w K mg base CX0 1 T.a_law_kids T.fd_law_kids ["rows"] spKids := by
  refine T.F_law_kids.ok sc_law_kids (fun vs H Q E h => ?_) (fun cdv A outer s H vs Q E hr h => ?_)
  · obtain ⟨l, us, rows, t, rfl, _⟩ := h
    rfl
  · obtain ⟨l, us, rows, t, rfl, hR, hO, hn, q⟩ := h
    refine ⟨_, (pss_cons (ps_setLc (i := 1) (own := [("row", 2)]) (g := gName 2) (by rfl) sc_law_kids.nd rfl rfl (sw_true rfl rfl rfl (by decide +kernel)) (pi_list (pv 0)) (blkOk_by (own := [("row", 2)]) (N := ["rows", "kids", "row", "last", "k", "level"]) (sc := defScope s_law_kids) (by decide +kernel)) (fun _ _ _ _ _ => pg_name (i := 2) sc_law_kids.nd rfl (Or.inl rfl)) (fun _ _ _ _ _ => pts_nil) (fun _ _ _ _ _ => (pe_lst pa_nil)))
      (pss_cons (ps_set (i := 3) sc_law_kids.nd rfl (.inl rfl) pe_dnewK)
      (pss_cons (ps_for PassesOwn.never rfl (pi_range1 (by rfl) T.m_range (pa_cons (pe_callB call_len_seq (by rfl) T.m_len PySem.boot_len (pa_cons (pv 0) pa_nil)) pa_nil)) (pg_name (i := 4) sc_law_kids.nd rfl (.inl rfl)) (pss_cons (ps_set (i := 5) sc_law_kids.nd rfl (.inl rfl) (pe_ix ix_tup (pe_ix ix_list (pv 0) (pv 4) (fun _ _ => rfl)) pe_int (fun _ _ => rfl)))
      (pss_cons (ps_if (pt_cmpR op_gt (pv 5) pe_int (nomark _)) (pss_one (ps_expr (pe_bm PySem.F.plainAttrs_list PySem.F.slot_list_append PySem.F.type_list_append mt_append (pe_ix ix_list (pv 1) (pe_dget (hu_of hr) (pv 3) (pe_op op_sub (pv 5) pe_int) (fun _ _ => rfl)) (fun _ _ => rfl)) (pa_cons (pv 4) pa_nil)))) pss_nil)
      (pss_one (ps_dput (hu_of hr) (pv 3) (pv 5) (pv 4) rfl)))))
      (pss_one (ps_ret (pv 1)))))), ?_⟩
    have lu := paired_len hR.row
    refine ⟨_, rfl, l, rfl, ⟨_, SqL.of hR.lst⟩, fun D nD => ?_⟩
    have s0 := same_upd (o := .lst []) nD
    refine lc_it (walk_list (K := K) (a := l) (xs := us)) (fun j H' => Same H H' ∧ ∃ ks : List Addr, H' D = some (.lst (ks.map V.ref)) ∧ ks.length = j ∧ ks.Nodup ∧ ∀ a ∈ ks, a ≠ D ∧ H a = none ∧ H' a = some (.lst []))
      ⟨s0, [], upd_same, rfl, .nil, fun a ha => absurd ha List.not_mem_nil⟩ (fun j H' _ ⟨sm, _⟩ => SqL.of (sm _ _ hR.lst)) ?_ ?_
    · rintro j v H1 H2 hj ⟨sm, ks, hD, lk, nd, hk⟩ ⟨rfl, hv⟩
      refine ⟨rfl, by show 0 ≤ sizeLine; decide, fun a na => ?_⟩
      have s1 := same_upd (o := .lst []) na
      have ha0 : H a = none := sm.free na
      have hDa : D ≠ a := ne_of_none hD na
      have nin : a ∉ ks := fun z => by
        have := (hk a z).2.2
        rw [na] at this
        cases this
      refine ⟨_, s1 _ _ hD, sz2 (by rw [List.length_map]; omega), same_mut (sm.trans s1) nD, ks ++ [a], by rw [upd_same, List.map_append]; rfl, by rw [List.length_append, lk]; rfl, ?_, fun b hb => ?_⟩
      · rw [List.nodup_append]
        exact ⟨nd, by simp, fun x hx y hy e => by rw [List.mem_singleton.mp hy] at e; rw [e] at hx; exact nin hx⟩
      · rcases List.mem_append.mp hb with h | h
        · obtain ⟨k1, k2, k3⟩ := hk b h
          exact ⟨k1, k2, by rw [upd_ne k1]; exact s1 _ _ k3⟩
        · rw [List.mem_singleton.mp h]
          exact ⟨hDa.symm, ha0, by rw [upd_ne hDa.symm, upd_same]⟩
    rintro H1 ⟨sm, ks, hD, lk, nd, hk⟩
    rw [lu] at lk
    intro dl ndl
    have s2 := same_upd (o := .dK []) ndl
    have hdD : dl ≠ D := (ne_of_none hD ndl).symm
    have ndl0 : H dl = none := sm.free ndl
    refine ⟨_, rfl, l, _, rfl, .inl (SqL.of ((sm.trans s2) _ _ hR.lst)), ?_⟩
    refine ⟨_, rfl, by omega, by omega, ?_⟩
    have nka : ∀ a ∈ ks, a ≠ dl := fun a ha => ne_of_none (hk a ha).2.2 ndl
    refine for_range (lo := 0) (n := (us.length : Int).toNat) (fun n σ H' => Same H H' ∧ (∃ y4 y5 : Option V, σ = [some (.ref l), some (.ref D), none, some (.ref dl), y4, y5]) ∧ KidsAt H' D t n ks ∧ ∃ kvs : List (Key × V), H' dl = some (.dK kvs) ∧ kvs.length ≤ n ∧ LastTo t n kvs)
      ⟨sm.trans s2, ⟨none, none, rfl⟩, ⟨s2 _ _ hD, by rw [lk, hO.len], nd, fun j a ha => ?_⟩, [], upd_same, Nat.le_refl _, fun m pi hm => absurd hm (Nat.not_lt_zero _)⟩ ?_ ?_
    · obtain ⟨k1, k2, k3⟩ := hk a (List.mem_of_getElem? ha)
      exact ⟨k1, [], s2 _ _ k3, Nat.le_refl _, fun pi hp => ⟨fun i m e => (by cases e), fun i m e => absurd e (Nat.not_lt_zero _)⟩⟩
    · rintro n σ H2 hi ⟨sm2, ⟨y4, y5, rfl⟩, KA, kvs, hdl, lkv, LT⟩
      have hin : n < rows.length := by omega
      obtain ⟨r, hr1⟩ : ∃ r, rows[n]? = some r := ⟨_, List.getElem?_eq_getElem hin⟩
      obtain ⟨pi, hpi⟩ : ∃ pi, t.paths[n]? = some pi := ⟨_, List.getElem?_eq_getElem (by rw [← hO.len]; exact hin)⟩
      have hlev := hO.lev n r pi hr1 hpi
      obtain ⟨v, hv, g, rfl, hg⟩ := paired_get hR.row hr1
      have hl2 := sm2 _ _ hR.lst
      have hg2 := sm2 _ _ hg
      have en : (0 : Int) + (n : Int) = (n : Int) := by omega
      refine ⟨_, rfl, _, rfl, l, _, _, _, rfl, rfl, SqL.of hl2, (by rw [en]; exact atI_nat hv), g, _, 0, .int r.1, rfl, rfl, SqT.of hg2, rfl, ?_⟩
      rw [hlev]
      have fin : ∀ H3, Same H H3 → H3 dl = some (.dK kvs) → KidsAt H3 D t (n + 1) ks → Same H (upd H3 dl (.dK (putK kvs (.inl (pi.length : Int)) (.int (0 + (n : Int)))))) ∧ KidsAt (upd H3 dl (.dK (putK kvs (.inl (pi.length : Int)) (.int (0 + (n : Int)))))) D t (n + 1) ks ∧ ∃ kvs2 : List (Key × V), (upd H3 dl (.dK (putK kvs (.inl (pi.length : Int)) (.int (0 + (n : Int)))))) dl = some (.dK kvs2) ∧ kvs2.length ≤ n + 1 ∧ LastTo t (n + 1) kvs2 := fun H3 s3 h3 k3 => by
        refine ⟨same_mut s3 ndl0, ⟨by rw [upd_ne hdD.symm]; exact k3.lst, k3.len, k3.nd, fun j a ha => ?_⟩, _, upd_same, ?_, ?_⟩
        · obtain ⟨k1, c, k2, k4⟩ := k3.kid j a ha
          exact ⟨k1, c, by rw [upd_ne (nka a (List.mem_of_getElem? ha))]; exact k2, k4⟩
        · have := length_putK kvs (.inl (pi.length : Int)) (V.int (0 + (n : Int)))
          omega
        · rw [en]
          exact LT.put hpi
      have put : ∀ H3, H3 dl = some (.dK kvs) → DPut H3 dl (.int (pi.length : Int)) (.int (0 + (n : Int))) (upd H3 dl (.dK (putK kvs (.inl (pi.length : Int)) (.int (0 + (n : Int)))))) := fun H3 h3 => DPut.k (k := .inl (pi.length : Int)) h3 (sz2 (by omega))
      refine ts_if (A := (0 : Int) < (pi.length : Int)) (ts_gtI rfl) (fun h1 => ?_) (fun h1 => ?_)
      · rcases List.eq_nil_or_concat pi with rfl | ⟨p', i, rfl⟩
        · exact absurd h1 (by decide)
        rw [List.concat_eq_append] at *
        obtain ⟨p, p1, p2, p3⟩ := paths_par hpi
        have hlast := LT p p' p1 p2 fun m' pi' a b e => by
          have := p3 m' pi' a b e
          omega
        have hpk : p < ks.length := by rw [KA.len]; exact (List.getElem?_eq_some_iff.mp p2).1
        obtain ⟨a, ha⟩ : ∃ a, ks[p]? = some a := ⟨_, List.getElem?_eq_getElem hpk⟩
        obtain ⟨aD, c, hc, lc, kt⟩ := KA.kid p a ha
        obtain ⟨ci, kt2⟩ := kt.next p2 hpi
        have ha0 := (hk a (List.mem_of_getElem? ha)).2.1
        have hl1 : valV kvs (.inl (((p' ++ [i]).length : Nat) - 1 : Int)) = some (.int (p : Int)) := by
          rw [List.length_append, List.length_singleton, show ((p'.length + 1 : Nat) : Int) - 1 = (p'.length : Int) by omega]
          exact hlast
        have lc2 : (natsZ c).length = c.length := by unfold natsZ; rw [List.length_map]
        have adl : dl ≠ a := (nka a (List.mem_of_getElem? ha)).symm
        have hKA := KA.lst
        have hka : (ks.map V.ref)[p]? = some (V.ref a) := by rw [List.getElem?_map, ha]; rfl
        have hdg : DGet H2 dl (.int (((p' ++ [i]).length : Nat) - 1 : Int)) (some (.int (p : Int))) := by
          rw [← hl1]
          exact DGet.k (k := .inl (((p' ++ [i]).length : Nat) - 1 : Int)) hdl
        refine ⟨_, rfl, _, rfl, _, rfl, _, _, rfl, rfl, dl, .int (p : Int), rfl, hdg, D, _, _, V.ref a, rfl, rfl, SqL.of hKA, atI_nat hka, .inl ⟨rfl, _, SqL.of hc⟩, _, rfl, a, _, _, rfl, rfl, hc, sz2 (by rw [List.length_map, lc2]; omega), ?_⟩
        have h3 : (upd H2 a (.lst ((natsZ c).map V.int ++ [.int (0 + (n : Int))]))) dl = some (.dK kvs) := by rw [upd_ne adl]; exact hdl
        refine ⟨_, rfl, _, rfl, _, rfl, dl, _, rfl, put _ h3, ?_⟩
        obtain ⟨f1, f2, f3⟩ := fin _ (same_mut sm2 ha0) h3 ⟨by rw [upd_ne aD.symm]; exact KA.lst, KA.len, KA.nd, fun j b hb => by
          obtain ⟨k1, cb, k2, k3, k4⟩ := KA.kid j b hb
          by_cases hj : j = p
          · subst hj
            obtain rfl : a = b := Option.some.inj (ha.symm.trans hb)
            refine ⟨k1, c ++ [n], ?_, by rw [List.length_append, List.length_singleton]; omega, kt2⟩
            rw [upd_same, en]
            unfold natsZ
            rw [List.map_append, List.map_append]
            rfl
          · have hba : b ≠ a := fun z => by
              rw [z] at hb
              obtain ⟨x1, x2⟩ := List.getElem?_eq_some_iff.mp hb
              obtain ⟨y1, y2⟩ := List.getElem?_eq_some_iff.mp ha
              exact hj ((List.getElem_inj KA.nd).mp (x2.trans y2.symm))
            refine ⟨k1, cb, by rw [upd_ne hba]; exact k2, by omega, k4.skip fun pj i2 hpj z => ?_⟩
            rw [hpi] at z
            have z := List.append_inj' (Option.some.inj z) rfl
            rw [← z.1] at hpj
            exact hj (paths_uniq hpj p2)⟩
        exact ⟨f1, ⟨_, _, rfl⟩, f2, f3⟩
      · have e0 : pi = [] := by
          cases pi with
          | nil => rfl
          | cons x pi => exact absurd (show (0 : Int) < ((x :: pi).length : Int) by rw [List.length_cons]; omega) h1
        refine ⟨_, rfl, _, rfl, _, rfl, dl, _, rfl, put H2 hdl, ?_⟩
        obtain ⟨f1, f2, f3⟩ := fin H2 sm2 hdl ⟨KA.lst, KA.len, KA.nd, fun j a ha => by
          obtain ⟨k1, c, k2, k3, k4⟩ := KA.kid j a ha
          exact ⟨k1, c, k2, by omega, k4.skip fun pj i hj z => by
            rw [hpi, e0] at z
            exact snoc_nil (Option.some.inj z).symm⟩⟩
        exact ⟨f1, ⟨_, _, rfl⟩, f2, f3⟩
    · rintro σ H2 ⟨sm2, ⟨y4, y5, rfl⟩, KA, kvs, hdl, lkv, LT⟩
      rw [show ((us.length : Nat) : Int).toNat = rows.length by omega] at KA
      exact ⟨_, rfl, q D ks H2 sm2 nD KA fun a ha => (hk a ha).2.1⟩

/-! ### parents -/
theorem KidsAt.same {H H' : Hp} {l : Addr} {t : Tr} {n : Nat} {ks : List Addr} (h : KidsAt H l t n ks) (s : Same H H') : KidsAt H' l t n ks := ⟨s _ _ h.lst, h.len, h.nd, fun j a ha => by
  obtain ⟨k1, c, k2, k3⟩ := h.kid j a ha
  exact ⟨k1, c, s _ _ k2, k3⟩⟩
def UpTo (H : Hp) (us : List V) (t : Tr) (k j : Nat) : Prop := ∀ (m p i : Nat) (pi : List Nat), t.paths[p]? = some pi → t.paths[m]? = some (pi ++ [i]) → (p < k ∨ p = k ∧ i < j) → ∃ g, us[m]? = some (.ref g) ∧ H g = some (.tup [.int (p : Int), .int (i : Int)])
def spUps : Sp := fun vs H Q _ => ∃ (l : Addr) (us : List V) (rows : List Rw) (t : Tr), vs = [.ref l] ∧ RowsIn H l us rows ∧ RowsOf t rows ∧ rows.length ≤ 5000 ∧ ∀ p H', Same H H' → H p = none → UpsAt H' p t → Q (.ref p) H'
theorem ok_ups (T : Txt K mg) : FnOk P w K mg base CX0 2 T.a_law_ups T.fd_law_ups ["rows"] spUps := by
  have G_law_kids : FnOk P w K mg base CX0 1 T.a_law_kids T.fd_law_kids ["rows"] spKids := ok_kids T
  refine T.F_law_ups.ok sc_law_ups (fun vs H Q E h => ?_) (fun cdv A outer s H vs Q E hr h => ?_)
  · obtain ⟨l, us, rows, t, rfl, _⟩ := h
    rfl
  · have hr_law_kids : Room 1 _ := hr
    obtain ⟨l, us, rows, t, rfl, hR, hO, hn, q⟩ := h
    refine ⟨_, (pss_cons (ps_set (i := 1) sc_law_ups.nd rfl (.inl rfl) (pe_op op_rep (pe_lst (pa_cons (pe_tup (pa_cons (pe_un un_neg pe_int) (pa_cons pe_int pa_nil))) pa_nil)) (pe_callB call_len_seq (by rfl) T.m_len PySem.boot_len (pa_cons (pv 0) pa_nil))))
      (pss_cons (ps_set (i := 2) sc_law_ups.nd rfl (.inl rfl) (pe_call G_law_kids hr_law_kids (by rfl) T.g_law_kids T.F_law_kids.kp T.b_law_kids .nil pass0 (pa_cons (pv 0) pa_nil)))
      (pss_cons (ps_for PassesOwn.never rfl (pi_range1 (by rfl) T.m_range (pa_cons (pe_callB call_len_seq (by rfl) T.m_len PySem.boot_len (pa_cons (pv 0) pa_nil)) pa_nil)) (pg_name (i := 3) sc_law_ups.nd rfl (.inl rfl)) (pss_one (ps_for PassesOwn.never rfl (pi_range1 (by rfl) T.m_range (pa_cons (pe_callB call_len_seq (by rfl) T.m_len PySem.boot_len (pa_cons (pe_ix ix_list (pv 2) (pv 3) (fun _ _ => rfl)) pa_nil)) pa_nil)) (pg_name (i := 4) sc_law_ups.nd rfl (.inl rfl)) (pss_one (ps_asg (pe_tup (pa_cons (pv 3) (pa_cons (pv 4) pa_nil))) (pg_sub (pv 1) (pe_ix ix_list (pe_ix ix_list (pv 2) (pv 3) (fun _ _ => rfl)) (pv 4) (fun _ _ => rfl)) set_list))))))
      (pss_one (ps_ret (pv 1)))))), ?_⟩
    have lu := paired_len hR.row
    refine ⟨1, rfl, by show 2 ≤ sizeLine; decide, fun g0 ng0 => ⟨by show 1 ≤ sizeLine; decide, fun p1 np1 => ?_⟩⟩
    have s1 := (same_upd (o := .tup [.int (-1), .int 0]) ng0).trans (same_upd (o := .lst [.ref g0]) np1)
    refine ⟨_, rfl, l, us, rfl, .inl (SqL.of (s1 _ _ hR.lst)), ?_⟩
    rw [lu]
    have en : (List.replicate ((rows.length : Nat) : Int).toNat [V.ref g0]).flatten = List.replicate rows.length (V.ref g0) := by
      rw [show ((rows.length : Nat) : Int).toNat = rows.length by omega]
      induction rows.length with
      | zero => rfl
      | succ m ih => rw [List.replicate_succ, List.replicate_succ, List.flatten_cons, ih]; rfl
    refine ⟨p1, _, _, rfl, rfl, upd_same, by omega, by omega, by show 1 * _ ≤ _; exact Nat.le_trans (show 1 * ((rows.length : Nat) : Int).toNat ≤ 5000 by omega) (by decide), fun U nU => ?_⟩
    rw [en]
    have s2 := s1.trans (same_upd (o := .lst (List.replicate rows.length (V.ref g0))) nU)
    have nU0 : H U = none := s1.free nU
    refine ⟨_, rfl, l, us, rows, t, rfl, hR.same s2, hO, hn, fun kp ks H1 sk nkp KA fk => ?_⟩
    have sm := s2.trans sk
    have hU1 : H1 U = some (.lst (List.replicate rows.length (V.ref g0))) := sk _ _ upd_same
    have hkU : kp ≠ U := fun z => by
      rw [z] at nkp
      rw [upd_same] at nkp
      cases nkp
    refine ⟨_, rfl, l, _, rfl, .inl (SqL.of (sm _ _ hR.lst)), ?_⟩
    refine ⟨_, rfl, by omega, by omega, ?_⟩
    have kid_ne : ∀ a ∈ ks, a ≠ U := fun a ha z => by
      have := fk a ha
      rw [z, upd_same] at this
      cases this
    have lk := KA.len
    refine for_range (lo := 0) (n := ((us.length : Nat) : Int).toNat) (fun k σ H' => Same H H' ∧ (∃ y3 y4 : Option V, σ = [some (.ref l), some (.ref U), some (.ref kp), y3, y4]) ∧ KidsAt H' kp t rows.length ks ∧ ∃ us2, H' U = some (.lst us2) ∧ us2.length = rows.length ∧ UpTo H' us2 t k 0)
      ⟨sm, ⟨none, none, rfl⟩, KA, _, hU1, List.length_replicate, fun m p i pi _ _ h => by omega⟩ ?_ ?_
    · rintro k σ H2 hi ⟨sm2, ⟨y3, y4, rfl⟩, KA2, us2, hU2, lu2, up2⟩
      have hin : k < rows.length := by omega
      have en0 : (0 : Int) + (k : Int) = (k : Int) := by omega
      obtain ⟨a, ha⟩ : ∃ a, ks[k]? = some a := ⟨_, List.getElem?_eq_getElem (by rw [lk, ← hO.len]; exact hin)⟩
      obtain ⟨pk, hpk⟩ : ∃ pi, t.paths[k]? = some pi := ⟨_, List.getElem?_eq_getElem (by rw [← hO.len]; exact hin)⟩
      obtain ⟨ak, c, hc, lc, kt⟩ := KA2.kid k a ha
      obtain ⟨kA, kB⟩ := kt pk hpk
      have hka : (ks.map V.ref)[k]? = some (V.ref a) := by rw [List.getElem?_map, ha]; rfl
      have lcz : ((natsZ c).map V.int).length = c.length := by unfold natsZ; rw [List.length_map, List.length_map]
      have atk : ∀ {H' : Hp}, KidsAt H' kp t rows.length ks → SqL K H' kp (ks.map V.ref) ∧ atI (ks.map V.ref) (0 + (k : Int)) = some (V.ref a) := fun h => ⟨SqL.of h.lst, by rw [en0]; exact atI_nat hka⟩
      refine ⟨_, rfl, _, rfl, kp, _, _, V.ref a, rfl, rfl, (atk KA2).1, (atk KA2).2, a, _, rfl, .inl (SqL.of hc), ?_⟩
      rw [lcz]
      refine ⟨_, rfl, by omega, by omega, ?_⟩
      refine for_range (lo := 0) (n := ((c.length : Nat) : Int).toNat) (fun j σ H' => Same H H' ∧ (∃ y4 : Option V, σ = [some (.ref l), some (.ref U), some (.ref kp), some (.int (0 + (k : Int))), y4]) ∧ KidsAt H' kp t rows.length ks ∧ H' a = some (.lst ((natsZ c).map V.int)) ∧ ∃ us2, H' U = some (.lst us2) ∧ us2.length = rows.length ∧ UpTo H' us2 t k j)
        ⟨sm2, ⟨_, rfl⟩, KA2, hc, us2, hU2, lu2, up2⟩ ?_ ?_
      · rintro j σ H3 hj ⟨sm3, ⟨y4, rfl⟩, KA3, hc3, us3, hU3, lu3, up3⟩
        have hjc : j < c.length := by omega
        obtain ⟨m0, hm0⟩ : ∃ m, c[j]? = some m := ⟨_, List.getElem?_eq_getElem hjc⟩
        obtain ⟨hm1, hm2⟩ := kA j m0 hm0
        have ej : (0 : Int) + (j : Int) = (j : Int) := by omega
        have hcm : ((natsZ c).map V.int)[j]? = some (V.int (m0 : Int)) := by
          unfold natsZ
          rw [List.getElem?_map, List.getElem?_map, hm0]
          rfl
        refine ⟨_, rfl, _, rfl, by show 2 ≤ sizeLine; decide, fun g ng => ?_⟩
        have s4 := same_upd (o := .tup [.int (0 + (k : Int)), .int (0 + (j : Int))]) ng
        have hU4 := s4 _ _ hU3
        have KA4 := KA3.same s4
        have ixU : ixN us3.length (m0 : Int) = some m0 := by
          unfold ixN
          rw [if_pos (by omega), if_pos (by omega)]
          rfl
        refine ⟨_, rfl, _, rfl, _, rfl, kp, _, _, V.ref a, rfl, rfl, (atk KA4).1, (atk KA4).2, _, rfl, a, _, _, V.int (m0 : Int), rfl, rfl, SqL.of (s4 _ _ hc3), (by rw [ej]; exact atI_nat hcm), U, us3, _, m0, rfl, rfl, hU4, ixU, ?_⟩
        have hgU : g ≠ U := fun z => by
          rw [z, hU3] at ng
          cases ng
        have hka2 := kid_ne
        have hkpU := hkU
        refine ⟨same_mut (sm3.trans s4) nU0, ⟨_, rfl⟩, ⟨by rw [upd_ne hkpU]; exact KA4.lst, KA4.len, KA4.nd, fun x b hb => ?_⟩, by rw [upd_ne (kid_ne a (List.mem_of_getElem? ha))]; exact s4 _ _ hc3, us3.set m0 (.ref g), upd_same, by rw [List.length_set, lu3], ?_⟩
        · obtain ⟨k1, c2, k2, k3⟩ := KA4.kid x b hb
          exact ⟨k1, c2, by rw [upd_ne (kid_ne b (List.mem_of_getElem? hb))]; exact k2, k3⟩
        · intro m p i pi hp hm h
          by_cases hmm : m = m0
          · subst hmm
            rw [hm2] at hm
            have e := List.append_inj' (Option.some.inj hm) rfl
            rw [← e.1] at hp
            obtain rfl := paths_uniq hp hpk
            obtain rfl : j = i := by injection e.2
            refine ⟨g, ?_, ?_⟩
            · rw [List.getElem?_set_self (by omega)]
            · rw [upd_ne hgU, upd_same, en0, ej]
          · have h' : p < k ∨ p = k ∧ i < j := by
              rcases h with h | ⟨rfl, h⟩
              · exact .inl h
              · refine .inr ⟨rfl, ?_⟩
                rcases Nat.lt_succ_iff_lt_or_eq.mp h with h | rfl
                · exact h
                · exfalso
                  obtain rfl : pk = pi := Option.some.inj (hpk.symm.trans hp)
                  exact hmm (paths_uniq hm hm2)
            obtain ⟨g1, e1, e2⟩ := up3 m p i pi hp hm h'
            refine ⟨g1, by rw [List.getElem?_set_ne (fun z => hmm z.symm)]; exact e1, ?_⟩
            rw [upd_ne (fun z => by rw [z, hU3] at e2; cases e2)]
            exact s4 _ _ e2
      · rintro σ H3 ⟨sm3, ⟨y4, rfl⟩, KA3, hc3, us3, hU3, lu3, up3⟩
        refine ⟨sm3, ⟨_, _, rfl⟩, KA3, us3, hU3, lu3, fun m p i pi hp hm h => up3 m p i pi hp hm ?_⟩
        rcases h with h | ⟨_, h⟩
        · rcases Nat.lt_succ_iff_lt_or_eq.mp h with h | rfl
          · exact .inl h
          · refine .inr ⟨rfl, ?_⟩
            obtain rfl : pk = pi := Option.some.inj (hpk.symm.trans hp)
            have hml : m < rows.length := by rw [hO.len]; exact (List.getElem?_eq_some_iff.mp hm).1
            have := (List.getElem?_eq_some_iff.mp (kB i m hml hm)).1
            omega
        · omega
    · rintro σ H2 ⟨sm2, ⟨y3, y4, rfl⟩, KA2, us2, hU2, lu2, up2⟩
      refine ⟨_, rfl, q U H2 sm2 nU0 ⟨⟨us2, hU2, by rw [lu2, hO.len], fun m p i pi hp hm => up2 m p i pi hp hm (.inl ?_)⟩⟩⟩
      have := (List.getElem?_eq_some_iff.mp hp).1
      have := hO.len
      omega

/-! ### a tree with its rows and nodes -/
mutual
theorem ats_ras : ∀ (t : Tr) (l : Int), (t.ras l).map (fun x => x.2.2) = t.ats
  | .mk p d ks, l => by
    show p :: (rasL (l + 1) ks).map (fun x => x.2.2) = p :: atsL ks
    rw [atsL_ras ks]
theorem atsL_ras : ∀ (ts : List Tr) (l : Int), (rasL l ts).map (fun x => x.2.2) = atsL ts
  | [], _ => rfl
  | t :: ts, l => by
    show (t.ras l ++ rasL l ts).map (fun x => x.2.2) = t.ats ++ atsL ts
    rw [List.map_append, ats_ras t, atsL_ras ts]
end
theorem pathsL_one : ∀ {ts : List Tr} {i0 j : Nat}, j < ts.length → [i0 + j] ∈ pathsL i0 ts
  | t :: ts, i0, 0, _ => by
    refine List.mem_append_left _ (List.mem_map.mpr ⟨[], ?_, rfl⟩)
    cases t
    exact List.mem_cons_self
  | t :: ts, i0, j + 1, h => by
    have := pathsL_one (ts := ts) (i0 := i0 + 1) (j := j) (Nat.lt_of_succ_lt_succ h)
    refine List.mem_append_right _ ?_
    rw [show i0 + (j + 1) = i0 + 1 + j by omega]
    exact this
mutual
/-- the paths of a spot's kids -/
theorem spots_kid {x : Spot} {i : Nat} : ∀ {t : Tr} {pl : Int}, x ∈ t.spots pl → i < x.2.2.ks.length → (x.1 ++ [i]) ∈ t.paths
  | .mk p d ks, pl, h, hi => by
    rcases List.mem_cons.mp h with rfl | h
    · refine List.mem_cons_of_mem _ ?_
      have := pathsL_one (ts := ks) (i0 := 0) (j := i) hi
      rw [Nat.zero_add] at this
      exact this
    · exact List.mem_cons_of_mem _ (spotsL_kid h hi)
theorem spotsL_kid {x : Spot} {i : Nat} : ∀ {ts : List Tr} {pl : Int} {i0 : Nat}, x ∈ spotsL pl i0 ts → i < x.2.2.ks.length → (x.1 ++ [i]) ∈ pathsL i0 ts
  | [], _, _, h, _ => absurd h List.not_mem_nil
  | t :: ts, pl, i0, h, hi => by
    rcases List.mem_append.mp h with h | h
    · obtain ⟨y, hy, rfl⟩ := List.mem_map.mp h
      exact List.mem_append_left _ (List.mem_map.mpr ⟨y.1 ++ [i], spots_kid (x := y) hy hi, rfl⟩)
    · exact List.mem_append_right _ (spotsL_kid h hi)
end
theorem KidsTo.count {t : Tr} {n k : Nat} {pi c : List Nat} {pl q : Int} {s : Tr} (h : KidsTo t n k c) (hp : t.paths[k]? = some pi) (hs : (pi, q, s) ∈ t.spots pl) (hn : n = t.paths.length) : s.ks.length ≤ c.length := by
  refine Nat.le_of_not_lt fun lt => ?_
  have := spots_kid (x := (pi, q, s)) (i := c.length) hs lt
  obtain ⟨m, hm⟩ := List.mem_iff_getElem?.mp this
  have := (h pi hp).2 c.length m (by rw [hn]; exact (List.getElem?_eq_some_iff.mp hm).1) hm
  have := (List.getElem?_eq_some_iff.mp this).1
  omega
structure TreeIn (K : PySem.W.Frag) (C : Addr) (H : Hp) (l m : Addr) (us : List V) (rows : List Rw) (as : List Addr) (t : Tr) : Prop where
  rws : RowsIn H l us rows
  mds : H m = some (.lst (as.map V.ref))
  len : as.length = rows.length
  ras : t.ras 0 = rasOf rows as
  nd : NodeAt K C H t
  wok : WOk t
  sz : rows.length ≤ 4500
theorem Keeps.but {K : PySem.W.Frag} {C : Addr} {H H' : Hp} {b : Addr} {xs : List V} (h : H b = some (.lst xs)) (k : But b H H') : Keeps K C H H' :=
  ⟨fun q dx d tp e => k q _ (fun z => by rw [z, h] at e; cases e) e, fun tp us e => by
    rcases e with (e | ⟨x, e⟩) | e
    · exact .inl (.inl (k _ _ (fun z => by rw [z, h] at e; cases e) e))
    · exact .inl (.inr ⟨x, k _ _ (fun z => by rw [z, h] at e; cases e) e⟩)
    · exact .inr e⟩
section
variable {C : Addr} {H H' : Hp} {l m : Addr} {us : List V} {rows : List Rw} {as : List Addr} {t : Tr}
theorem TreeIn.same (h : TreeIn K C H l m us rows as t) (s : Same H H') : TreeIn K C H' l m us rows as t := ⟨h.rws.same s, s _ _ h.mds, h.len, h.ras, h.nd.keep (Keeps.of s), h.wok, h.sz⟩
theorem RowsIn.but {r : Addr} (h : RowsIn H l us rows) (b : But r H H') (R : ReelAt H r) (n : l ≠ r) : RowsIn H' l us rows := ⟨b _ _ n h.lst, Paired.mapP h.row fun _ _ x => x.tups (b.tups R)⟩
theorem keeps_but {r : Addr} (b : But r H H') (R : ReelAt H r) : Keeps K C H H' := by
  obtain ⟨z, c, e, _⟩ := R
  exact Keeps.but e b
theorem TreeIn.but {r : Addr} (h : TreeIn K C H l m us rows as t) (b : But r H H') (R : ReelAt H r) (nl : l ≠ r) (nm : m ≠ r) : TreeIn K C H' l m us rows as t := ⟨h.rws.but b R nl, b _ _ nm h.mds, h.len, h.ras, h.nd.keep (keeps_but b R), h.wok, h.sz⟩
theorem TreeIn.ats (h : TreeIn K C H l m us rows as t) : t.ats = as := by
  rw [← ats_ras t 0, h.ras]
  unfold rasOf
  rw [List.map_map]
  show (rows.zip as).map Prod.snd = as
  exact List.map_snd_zip (by rw [h.len]; exact Nat.le_refl _)
theorem TreeIn.prs (h : TreeIn K C H l m us rows as t) (pl : Int) : (t.spots pl).map (fun x => (((x.1.length : Nat) : Int), x.2.2.d)) = rows := by
  have e : (t.spots pl).map (fun x => (((x.1.length : Nat) : Int), x.2.2.d)) = ((t.spots pl).map (spR 0)).map (fun x => (x.1, x.2.1)) := by
    rw [List.map_map]
    refine List.map_congr_left fun x _ => ?_
    show (((x.1.length : Nat) : Int), x.2.2.d) = ((0 : Int) + ((x.1.length : Nat) : Int), x.2.2.d)
    rw [Int.zero_add]
  rw [e, spots_ras, h.ras]
  unfold rasOf
  rw [List.map_map]
  show (rows.zip as).map Prod.fst = rows
  exact List.map_fst_zip (by rw [h.len]; exact Nat.le_refl _)
theorem TreeIn.addrs (h : TreeIn K C H l m us rows as t) (pl : Int) : (t.spots pl).map (fun x => x.2.2.at) = as := by
  rw [← h.ats, ← ats_ras t 0, ← spots_ras t pl 0, List.map_map]
  rfl
theorem TreeIn.slen (h : TreeIn K C H l m us rows as t) (pl : Int) : (t.spots pl).length = rows.length := by
  have := congrArg List.length (h.prs pl)
  rw [List.length_map] at this
  exact this
theorem TreeIn.plen (h : TreeIn K C H l m us rows as t) : rows.length = t.paths.length := by
  rw [← spots_paths t 0, List.length_map, h.slen]
theorem TreeIn.of (h : TreeIn K C H l m us rows as t) : RowsOf t rows := by
  refine ⟨h.plen, fun k r pi e1 e2 => ?_⟩
  rw [← h.prs 0, List.getElem?_map] at e1
  rw [← spots_paths t 0, List.getElem?_map] at e2
  cases hx : (t.spots 0)[k]? with
  | none =>
    rw [hx] at e1
    cases e1
  | some x =>
    rw [hx] at e1 e2
    rw [← Option.some.inj e1, ← Option.some.inj e2]
theorem TreeIn.spot (h : TreeIn K C H l m us rows as t) (pl : Int) {k : Nat} (hk : k < rows.length) : ∃ pi s, t.paths[k]? = some pi ∧ (t.spots pl)[k]? = some (pi, sumTo pl rows k, s) ∧ as[k]? = some s.at ∧ rows[k]? = some (((pi.length : Nat) : Int), s.d) := by
  obtain ⟨x, hx⟩ : ∃ x, (t.spots pl)[k]? = some x := ⟨_, List.getElem?_eq_getElem (by rw [h.slen]; exact hk)⟩
  have e1 : sumTo pl rows k = x.2.1 := by
    rw [spots_place h.wok hx]
    unfold sumTo leafSum
    have e : (rows.take k).map (fun x => leafW x.2) = ((t.spots pl).take k).map fun x => leafW x.2.2.d := by
      rw [← h.prs pl, ← List.map_take, List.map_map]
      rfl
    rw [e]
  refine ⟨x.1, x.2.2, ?_, ?_, ?_, ?_⟩
  · rw [← spots_paths t pl, List.getElem?_map, hx]
    rfl
  · rw [e1]
    exact hx
  · rw [← h.addrs pl, List.getElem?_map, hx]
    rfl
  · rw [← h.prs pl, List.getElem?_map, hx]
    rfl
theorem UpsAt.but {r u : Addr} (h : UpsAt H u t) (b : But r H H') (R : ReelAt H r) (n : u ≠ r) : UpsAt H' u t := by
  obtain ⟨us, h1, h2, h3⟩ := h.ex
  refine ⟨⟨us, b _ _ n h1, h2, fun k p i pi e1 e2 => ?_⟩⟩
  obtain ⟨g, e3, e4⟩ := h3 k p i pi e1 e2
  exact ⟨g, e3, b.tups R _ _ e4⟩
theorem KidsAt.but {r kp : Addr} {n : Nat} {ks : List Addr} (h : KidsAt H kp t n ks) (b : But r H H') (nk : kp ≠ r) (na : ∀ a ∈ ks, a ≠ r) : KidsAt H' kp t n ks := ⟨b _ _ nk h.lst, h.len, h.nd, fun j a ha => by
  obtain ⟨k1, c, k2, k3⟩ := h.kid j a ha
  exact ⟨k1, c, b _ _ (na a (List.mem_of_getElem? ha)) k2, k3⟩⟩
end

theorem ReelAt.same {H H' : Hp} {r : Addr} (h : ReelAt H r) (s : Same H H') : ReelAt H' r := by
  obtain ⟨z, c, e, x⟩ := h
  exact ⟨z, c, s _ _ e, x⟩
theorem natsZ_small {n : Nat} {l : List Nat} (h : ∀ i ∈ l, i ≤ n) (hn : n ≤ 1000000) : ∀ i ∈ natsZ l, i.natAbs ≤ 1000000 := fun i hi => by
  obtain ⟨j, hj, rfl⟩ := List.mem_map.mp hi
  have := h j hj
  show ((j : Int)).natAbs ≤ _
  omega
theorem natsZ_len (l : List Nat) : (natsZ l).length = l.length := by
  unfold natsZ
  rw [List.length_map]
theorem idx_lt {t : Tr} {i : Nat} : ∀ {k : Nat} {pi : List Nat}, t.paths[k]? = some (pi ++ [i]) → i < k := by
  induction i with
  | zero =>
    intro k pi h
    rcases Nat.eq_zero_or_pos k with rfl | hk
    · rw [path_zero] at h
      exact (snoc_nil (Option.some.inj h).symm).elim
    · exact hk
  | succ i ih =>
    intro k pi h
    obtain ⟨m, h1, h2⟩ := paths_prev h
    have := ih h2
    omega
theorem path_small {t : Tr} : ∀ {k : Nat} {pi : List Nat}, t.paths[k]? = some pi → ∀ i ∈ pi, i < k := fun {k} => by
  induction k using Nat.strongRecOn with
  | ind k ih =>
    intro pi h j hj
    rcases List.eq_nil_or_concat pi with rfl | ⟨p', i, rfl⟩
    · exact absurd hj List.not_mem_nil
    · rw [List.concat_eq_append] at h hj
      obtain ⟨p, h1, h2, _⟩ := paths_par h
      rcases List.mem_append.mp hj with hj | hj
      · have := ih p h1 h2 j hj
        omega
      · rw [List.mem_singleton.mp hj]
        exact idx_lt h
theorem natsZ_at {l : List Nat} {i : Nat} {v : V} (h : ((natsZ l).map V.int)[i]? = some v) : ∃ k : Nat, l[i]? = some k ∧ v = .int (k : Int) := by
  unfold natsZ at h
  rw [List.getElem?_map, List.getElem?_map] at h
  cases hk : l[i]? with
  | none =>
    rw [hk] at h
    cases h
  | some k =>
    rw [hk] at h
    exact ⟨k, rfl, (Option.some.inj h).symm⟩
theorem cat_any {a b : Addr} {xs ys : List V} {H : Hp} {Q : VK} (ha : H a = some (.tup xs)) (hb : H b = some (.tup ys)) (hz : xs.length + ys.length ≤ sizeLine) (q : ∀ z H', Same H H' → H' z = some (.tup (xs ++ ys)) → Q (.ref z) H') : rCatA K (.ref a) (.ref b) H Q := by
  refine ⟨a, b, xs, ys, rfl, rfl, SqT.of ha, SqT.of hb, hz, fun e => ?_, fun _ e => ?_, fun _ _ p np => q p _ (same_upd np) upd_same⟩
  · subst e
    exact q b H (Same.refl H) hb
  · subst e
    exact q a H (Same.refl H) (by rw [List.append_nil]; exact ha)

/-! ### the spots below a spot -/
theorem spotsL_head {x : Spot} : ∀ {ts : List Tr} {pl : Int} {i : Nat}, (spotsL pl i ts).head? = some x → x.1 = [i]
  | [], _, _, h => by cases h
  | .mk p d ks :: ts, pl, i, h => by
    obtain rfl : (([i], pl, .mk p d ks) : Spot) = x := Option.some.inj h
    rfl
mutual
theorem spots_sub {pa : List Nat} {qa : Int} {sa : Tr} : ∀ {t : Tr} {pl : Int} {k : Nat}, (t.spots pl)[k]? = some (pa, qa, sa) → ∃ rest, (t.spots pl).drop k = (sa.spots qa).map (fun x => ((pa ++ x.1, x.2) : Spot)) ++ rest ∧ ∀ x, rest.head? = some x → x.1.length ≤ pa.length
  | .mk p d ks, pl, 0, h => by
    have h : some (([], pl, .mk p d ks) : Spot) = some (pa, qa, sa) := h
    cases h
    refine ⟨[], ?_, fun x hx => by cases hx⟩
    rw [List.append_nil]
    exact (List.map_id _).symm
  | .mk p d ks, pl, k + 1, h => by
    have h : (spotsL pl 0 ks)[k]? = some (pa, qa, sa) := h
    exact spotsL_sub h
theorem spotsL_sub {pa : List Nat} {qa : Int} {sa : Tr} : ∀ {ts : List Tr} {pl : Int} {i k : Nat}, (spotsL pl i ts)[k]? = some (pa, qa, sa) → ∃ rest, (spotsL pl i ts).drop k = (sa.spots qa).map (fun x => ((pa ++ x.1, x.2) : Spot)) ++ rest ∧ ∀ x, rest.head? = some x → x.1.length ≤ pa.length
  | [], _, _, _, h => by cases h
  | t :: ts, pl, i, k, h => by
    have h : ((t.spots pl).map (fun x => ((i :: x.1, x.2) : Spot)) ++ spotsL (pl + t.d.wid) (i + 1) ts)[k]? = some (pa, qa, sa) := h
    show ∃ rest, ((t.spots pl).map (fun x => ((i :: x.1, x.2) : Spot)) ++ spotsL (pl + t.d.wid) (i + 1) ts).drop k = _ ∧ _
    by_cases hk : k < (t.spots pl).length
    · rw [List.getElem?_append_left (by rw [List.length_map]; exact hk), List.getElem?_map] at h
      cases hy : (t.spots pl)[k]? with
      | none =>
        rw [hy] at h
        cases h
      | some y =>
        rw [hy] at h
        obtain ⟨y1, y2, y3⟩ := y
        have h : some ((i :: y1, y2, y3) : Spot) = some (pa, qa, sa) := h
        cases h
        obtain ⟨rest, e, hr⟩ := spots_sub hy
        refine ⟨rest.map (fun x => ((i :: x.1, x.2) : Spot)) ++ spotsL (pl + t.d.wid) (i + 1) ts, ?_, fun x hx => ?_⟩
        · rw [List.drop_append_of_le_length (by rw [List.length_map]; omega), ← List.map_drop, e, List.map_append, List.map_map, List.append_assoc]
          rfl
        · cases rest with
          | nil =>
            rw [spotsL_head hx]
            show 1 ≤ y1.length + 1
            omega
          | cons z zs =>
            obtain rfl : ((i :: z.1, z.2) : Spot) = x := Option.some.inj hx
            have := hr z rfl
            show z.1.length + 1 ≤ y1.length + 1
            omega
    · rw [List.getElem?_append_right (by rw [List.length_map]; omega), List.length_map] at h
      obtain ⟨rest, e, hr⟩ := spotsL_sub h
      refine ⟨rest, ?_, hr⟩
      rw [List.drop_append, List.drop_of_length_le (by rw [List.length_map]; omega), List.nil_append, List.length_map]
      exact e
end
theorem TreeIn.sub {C : Addr} {H : Hp} {l m : Addr} {us : List V} {rows : List Rw} {as : List Addr} {t : Tr} (h : TreeIn K C H l m us rows as t) {a k e : Nat} {pa pk : List Nat} {qa qk : Int} {sa sk : Tr} (he : EndIs rows a e) (h1 : a ≤ k) (h2 : k < e) (ha : (t.spots 0)[a]? = some (pa, qa, sa)) (hk : (t.spots 0)[k]? = some (pk, qk, sk)) :
    ∃ l, pk = pa ++ l ∧ (l, qk, sk) ∈ sa.spots qa := by
  obtain ⟨rest, e1, hr⟩ := spots_sub ha
  have hk2 : ((t.spots 0).drop a)[k - a]? = some (pk, qk, sk) := by
    rw [List.getElem?_drop, show a + (k - a) = k by omega]
    exact hk
  rw [e1] at hk2
  have n1 : 0 < (sa.spots qa).length := by
    cases sa
    exact Nat.succ_pos _
  by_cases hn : k - a < (sa.spots qa).length
  · rw [List.getElem?_append_left (by rw [List.length_map]; exact hn), List.getElem?_map] at hk2
    cases hy : (sa.spots qa)[k - a]? with
    | none =>
      rw [hy] at hk2
      cases hk2
    | some y =>
      rw [hy] at hk2
      obtain ⟨y1, y2⟩ := y
      have hk2 : some ((pa ++ y1, y2) : Spot) = some (pk, qk, sk) := hk2
      cases hk2
      exact ⟨y1, rfl, List.mem_of_getElem? hy⟩
  · exfalso
    rw [List.getElem?_append_right (by rw [List.length_map]; omega), List.length_map] at hk2
    cases rest with
    | nil => cases hk2
    | cons y ys =>
      have ly := hr y rfl
      have hm : (t.spots 0)[a + (sa.spots qa).length]? = some y := by
        have : ((t.spots 0).drop a)[(sa.spots qa).length]? = some y := by
          rw [e1, List.getElem?_append_right (by rw [List.length_map]; exact Nat.le_refl _), List.length_map, Nat.sub_self]
          rfl
        rw [List.getElem?_drop] at this
        exact this
      have ra : rows[a]? = some (((pa.length : Nat) : Int), sa.d) := by
        rw [← h.prs 0, List.getElem?_map, ha]
        rfl
      have rm : rows[a + (sa.spots qa).length]? = some (((y.1.length : Nat) : Int), y.2.2.d) := by
        rw [← h.prs 0, List.getElem?_map, hm]
        rfl
      have := (he.2.2 _ ra).1 _ _ (by omega) (by omega) rm
      have this : ((pa.length : Nat) : Int) < ((y.1.length : Nat) : Int) := this
      omega

theorem no_part {σ : L2.St} {H : Hp} {Q : Option Int → Hp → Prop} (h : Q none H) : tNoPart σ H Q := h
theorem g_seqD {i : Nat} {x : V} {σ : L2.St} {H : Hp} {t u : L2.TS} {D D2 : L2.Ends} (h : tSeq t u D (σ.set i (some x)) H) : gName i x σ H { D2 with nx := tSeq t u D }.nx := h

theorem row_at {C : Addr} {H' : Hp} {k : Nat} {r : Rw} {l m : Addr} {us : List V} {rows : List Rw} {as : List Addr} {t : Tr} (TI' : TreeIn K C H' l m us rows as t) (hr1 : rows[k]? = some r) : ∃ g, us[k]? = some (.ref g) ∧ H' g = some (.tup (rwV r)) := by
  obtain ⟨x', hx', g, rfl, hg⟩ := paired_get TI'.rws.row hr1
  exact ⟨g, hx', hg⟩

/-! ### the rows and nodes of a part -/
theorem ras_ne (t : Tr) (l : Int) : t.ras l ≠ [] := by
  cases t
  exact List.cons_ne_nil _ _
theorem ras_one {t : Tr} {d : Nd} {a : Addr} (h : t.ras 0 = [(0, d, a)]) : t = .mk a d [] := by
  obtain ⟨p, d2, ks⟩ := t
  have h : ((0, d2, p) : Ra) :: rasL (0 + 1) ks = [(0, d, a)] := h
  injection h with h1 h2
  injection h1 with _ h1
  injection h1 with h3 h4
  cases ks with
  | nil => rw [h3, h4]
  | cons c cs =>
    exfalso
    have h2 : c.ras (0 + 1) ++ rasL (0 + 1) cs = [] := h2
    exact ras_ne c _ (List.append_eq_nil_iff.mp h2).1
structure PartAt (rows : List Rw) (as : List Addr) (a e : Nat) (sa : Tr) (lv : Int) : Prop where
  e : e = a + sa.ats.length
  le : a + sa.ats.length ≤ rows.length
  rs : (rows.drop a).take sa.ats.length = (sa.ras lv).map fun x => (x.1, x.2.1)
  ads : (as.drop a).take sa.ats.length = sa.ats
theorem ras_len (t : Tr) (l : Int) : (t.ras l).length = t.ats.length := by
  rw [← ats_ras t l, List.length_map]
theorem TreeIn.part {C : Addr} {H : Hp} {l m : Addr} {us : List V} {rows : List Rw} {as : List Addr} {t : Tr} (h : TreeIn K C H l m us rows as t) {a e : Nat} {pa : List Nat} {qa : Int} {sa : Tr} (he : EndIs rows a e) (ha : (t.spots 0)[a]? = some (pa, qa, sa)) : PartAt rows as a e sa ((pa.length : Nat) : Int) := by
  obtain ⟨rest, e1, hr⟩ := spots_sub ha
  have hal := (List.getElem?_eq_some_iff.mp ha).1
  have ln : (sa.spots qa).length = sa.ats.length := by
    rw [← ats_ras sa 0, ← spots_ras sa qa 0, List.length_map, List.length_map]
  have er : rows.drop a = ((sa.ras ((pa.length : Nat) : Int)).map fun x => ((x.1, x.2.1) : Rw)) ++ rest.map fun x => (((x.1.length : Nat) : Int), x.2.2.d) := by
    rw [← h.prs 0, ← List.map_drop, e1, List.map_append, ← spots_ras sa qa, List.map_map, List.map_map]
    congr 1
    refine List.map_congr_left fun x _ => ?_
    show ((((pa ++ x.1).length : Nat) : Int), x.2.2.d) = (((pa.length : Nat) : Int) + ((x.1.length : Nat) : Int), x.2.2.d)
    rw [List.length_append, Int.natCast_add]
  have ea : as.drop a = sa.ats ++ rest.map fun x => x.2.2.at := by
    rw [← h.addrs 0, ← List.map_drop, e1, List.map_append, List.map_map, ← ats_ras sa 0, ← spots_ras sa qa 0, List.map_map]
    rfl
  have lr : rows.length = a + (sa.ats.length + rest.length) := by
    have e2 := congrArg List.length er
    rw [List.length_drop, List.length_append, List.length_map, List.length_map, ras_len] at e2
    rw [h.slen 0] at hal
    omega
  have n1 : 0 < sa.ats.length := by
    cases sa
    exact Nat.succ_pos _
  have ra : rows[a]? = some (((pa.length : Nat) : Int), sa.d) := by
    rw [← h.prs 0, List.getElem?_map, ha]
    rfl
  have up : e ≤ a + sa.ats.length := by
    refine Nat.le_of_not_lt fun lt => ?_
    have hm : rows[a + sa.ats.length]? = (rest.map fun x => ((((x.1.length : Nat) : Int), x.2.2.d) : Rw))[0]? := by
      have : (rows.drop a)[sa.ats.length]? = (rest.map fun x => ((((x.1.length : Nat) : Int), x.2.2.d) : Rw))[0]? := by
        rw [er, List.getElem?_append_right (by rw [List.length_map, ras_len]; exact Nat.le_refl _), List.length_map, ras_len, Nat.sub_self]
      rw [List.getElem?_drop] at this
      exact this
    cases rest with
    | nil =>
      have := he.2.1
      rw [List.length_nil] at lr
      omega
    | cons y ys =>
      have ly := hr y rfl
      have := (he.2.2 _ ra).1 _ _ (by omega) lt hm
      have this : ((pa.length : Nat) : Int) < ((y.1.length : Nat) : Int) := this
      omega
  have dn : a + sa.ats.length ≤ e := by
    refine Nat.le_of_not_lt fun lt => ?_
    have ha1 := he.1
    have hx : (rows.drop a)[e - a]? = ((sa.ras ((pa.length : Nat) : Int)).map fun x => ((x.1, x.2.1) : Rw))[e - a]? := by
      rw [er, List.getElem?_append_left (by rw [List.length_map, ras_len]; omega)]
    rw [List.getElem?_drop, show a + (e - a) = e by omega, ← spots_ras sa qa, List.map_map, List.getElem?_map] at hx
    obtain ⟨y, hy⟩ : ∃ y, (sa.spots qa)[e - a]? = some y := ⟨_, List.getElem?_eq_getElem (by rw [ln]; omega)⟩
    rw [hy] at hx
    have := (he.2.2 _ ra).2 _ hx
    have this : ((pa.length : Nat) : Int) + ((y.1.length : Nat) : Int) ≤ ((pa.length : Nat) : Int) := this
    have hy0 : y.1 = [] := List.eq_nil_of_length_eq_zero (by omega)
    have hy2 : sa.paths[e - a]? = some [] := by
      rw [← spots_paths sa qa, List.getElem?_map, hy, ← hy0]
      rfl
    have := paths_uniq hy2 path_zero
    omega
  refine ⟨by omega, by omega, ?_, ?_⟩
  · rw [er, List.take_append_of_le_length (by rw [List.length_map, ras_len]; exact Nat.le_refl _), List.take_of_length_le (by rw [List.length_map, ras_len]; exact Nat.le_refl _)]
  · rw [ea, List.take_append_of_le_length (Nat.le_refl _), List.take_length]
mutual
theorem ras_lift : ∀ (t : Tr) (l k : Int), t.ras (l + k) = (t.ras l).map fun x => (x.1 + k, x.2)
  | .mk p d ks, l, k => by
    show ((l + k, d, p) : Ra) :: rasL (l + k + 1) ks = (l + k, d, p) :: (rasL (l + 1) ks).map _
    rw [show l + k + 1 = l + 1 + k by omega, rasL_lift ks]
theorem rasL_lift : ∀ (ts : List Tr) (l k : Int), rasL (l + k) ts = (rasL l ts).map fun x => (x.1 + k, x.2)
  | [], _, _ => rfl
  | t :: ts, l, k => by
    show t.ras (l + k) ++ rasL (l + k) ts = (t.ras l ++ rasL l ts).map _
    rw [ras_lift t, rasL_lift ts, List.map_append]
end

theorem upd_at {H : Hp} {e : Addr} {o : HO} (_ : H e = none) : (upd H e o) e = some o := upd_same
theorem op_catTK {X : Cx} {K : PySem.W.Frag} (h : X.K = K) : OpR X (binaryOp .Add) (rCatT K) := by
  subst h
  exact op_catT
theorem sl_tupK {X : Cx} {K : PySem.W.Frag} (h : X.K = K) : SlR X (rSlT K) := by
  subst h
  exact sl_tup
theorem cut_midA {us : List V} {a e : Nat} (he : a + e ≤ us.length) : cutV us (some ((a : Nat) : Int)) (some (((a + e : Nat)) : Int)) = (us.drop a).take e := by
  unfold cutV
  rw [HT.sIx_nat, HT.sIx_nat, Nat.min_eq_left (show a ≤ us.length by omega), Nat.min_eq_left he, show a + e - a = e by omega]
theorem tups_lst {H : Hp} {D : Addr} {xs : List V} {o : HO} (h : H D = some (.lst xs)) : Tups H (upd H D o) := fun c ys e => by
  rw [upd_ne (fun z => by rw [z, h] at e; cases e)]
  exact e
theorem tail_cut (r : Rw) : cutV (rwV r) (some 1) none = (rwV r).drop 1 := by rfl

/-! ### Grammar(..) -/
structure Gm where
  nm : Str
  sk : Str
  ks : Addr
  rs : Addr
  al : Addr
  hd : Addr
  re : Addr
  inn : Addr
  st : Addr
def gfl (g : Gm) : List (Str × V) := putF "steps" (.ref g.st) (putF "inner" (.ref g.inn) (putF "recover" (.ref g.re) (putF "hidden" (.ref g.hd) (putF "alternatives" (.ref g.al) (putF "rules" (.ref g.rs) (putF "kinds" (.ref g.ks) (putF "skip" (.str g.sk) (putF "name" (.str g.nm) []))))))))
theorem gf_name (g : Gm) : (gfl g).lookup ("name" : Str) = some (.str g.nm) := by
  unfold gfl
  rw [lookup_putF, if_neg (by decide +kernel), lookup_putF, if_neg (by decide +kernel), lookup_putF, if_neg (by decide +kernel), lookup_putF, if_neg (by decide +kernel), lookup_putF, if_neg (by decide +kernel), lookup_putF, if_neg (by decide +kernel), lookup_putF, if_neg (by decide +kernel), lookup_putF, if_neg (by decide +kernel), lookup_putF, if_pos rfl]
theorem gf_skip (g : Gm) : (gfl g).lookup ("skip" : Str) = some (.str g.sk) := by
  unfold gfl
  rw [lookup_putF, if_neg (by decide +kernel), lookup_putF, if_neg (by decide +kernel), lookup_putF, if_neg (by decide +kernel), lookup_putF, if_neg (by decide +kernel), lookup_putF, if_neg (by decide +kernel), lookup_putF, if_neg (by decide +kernel), lookup_putF, if_neg (by decide +kernel), lookup_putF, if_pos rfl]
theorem gf_kinds (g : Gm) : (gfl g).lookup ("kinds" : Str) = some (.ref g.ks) := by
  unfold gfl
  rw [lookup_putF, if_neg (by decide +kernel), lookup_putF, if_neg (by decide +kernel), lookup_putF, if_neg (by decide +kernel), lookup_putF, if_neg (by decide +kernel), lookup_putF, if_neg (by decide +kernel), lookup_putF, if_neg (by decide +kernel), lookup_putF, if_pos rfl]
theorem gf_rules (g : Gm) : (gfl g).lookup ("rules" : Str) = some (.ref g.rs) := by
  unfold gfl
  rw [lookup_putF, if_neg (by decide +kernel), lookup_putF, if_neg (by decide +kernel), lookup_putF, if_neg (by decide +kernel), lookup_putF, if_neg (by decide +kernel), lookup_putF, if_neg (by decide +kernel), lookup_putF, if_pos rfl]
theorem gf_alternatives (g : Gm) : (gfl g).lookup ("alternatives" : Str) = some (.ref g.al) := by
  unfold gfl
  rw [lookup_putF, if_neg (by decide +kernel), lookup_putF, if_neg (by decide +kernel), lookup_putF, if_neg (by decide +kernel), lookup_putF, if_neg (by decide +kernel), lookup_putF, if_pos rfl]
theorem gf_hidden (g : Gm) : (gfl g).lookup ("hidden" : Str) = some (.ref g.hd) := by
  unfold gfl
  rw [lookup_putF, if_neg (by decide +kernel), lookup_putF, if_neg (by decide +kernel), lookup_putF, if_neg (by decide +kernel), lookup_putF, if_pos rfl]
theorem gf_recover (g : Gm) : (gfl g).lookup ("recover" : Str) = some (.ref g.re) := by
  unfold gfl
  rw [lookup_putF, if_neg (by decide +kernel), lookup_putF, if_neg (by decide +kernel), lookup_putF, if_pos rfl]
theorem gf_inner (g : Gm) : (gfl g).lookup ("inner" : Str) = some (.ref g.inn) := by
  unfold gfl
  rw [lookup_putF, if_neg (by decide +kernel), lookup_putF, if_pos rfl]
theorem gf_steps (g : Gm) : (gfl g).lookup ("steps" : Str) = some (.ref g.st) := by
  unfold gfl
  rw [lookup_putF, if_pos rfl]
/-- a grammar's object -/
def GramAt (C : Addr) (H : Hp) (p : Addr) (g : Gm) : Prop := ∃ dx, H p = some (.ins C dx (gfl g))
theorem GramAt.same {C : Addr} {H H' : Hp} {p : Addr} {g : Gm} (h : GramAt C H p g) (s : Same H H') : GramAt C H' p g := by
  obtain ⟨dx, h⟩ := h
  exact ⟨dx, s _ _ h⟩
def spGInit (K : PySem.W.Frag) (C : Addr) : Sp := fun vs H Q _ => ∃ (p dx : Addr) (g : Gm), H p = some (.ins C dx []) ∧ vs = [.ref p, .str g.nm, .ref g.ks, .ref g.rs, .ref g.al, .str g.sk, .ref g.hd, .ref g.re, .ref g.inn, .ref g.st] ∧
  (∃ us, SqT K H g.ks us) ∧ (∃ us, SqT K H g.rs us) ∧ (∃ us, SqT K H g.al us) ∧ (∃ us, SqT K H g.hd us) ∧ (∃ us, SqT K H g.re us) ∧ (∃ us, SqT K H g.inn us) ∧ (∃ us, SqT K H g.st us) ∧ Q .non (upd H p (.ins C dx (gfl g)))
theorem ok_Grammar_init (T : Txt K mg) : FnOk P w K mg base CX0 1 T.a_Grammar_init T.fd_Grammar_init psG (spGInit K T.C_Grammar) := by
  refine T.F_Grammar_init.ok sc_Grammar_init (fun vs H Q E h => ?_) (fun cdv A outer s H vs Q E hr h => ?_)
  · obtain ⟨p, dx, g, _, rfl, _⟩ := h
    rfl
  · obtain ⟨p, dx, g, hp, rfl, ⟨u1, h1⟩, ⟨u2, h2⟩, ⟨u3, h3⟩, ⟨u4, h4⟩, ⟨u5, h5⟩, ⟨u6, h6⟩, ⟨u7, h7⟩, q⟩ := h
    refine ⟨_, (pss_cons (ps_fld (pv 0) (pv 1) rfl)
      (pss_cons (ps_fld (pv 0) (pv 5) rfl)
      (pss_cons (ps_fld (pv 0) (pe_callTy call_tuple_of (by rfl) T.m_tuple (by decide +kernel) (pa_cons (pv 2) pa_nil)) rfl)
      (pss_cons (ps_fld (pv 0) (pe_callTy call_tuple_of (by rfl) T.m_tuple (by decide +kernel) (pa_cons (pv 3) pa_nil)) rfl)
      (pss_cons (ps_fld (pv 0) (pe_callTy call_tuple_of (by rfl) T.m_tuple (by decide +kernel) (pa_cons (pv 4) pa_nil)) rfl)
      (pss_cons (ps_fld (pv 0) (pe_callTy call_tuple_of (by rfl) T.m_tuple (by decide +kernel) (pa_cons (pv 6) pa_nil)) rfl)
      (pss_cons (ps_fld (pv 0) (pe_callTy call_tuple_of (by rfl) T.m_tuple (by decide +kernel) (pa_cons (pv 7) pa_nil)) rfl)
      (pss_cons (ps_fld (pv 0) (pe_callTy call_tuple_of (by rfl) T.m_tuple (by decide +kernel) (pa_cons (pv 8) pa_nil)) rfl)
      (pss_one (ps_fld (pv 0) (pe_callTy call_tuple_of (by rfl) T.m_tuple (by decide +kernel) (pa_cons (pv 9) pa_nil)) rfl)))))))))), ?_⟩
    have ln0 : ([] : List (Str × V)).length = 0 := rfl
    have l1 := putF_le "name" (.str g.nm) ([])
    have l2 := putF_le "skip" (.str g.sk) (putF "name" (.str g.nm) ([]))
    have l3 := putF_le "kinds" (.ref g.ks) (putF "skip" (.str g.sk) (putF "name" (.str g.nm) ([])))
    have l4 := putF_le "rules" (.ref g.rs) (putF "kinds" (.ref g.ks) (putF "skip" (.str g.sk) (putF "name" (.str g.nm) ([]))))
    have l5 := putF_le "alternatives" (.ref g.al) (putF "rules" (.ref g.rs) (putF "kinds" (.ref g.ks) (putF "skip" (.str g.sk) (putF "name" (.str g.nm) ([])))))
    have l6 := putF_le "hidden" (.ref g.hd) (putF "alternatives" (.ref g.al) (putF "rules" (.ref g.rs) (putF "kinds" (.ref g.ks) (putF "skip" (.str g.sk) (putF "name" (.str g.nm) ([]))))))
    have l7 := putF_le "recover" (.ref g.re) (putF "hidden" (.ref g.hd) (putF "alternatives" (.ref g.al) (putF "rules" (.ref g.rs) (putF "kinds" (.ref g.ks) (putF "skip" (.str g.sk) (putF "name" (.str g.nm) ([])))))))
    have l8 := putF_le "inner" (.ref g.inn) (putF "recover" (.ref g.re) (putF "hidden" (.ref g.hd) (putF "alternatives" (.ref g.al) (putF "rules" (.ref g.rs) (putF "kinds" (.ref g.ks) (putF "skip" (.str g.sk) (putF "name" (.str g.nm) ([]))))))))
    have l9 := putF_le "steps" (.ref g.st) (putF "inner" (.ref g.inn) (putF "recover" (.ref g.re) (putF "hidden" (.ref g.hd) (putF "alternatives" (.ref g.al) (putF "rules" (.ref g.rs) (putF "kinds" (.ref g.ks) (putF "skip" (.str g.sk) (putF "name" (.str g.nm) ([])))))))))
    refine ⟨_, rfl, _, rfl, p, _, dx, _, rfl, hp, T.CL_Grammar, T.NA_Grammar_name, by omega, ?_⟩
    refine ⟨_, rfl, _, rfl, p, _, dx, _, rfl, upd_same, T.CL_Grammar, T.NA_Grammar_skip, by omega, ?_⟩
    rw [upd_upd]
    refine ⟨_, rfl, _, u1, rfl, .inr ⟨sqT_updI h1 hp, _, rfl, p, _, dx, _, rfl, upd_same, T.CL_Grammar, T.NA_Grammar_kinds, by omega, ?_⟩⟩
    rw [upd_upd]
    refine ⟨_, rfl, _, u2, rfl, .inr ⟨sqT_updI h2 hp, _, rfl, p, _, dx, _, rfl, upd_same, T.CL_Grammar, T.NA_Grammar_rules, by omega, ?_⟩⟩
    rw [upd_upd]
    refine ⟨_, rfl, _, u3, rfl, .inr ⟨sqT_updI h3 hp, _, rfl, p, _, dx, _, rfl, upd_same, T.CL_Grammar, T.NA_Grammar_alternatives, by omega, ?_⟩⟩
    rw [upd_upd]
    refine ⟨_, rfl, _, u4, rfl, .inr ⟨sqT_updI h4 hp, _, rfl, p, _, dx, _, rfl, upd_same, T.CL_Grammar, T.NA_Grammar_hidden, by omega, ?_⟩⟩
    rw [upd_upd]
    refine ⟨_, rfl, _, u5, rfl, .inr ⟨sqT_updI h5 hp, _, rfl, p, _, dx, _, rfl, upd_same, T.CL_Grammar, T.NA_Grammar_recover, by omega, ?_⟩⟩
    rw [upd_upd]
    refine ⟨_, rfl, _, u6, rfl, .inr ⟨sqT_updI h6 hp, _, rfl, p, _, dx, _, rfl, upd_same, T.CL_Grammar, T.NA_Grammar_inner, by omega, ?_⟩⟩
    rw [upd_upd]
    refine ⟨_, rfl, _, u7, rfl, .inr ⟨sqT_updI h7 hp, _, rfl, p, _, dx, _, rfl, upd_same, T.CL_Grammar, T.NA_Grammar_steps, by omega, ?_⟩⟩
    rw [upd_upd]
    exact q

/-! ### ways, labels, the children of a node -/
structure Way where
  hd : Str
  sy : List Str
  lb : List Str
def WayAt (H : Hp) (v : V) (w : Way) : Prop := ∃ g s l, v = .ref g ∧ H g = some (.tup [.str w.hd, .ref s, .ref l, .str ""]) ∧ H s = some (.tup (w.sy.map V.str)) ∧ H l = some (.tup (w.lb.map V.str))
theorem WayAt.tups {H H' : Hp} {v : V} {w : Way} (h : WayAt H v w) (t : Tups H H') : WayAt H' v w := by
  obtain ⟨g, s, l, e, h1, h2, h3⟩ := h
  exact ⟨g, s, l, e, t _ _ h1, t _ _ h2, t _ _ h3⟩
def labsOf (al : List Way) (d : Nd) (n : Nat) : List Str := if 0 ≤ d.alt then (match al[d.alt.toNat]? with | some w => w.lb | none => []) else List.replicate n ""
abbrev Sn := Int × Str × Tr
def labOr (out l : Str) : Str := if l = "" then out else l
def chL : List Str → List Tr → Int → Str → List Sn
  | l :: ls, k :: ks, o, out => (o, labOr out l, k) :: chL ls ks (o + k.d.wid) out
  | _, _, _, _ => []
theorem chL_snoc {l : Str} {k : Tr} {out : Str} : ∀ {ls : List Str} {ks : List Tr} {o : Int}, ls.length = ks.length → chL (ls ++ [l]) (ks ++ [k]) o out = chL ls ks o out ++ [(o + sumZ (wids ks), labOr out l, k)]
  | [], [], o, _ => by
    show [(o, labOr out l, k)] = [(o + 0, labOr out l, k)]
    rw [Int.add_zero]
  | a :: ls, b :: ks, o, h => by
    have ih := chL_snoc (l := l) (k := k) (out := out) (ls := ls) (ks := ks) (o := o + b.d.wid) (by simpa using h)
    show (o, labOr out a, b) :: chL (ls ++ [l]) (ks ++ [k]) (o + b.d.wid) out = _
    rw [ih]
    show _ = (o, labOr out a, b) :: (chL ls ks (o + b.d.wid) out ++ [(o + (b.d.wid + sumZ (wids ks)), labOr out l, k)])
    rw [Int.add_assoc]
mutual
/-- alternatives have as many labels as the node has children -/
def AltOk (al : List Way) : Tr → Prop
  | .mk _ d ks => (0 ≤ d.alt → ∃ w, al[d.alt.toNat]? = some w ∧ w.lb.length = ks.length) ∧ AltsOk al ks
def AltsOk (al : List Way) : List Tr → Prop
  | [] => True
  | t :: ts => AltOk al t ∧ AltsOk al ts
end
theorem AltsOk.mem {al : List Way} : ∀ {ts : List Tr} {t : Tr}, AltsOk al ts → t ∈ ts → AltOk al t
  | _ :: _, _, ⟨h1, h2⟩, hm => by
    rcases List.mem_cons.mp hm with rfl | hm
    · exact h1
    · exact AltsOk.mem h2 hm
theorem AltOk.kid {al : List Way} : ∀ {t c : Tr}, AltOk al t → c ∈ t.ks → AltOk al c
  | .mk _ _ _, _, h, hc => AltsOk.mem h.2 hc
theorem AltOk.labs {al : List Way} : ∀ {t : Tr}, AltOk al t → (labsOf al t.d t.ks.length).length = t.ks.length
  | .mk _ d ks, h => by
    show (labsOf al d ks.length).length = ks.length
    unfold labsOf
    split
    · rename_i h0
      obtain ⟨w, e, l⟩ := h.1 h0
      rw [e]
      exact l
    · exact List.length_replicate
def ShortW (al : List Way) : Prop := ∀ w ∈ al, ∀ l ∈ w.lb, l.length ≤ 100
theorem ShortW.labs {al : List Way} (h : ShortW al) (d : Nd) (n : Nat) : ∀ l ∈ labsOf al d n, l.length ≤ 100 := fun l hl => by
  unfold labsOf at hl
  split at hl
  · cases e : al[d.alt.toNat]? with
    | none =>
      rw [e] at hl
      exact absurd hl List.not_mem_nil
    | some w =>
      rw [e] at hl
      exact h w (List.mem_of_getElem? e) l hl
  · rw [(List.mem_replicate.mp hl).2]
    decide
def SnAt (H : Hp) (v : V) (x : Sn) : Prop := ∃ g, v = .ref g ∧ H g = some (.tup [.int x.1, .str x.2.1, .ref x.2.2.at])
theorem SnAt.tups {H H' : Hp} {v : V} {x : Sn} (h : SnAt H v x) (t : Tups H H') : SnAt H' v x := by
  obtain ⟨g, e, h⟩ := h
  exact ⟨g, e, t _ _ h⟩
theorem len_zero {x : Str} : x.length = 0 ↔ x = "" := by
  rw [len_cs, List.length_eq_zero_iff]
  exact ⟨fun h => cs_inj (by rw [h]; rfl), fun h => by rw [h]; rfl⟩
theorem or_lab {i j : Nat} {l out : Str} {σ : L2.St} {H : Hp} {Q : VK} (hi : σ[i]? = some (some (.str l))) (hj : σ[j]? = some (some (.str out))) (hl : l.length ≤ 100) (q : Q (.str (labOr out l)) H) : tOrT K (tVar i) (tVar j) σ H Q := by
  refine ⟨_, hi, _, ⟨Nat.le_trans hl (by decide), rfl⟩, ?_⟩
  unfold labOr at q
  by_cases e : l = ""
  · rw [if_pos e] at q
    have z : ((l.length : Int) != 0) = false := by
      rw [len_zero.mpr e]
      rfl
    rw [z]
    exact iteF ⟨_, hj, q⟩
  · rw [if_neg e] at q
    have z : ((l.length : Int) != 0) = true := by
      have := fun h => e (len_zero.mp h)
      simp
      omega
    rw [z]
    exact iteT q
/-- a grammar's alternatives and hidden names -/
structure GrIn (K : PySem.W.Frag) (C : Addr) (H : Hp) (p : Addr) (g : Gm) (al : List Way) (hid : List Str) : Prop where
  at_ : GramAt C H p g
  als : ∃ us, H g.al = some (.tup us) ∧ Paired (WayAt H) us al
  hds : H g.hd = some (.tup (hid.map V.str))
  sh : ShortW al
theorem GrIn.same {C : Addr} {H H' : Hp} {p : Addr} {g : Gm} {al : List Way} {hid : List Str} (h : GrIn K C H p g al hid) (s : Same H H') : GrIn K C H' p g al hid := by
  obtain ⟨us, h1, h2⟩ := h.als
  exact ⟨h.at_.same s, ⟨us, s _ _ h1, Paired.mapP h2 fun _ _ x => x.tups fun b xs e => s b _ e⟩, s _ _ h.hds, h.sh⟩
theorem sqL_same {H H' : Hp} {a : Addr} {us : List V} (h : SqL K H a us) (s : Same H H') : SqL K H' a us := by
  rcases h with (h | ⟨o, h⟩) | h
  · exact .inl (.inl (s _ _ h))
  · exact .inl (.inr ⟨o, s _ _ h⟩)
  · exact .inr h
theorem paired_rev {α β : Type} {F : α → β → Prop} : ∀ {xs : List α} {ys : List β}, Paired F xs ys → Paired F xs.reverse ys.reverse
  | _, _, .nil => .nil
  | x :: xs, y :: ys, .cons h t => by
    rw [List.reverse_cons, List.reverse_cons]
    exact paired_app (paired_rev t) (.cons h .nil)
theorem rep_strs (n : Nat) : (List.replicate n [V.str ""]).flatten = (List.replicate n ("" : Str)).map V.str := by
  rw [List.map_replicate]
  induction n with
  | zero => rfl
  | succ n ih =>
    rw [List.replicate_succ, List.replicate_succ, List.flatten_cons, ih]
    rfl
def spChildren (K : PySem.W.Frag) (C CG : Addr) : Sp := fun vs H Q _ => ∃ (p : Addr) (g : Gm) (al : List Way) (hid : List Str) (t : Tr) (o : Int) (out : Str), vs = [.ref p, .ref t.at, .int o, .str out] ∧ GrIn K CG H p g al hid ∧ NodeAt K C H t ∧ AltOk al t ∧ t.ats.length ≤ 5000 ∧
  ∀ D us H', Same H H' → H D = none → H' D = some (.lst us) → Paired (SnAt H') us (chL (labsOf al t.d t.ks.length) t.ks o out).reverse → Q (.ref D) H'
theorem ok_children (T : Txt K mg) : FnOk P w K mg base CX0 1 T.a_children T.fd_children ["grammar", "node", "offset", "outer"] (spChildren K T.C_Node T.C_Grammar) := by
  refine T.F_children.ok sc_children (fun vs H Q E h => ?_) (fun cdv A outer s H vs Q E hr h => ?_)
  · obtain ⟨p, g, al, hid, t, o, out, rfl, _⟩ := h
    rfl
  · obtain ⟨p, g, al, hid, t, o, out, rfl, hG, hn, hA, hz, q⟩ := h
    refine ⟨_, (pss_cons (ps_set (i := 4) sc_children.nd rfl (.inl rfl) (pe_op op_rep (pe_lst (pa_cons pe_str pa_nil)) (pe_callB call_len_seq (by rfl) T.m_len PySem.boot_len (pa_cons (pe_fld (pv 1) rfl) pa_nil))))
      (C8.pss_cut (ps_if (pt_cmpR op_ge (pe_fld (pv 1) rfl) pe_int (nomark _)) (pss_one (ps_set (i := 4) sc_children.nd rfl (.inl rfl) (pe_ix ix_tup (pe_ix ix_tup (pe_fld (pv 0) rfl) (pe_fld (pv 1) rfl) (fun _ _ => rfl)) pe_int (fun _ _ => rfl)))) pss_nil)
      (pss_cons (ps_set (i := 5) sc_children.nd rfl (.inl rfl) (pe_lst pa_nil))
      (pss_cons (ps_for PassesOwn.never rfl (OwnOp.pi_zipM (by rfl) T.m_zip (pa_cons (pv 4) (pa_cons (pe_fld (pv 1) rfl) pa_nil))) (pg_tup (by rfl) (pgs_cons (pg_name (i := 6) sc_children.nd rfl (.inl rfl)) (pgs_cons (pg_name (i := 7) sc_children.nd rfl (.inl rfl)) pgs_nil))) (pss_cons (ps_expr (pe_bm PySem.F.plainAttrs_list PySem.F.slot_list_append PySem.F.type_list_append mt_append (pv 5) (pa_cons (pe_tup (pa_cons (pv 2) (pa_cons (pe_orT (pv 6) (pe_one (pv 3))) (pa_cons (pv 7) pa_nil)))) pa_nil)))
      (pss_one (ps_set (i := 2) sc_children.nd rfl (.inl rfl) (pe_op op_add (pv 2) (pe_fld (pv 7) rfl))))))
      (pss_cons (ps_expr (pe_bm0 PySem.F.plainAttrs_list PySem.F.slot_list_reverse PySem.F.type_list_reverse mt_reverse (pv 5)))
      (pss_one (ps_ret (pv 5)))))))), ?_⟩
    obtain ⟨dx, tp, ht, sq⟩ := hn.it
    have lk := kids_le t
    have lls := hA.labs
    obtain ⟨ls, hls⟩ : ∃ ls, ls = labsOf al t.d t.ks.length := ⟨_, rfl⟩
    have lsh := hG.sh.labs t.d t.ks.length
    rw [← hls] at lls q lsh
    refine ⟨by show 1 ≤ sizeLine; decide, fun l0 nl0 => ?_⟩
    have s0 := same_upd (o := .lst [.str ""]) nl0
    have ht1 := s0 _ _ ht
    refine ⟨_, rfl, _, _, _, _, _, rfl, ht1, T.CL_Node, T.NA_Node_nodes, nf_nodes _ _, tp, _, rfl, .inr ((Keeps.of (C := T.C_Node) s0).tup _ _ sq), ?_⟩
    have lks : (t.ks.map fun t => V.ref t.at).length = t.ks.length := List.length_map ..
    rw [lks]
    refine ⟨l0, _, _, rfl, rfl, upd_same, by omega, by omega, ?_, fun la nla => ?_⟩
    · show 1 * ((t.ks.length : Nat) : Int).toNat ≤ sizeLine
      exact Nat.le_trans (show 1 * ((t.ks.length : Nat) : Int).toNat ≤ 5000 by omega) (by decide)
    rw [show ((t.ks.length : Nat) : Int).toNat = t.ks.length by omega, rep_strs]
    have s1 := s0.trans (same_upd (o := .lst ((List.replicate t.ks.length ("" : Str)).map V.str)) nla)
    have ht2 := s1 _ _ ht
    refine ⟨fun σ H' => Same H H' ∧ ∃ la : Addr, σ = [some (.ref p), some (.ref t.at), some (.int o), some (.str out), some (.ref la), none, none, none] ∧ (SqL K H' la (ls.map V.str) ∨ SqT K H' la (ls.map V.str)), ?_, ?_⟩
    · refine ⟨_, rfl, _, _, _, _, _, rfl, ht2, T.CL_Node, T.NA_Node_alternative, nf_alternative _ _, _, _, rfl, rfl, _, rfl, ite2 (fun hc => ?_) (fun hc => ?_)⟩
      · have hc : (0 : Int) ≤ t.d.alt := of_decide_eq_true hc
        obtain ⟨w, hw, lw⟩ : ∃ w, al[t.d.alt.toNat]? = some w ∧ w.lb.length = t.ks.length := by
          cases t
          exact hA.1 hc
        have hG2 := hG.same s1
        obtain ⟨us, hal, pal⟩ := hG2.als
        obtain ⟨v, hv, gw, sw, lw2, rfl, h1, h2, h3⟩ := paired_get pal hw
        obtain ⟨dg, hg2⟩ := hG2.at_
        refine ⟨_, rfl, _, _, _, _, _, rfl, hg2, T.CL_Grammar, T.NA_Grammar_alternatives, gf_alternatives _, _, rfl, _, _, _, _, _, rfl, ht2, T.CL_Node, T.NA_Node_alternative, nf_alternative _ _, g.al, us, _, .ref gw, rfl, rfl, SqT.of hal, ?_, gw, _, 2, .ref lw2, rfl, rfl, SqT.of h1, rfl, ?_⟩
        · rw [show t.d.alt = ((t.d.alt.toNat : Nat) : Int) by omega]
          exact atI_nat hv
        · refine ⟨s1, lw2, rfl, .inr (SqT.of ?_)⟩
          have e : ls = w.lb := by
            rw [hls]
            unfold labsOf
            rw [if_pos hc, hw]
          rw [e]
          exact h3
      · have hc : ¬ (0 : Int) ≤ t.d.alt := fun z => hc (decide_eq_true z)
        refine ⟨s1, la, rfl, .inl (SqL.of ?_)⟩
        have e : ls = List.replicate t.ks.length ("" : Str) := by
          rw [hls]
          unfold labsOf
          rw [if_neg hc]
        rw [e]
        exact upd_same
    clear s0 s1 ht1 ht2
    rintro σ H1 ⟨s1, la2, rfl, hla⟩
    refine ⟨by show 0 ≤ sizeLine; decide, fun D nD => ?_⟩
    have s12 := same_upd (o := .lst []) nD
    have s2 := s1.trans s12
    have ht2 := s2 _ _ ht
    have sq2 := (Keeps.of (C := T.C_Node) s2).tup _ _ sq
    have slk : (ls.map V.str).length = t.ks.length := by rw [List.length_map]; exact lls
    obtain ⟨kd, hkd⟩ : ∃ kd, OwnOp.SqX kd K H1 la2 (ls.map V.str) := by
      rcases hla with h | h
      · exact ⟨true, h⟩
      · exact ⟨false, h⟩
    have keepX : ∀ {H' : Hp}, Same H1 H' → OwnOp.SqX kd K H' la2 (ls.map V.str) := fun {H'} s => by
      cases kd with
      | true => exact sqL_same (K := K) hkd s
      | false => exact (Keeps.of (K := K) (C := T.C_Node) s).tup _ _ hkd
    refine ⟨_, rfl, _, rfl, _, _, _, _, _, rfl, ht2, T.CL_Node, T.NA_Node_nodes, nf_nodes _ _, la2, tp, ls.map V.str, _, t.ks.length, kd, rfl, sq2, keepX s12, slk, lks, fun J W => ?_⟩
    refine for_it W (fun i σ H' => i ≤ t.ks.length ∧ Same H1 H' ∧ (∃ y6 y7 : Option V, σ = [some (.ref p), some (.ref t.at), some (.int (o + sumZ (wids (t.ks.take i)))), some (.str out), some (.ref la2), some (.ref D), y6, y7]) ∧ ∃ us, H' D = some (.lst us) ∧ us.length = i ∧ Paired (SnAt H') us (chL (ls.take i) (t.ks.take i) o out))
      ⟨Nat.zero_le _, s12, ⟨none, none, by rw [show o + sumZ (wids (t.ks.take 0)) = o from Int.add_zero o]; rfl⟩, [], upd_same, rfl, .nil⟩ (fun i σ H' _ ⟨_, sm, _⟩ => ⟨keepX sm, (Keeps.of (C := T.C_Node) (s1.trans sm)).tup _ _ sq⟩) ?_ ?_
    · rintro i v σ H2 H3 hi ⟨_, sm, ⟨y6, y7, rfl⟩, us, hD, lus, pus⟩ ⟨T1, x, y, rfl, nT, rfl, hx, hy⟩
      have hx : (ls.map V.str)[i]? = some x := hx
      have hy : (t.ks.map fun t => V.ref t.at)[i]? = some y := hy
      rw [List.getElem?_map] at hx hy
      obtain ⟨l1, hl1⟩ : ∃ l, ls[i]? = some l := ⟨_, List.getElem?_eq_getElem (by omega)⟩
      obtain ⟨k1, hk1⟩ : ∃ k, t.ks[i]? = some k := ⟨_, List.getElem?_eq_getElem hi⟩
      rw [hl1] at hx
      rw [hk1] at hy
      obtain rfl : V.str l1 = x := Option.some.inj hx
      obtain rfl : V.ref k1.at = y := Option.some.inj hy
      have nk : NodeAt K T.C_Node H k1 := by
        cases t with
        | mk p d ks => exact NodesAt.mem hn.2 (List.mem_of_getElem? hk1)
      obtain ⟨dk, tk, hk, _⟩ := nk.it
      have s3 := same_upd (o := .tup [.str l1, .ref k1.at]) nT
      have hD3 := s3 _ _ hD
      have ht3 := (s1.trans sm).trans s3 _ _ hk
      refine ⟨T1, _, rfl, SqT.of upd_same, rfl, _, _, rfl, _, _, rfl, rfl, ?_⟩
      refine ⟨_, rfl, .inl ⟨rfl, _, SqL.of hD3⟩, _, rfl, ?_⟩
      refine or_lab rfl rfl (lsh l1 (List.mem_of_getElem? hl1)) ?_
      refine ⟨_, rfl, by show 3 ≤ sizeLine; decide, fun g4 ng4 => ?_⟩
      have s4 := same_upd (o := .tup [.int (o + sumZ (wids (t.ks.take i))), .str (labOr out l1), .ref k1.at]) ng4
      have hD4 := s4 _ _ hD3
      refine ⟨D, _, _, rfl, rfl, hD4, sz2 (by omega), ?_⟩
      have tu : Tups H2 _ := Tups.trans (fun b xs e => (s3.trans s4) b _ e) (tups_lst (o := .lst (us ++ [.ref g4])) hD4)
      have sm5 := same_mut (o := .lst (us ++ [.ref g4])) ((sm.trans s3).trans s4) nD
      have hk5 := s1.trans sm5 _ _ hk
      have e1 : o + sumZ (wids (t.ks.take (i + 1))) = o + sumZ (wids (t.ks.take i)) + k1.d.wid := by
        rw [takeN hk1]
        unfold wids
        rw [List.map_append, sumZ_app]
        show o + (_ + (k1.d.wid + 0)) = _
        rw [Int.add_zero, Int.add_assoc]
      refine ⟨_, rfl, _, rfl, _, _, _, _, _, rfl, hk5, T.CL_Node, T.NA_Node_width, nf_width _ _, _, _, rfl, rfl, hi, sm5, ⟨some (.str l1), some (.ref k1.at), by rw [e1]; rfl⟩, us ++ [.ref g4], upd_same, by rw [List.length_append, lus]; rfl, ?_⟩
      · rw [takeN hl1, takeN hk1, chL_snoc (by rw [List.length_take, List.length_take]; omega)]
        exact paired_app (Paired.mapP pus fun _ _ x => x.tups tu) (.cons ⟨g4, rfl, tups_lst hD4 _ _ upd_same⟩ .nil)
    · rintro σ H2 ⟨_, sm, ⟨y6, y7, rfl⟩, us, hD, lus, pus⟩
      rw [List.take_of_length_le (by omega), List.take_length] at pus
      have sm5 := same_mut (o := .lst us.reverse) sm nD
      refine ⟨_, rfl, .inl ⟨rfl, _, SqL.of hD⟩, D, _, rfl, rfl, hD, ?_⟩
      refine ⟨_, rfl, q D us.reverse _ (s1.trans sm5) (s1.free nD) upd_same ?_⟩
      exact paired_rev (Paired.mapP pus fun _ _ x => x.tups (tups_lst hD))

/-! ### what is seen below a node -/
mutual
def seeT (al : List Way) (hid : List Str) : Tr → Int → Str → List Sn
  | .mk p d ks, o, lab => if d.kind ∈ hid then seeKs al hid ks (labsOf al d ks.length) o lab else [(o, lab, .mk p d ks)]
def seeKs (al : List Way) (hid : List Str) : List Tr → List Str → Int → Str → List Sn
  | k :: ks, l :: ls, o, out => seeT al hid k o (labOr out l) ++ seeKs al hid ks ls (o + k.d.wid) out
  | _, _, _, _ => []
end
def seeSn (al : List Way) (hid : List Str) (st : List Sn) : List Sn := (st.map fun x => seeT al hid x.2.2 x.1 x.2.1).flatten
theorem seeSn_cons (al : List Way) (hid : List Str) (x : Sn) (st : List Sn) : seeSn al hid (x :: st) = seeT al hid x.2.2 x.1 x.2.1 ++ seeSn al hid st := rfl
theorem seeSn_app (al : List Way) (hid : List Str) (a b : List Sn) : seeSn al hid (a ++ b) = seeSn al hid a ++ seeSn al hid b := by
  unfold seeSn
  rw [List.map_append, List.flatten_append]
theorem see_ch (al : List Way) (hid : List Str) : ∀ (ks : List Tr) (ls : List Str) (o : Int) (out : Str), seeSn al hid (chL ls ks o out) = seeKs al hid ks ls o out
  | [], [], _, _ => rfl
  | [], _ :: _, _, _ => rfl
  | _ :: _, [], _, _ => rfl
  | k :: ks, l :: ls, o, out => by
    have ih := see_ch al hid ks ls (o + k.d.wid) out
    show seeT al hid k o (labOr out l) ++ seeSn al hid (chL ls ks (o + k.d.wid) out) = seeT al hid k o (labOr out l) ++ seeKs al hid ks ls (o + k.d.wid) out
    rw [ih]
theorem see_hid {al : List Way} {hid : List Str} {t : Tr} {o : Int} {lab : Str} (h : t.d.kind ∈ hid) : seeT al hid t o lab = seeSn al hid (chL (labsOf al t.d t.ks.length) t.ks o lab) := by
  cases t with
  | mk p d ks =>
    rw [see_ch]
    have h : d.kind ∈ hid := h
    show (if d.kind ∈ hid then _ else _) = _
    rw [if_pos h]
    rfl
theorem see_not {al : List Way} {hid : List Str} {t : Tr} {o : Int} {lab : Str} (h : ¬ t.d.kind ∈ hid) : seeT al hid t o lab = [(o, lab, t)] := by
  cases t with
  | mk p d ks =>
    have h : ¬ d.kind ∈ hid := h
    show (if d.kind ∈ hid then _ else _) = _
    rw [if_neg h]
def wS (st : List Sn) : Nat := (st.map fun x => x.2.2.ats.length).sum
theorem wS_app (a b : List Sn) : wS (a ++ b) = wS a + wS b := by
  unfold wS
  rw [List.map_append, List.sum_append]
theorem wS_ch : ∀ (ls : List Str) (ks : List Tr) (o : Int) (out : Str), wS (chL ls ks o out) ≤ (atsL ks).length
  | [], _, _, _ => Nat.zero_le _
  | _ :: _, [], _, _ => Nat.le_refl _
  | l :: ls, k :: ks, o, out => by
    have ih := wS_ch ls ks (o + k.d.wid) out
    show k.ats.length + wS (chL ls ks (o + k.d.wid) out) ≤ (k.ats ++ atsL ks).length
    rw [List.length_append]
    omega
theorem ats_ks (t : Tr) : t.ats.length = (atsL t.ks).length + 1 := by
  cases t
  rfl
theorem wS_len : ∀ st : List Sn, st.length ≤ wS st
  | [] => Nat.zero_le _
  | x :: st => by
    have ih := wS_len st
    have := ats_ks x.2.2
    show st.length + 1 ≤ x.2.2.ats.length + wS st
    omega
theorem ch_mem {x : Sn} : ∀ {ls : List Str} {ks : List Tr} {o : Int} {out : Str}, x ∈ chL ls ks o out → x.2.2 ∈ ks
  | [], _, _, _, h => absurd h List.not_mem_nil
  | _ :: _, [], _, _, h => absurd h List.not_mem_nil
  | l :: ls, k :: ks, o, out, h => by
    rcases List.mem_cons.mp h with rfl | h
    · exact List.mem_cons_self
    · exact List.mem_cons_of_mem _ (ch_mem h)
theorem inV_strs (x : Str) : ∀ xs : List Str, inV (.str x) (xs.map V.str) = decide (x ∈ xs)
  | [] => rfl
  | y :: xs => by
    have ih := inV_strs x xs
    have e : eqV (.str y) (.str x) = decide (x = y) := by
      show (y == x) = _
      rw [Bool.eq_iff_iff, beq_iff_eq, decide_eq_true_eq]
      exact ⟨Eq.symm, Eq.symm⟩
    show (eqV (.str y) (.str x) || inV (.str x) (xs.map V.str)) = _
    rw [e, ih, ← Bool.decide_or, decide_eq_decide, List.mem_cons]
theorem flat_strs (xs : List Str) : (xs.map V.str).all flatV = true := List.all_eq_true.mpr fun v hv => by
  obtain ⟨x, _, rfl⟩ := List.mem_map.mp hv
  rfl
theorem pop_last {F : V → Sn → Prop} {p : Sn} : ∀ (qs : List Sn) (vs : List V), Paired F vs (qs ++ [p]) → ∃ ws' x, vs = ws' ++ [x] ∧ Paired F ws' qs ∧ F x p := fun qs => by
  induction qs with
  | nil =>
    intro vs h
    cases h with
    | cons r t =>
      cases t
      exact ⟨[], _, rfl, .nil, r⟩
  | cons q0 qs ih =>
    intro vs h
    cases h with
    | cons r t =>
      obtain ⟨ws', x, rfl, h1, h2⟩ := ih _ t
      exact ⟨_ :: ws', x, rfl, .cons r h1, h2⟩
theorem last_of {α : Type} (ws : List α) (x : α) : (ws ++ [x])[(ws ++ [x]).length - 1]? = some x := by
  rw [List.length_append, List.length_singleton, Nat.add_sub_cancel, List.getElem?_append_right (Nat.le_refl _), Nat.sub_self]
  rfl
theorem if_nx {tt : L2.TT} {a b : L2.TS} {D D2 : L2.Ends} {σ : L2.St} {H : Hp} (h : tIfS tt a b D σ H) : ({ D2 with nx := tIfS tt a b D } : L2.Ends).nx σ H := h
def spSeen (K : PySem.W.Frag) (C CG : Addr) : Sp := fun vs H Q _ => ∃ (p : Addr) (g : Gm) (al : List Way) (hid : List Str) (t : Tr), vs = [.ref p, .ref t.at] ∧ GrIn K CG H p g al hid ∧ NodeAt K C H t ∧ AltOk al t ∧ t.ats.length ≤ 5000 ∧
  ∀ D us H', Same H H' → H D = none → H' D = some (.lst us) → Paired (SnAt H') us (seeKs al hid t.ks (labsOf al t.d t.ks.length) 0 "") → Q (.ref D) H'
theorem ok_seen (T : Txt K mg) : FnOk P w K mg base CX0 2 T.a_seen T.fd_seen ["grammar", "node"] (spSeen K T.C_Node T.C_Grammar) := by
  have G_children : FnOk P w K mg base CX0 1 T.a_children T.fd_children ["grammar", "node", "offset", "outer"] (spChildren K T.C_Node T.C_Grammar) := ok_children T
  refine T.F_seen.ok sc_seen (fun vs H Q E h => ?_) (fun cdv A outer s H vs Q E hr h => ?_)
  · obtain ⟨p, g, al, hid, t, rfl, _⟩ := h
    rfl
  · have hr_children : Room 1 _ := hr
    obtain ⟨p, g, al, hid, t, rfl, hG, hn, hA, hz, q⟩ := h
    refine ⟨_, (pss_cons (ps_set (i := 2) sc_seen.nd rfl (.inl rfl) (pe_lst pa_nil))
      (pss_cons (ps_set (i := 3) sc_seen.nd rfl (.inl rfl) (pe_call G_children hr_children (by rfl) T.g_children T.F_children.kp T.b_children .nil pass0 (pa_cons (pv 0) (pa_cons (pv 1) (pa_cons pe_int (pa_cons pe_str pa_nil))))))
      (pss_cons (ps_while PassesOwn.never (pt_truth (pv 3) (by intro _; rfl)) (pss_cons (ps_asg (pe_bm0 PySem.F.plainAttrs_list PySem.F.slot_list_pop PySem.F.type_list_pop mt_pop (pv 3)) (pg_tup (by rfl) (pgs_cons (pg_name (i := 4) sc_seen.nd rfl (.inl rfl)) (pgs_cons (pg_name (i := 5) sc_seen.nd rfl (.inl rfl)) (pgs_cons (pg_name (i := 6) sc_seen.nd rfl (.inl rfl)) pgs_nil)))))
      (pss_one (ps_if (pt_cmpR op_in_seq (pe_fld (pv 6) rfl) (pe_fld (pv 0) rfl) rfl) (pss_one (ps_expr (pe_bm PySem.F.plainAttrs_list PySem.F.slot_list_extend PySem.F.type_list_extend mt_extend (pv 3) (pa_cons (pe_call G_children hr_children (by rfl) T.g_children T.F_children.kp T.b_children .nil pass0 (pa_cons (pv 0) (pa_cons (pv 6) (pa_cons (pv 4) (pa_cons (pv 5) pa_nil))))) pa_nil)))) (pss_one (ps_expr (pe_bm PySem.F.plainAttrs_list PySem.F.slot_list_append PySem.F.type_list_append mt_append (pv 2) (pa_cons (pe_tup (pa_cons (pv 4) (pa_cons (pv 5) (pa_cons (pv 6) pa_nil)))) pa_nil))))))))
      (pss_one (ps_ret (pv 2)))))), ?_⟩
    refine ⟨by show 0 ≤ sizeLine; decide, fun D nD => ?_⟩
    have s0 := same_upd (o := .lst []) nD
    refine ⟨_, rfl, _, rfl, p, g, al, hid, t, 0, "", rfl, hG.same s0, hn.keep (Keeps.of s0), hA, hz, fun W us0 H1 s1 nW hW pus => ?_⟩
    have hDW : D ≠ W := fun z => by rw [← z, upd_same] at nW; cases nW
    have nW0 : H W = none := s0.free nW
    have s01 := s0.trans s1
    have hD1 := s1 _ _ (upd_same (a := D) (o := .lst []))
    refine g_seqD ?_
    refine while_nat (m0 := wS (chL (labsOf al t.d t.ks.length) t.ks 0 "")) (fun m σ H' => ∃ (fs ws : List V) (done st : List Sn) (y4 y5 y6 : Option V), σ = [some (.ref p), some (.ref t.at), some (.ref D), some (.ref W), y4, y5, y6] ∧ m = wS st ∧ Same H H' ∧ H' D = some (.lst fs) ∧ H' W = some (.lst ws) ∧ Paired (SnAt H') fs done ∧ Paired (SnAt H') ws st.reverse ∧
        done ++ seeSn al hid st = seeKs al hid t.ks (labsOf al t.d t.ks.length) 0 "" ∧ done.length + wS st ≤ 5000 ∧ ∀ x ∈ st, NodeAt K T.C_Node H x.2.2 ∧ AltOk al x.2.2)
      (fun σ H' => ∃ (fs : List V) (y4 y5 y6 : Option V), σ = [some (.ref p), some (.ref t.at), some (.ref D), some (.ref W), y4, y5, y6] ∧ Same H H' ∧ H' D = some (.lst fs) ∧ Paired (SnAt H') fs (seeKs al hid t.ks (labsOf al t.d t.ks.length) 0 ""))
      ⟨[], us0, [], chL (labsOf al t.d t.ks.length) t.ks 0 "", none, none, none, rfl, rfl, s01, hD1, hW, .nil, pus, see_ch .., by have := wS_ch (labsOf al t.d t.ks.length) t.ks 0 ""; have := ats_ks t; show 0 + _ ≤ _; omega, fun x hx => ?_⟩ ?_ ?_
    · have hm := ch_mem hx
      refine ⟨?_, hA.kid hm⟩
      cases t with
      | mk p d ks => exact NodesAt.mem hn.2 hm
    · rintro m σ H2 ⟨fs, ws, done, st, y4, y5, y6, rfl, rfl, s2, hD, hW2, pf, pw, es, lz, nd⟩
      have lw := paired_len pw
      have lf := paired_len pf
      cases st with
      | nil =>
        obtain rfl : ws = [] := List.eq_nil_of_length_eq_zero (by rw [lw]; rfl)
        have es : done ++ [] = _ := es
        rw [List.append_nil] at es
        exact ⟨false, fun Q hQ => ⟨_, rfl, false, .inl ⟨_, SqL.of hW2, rfl⟩, hQ⟩, fun c => (by cases c), fun _ => ⟨fs, _, _, _, rfl, s2, hD, by rw [← es]; exact pf⟩⟩
      | cons x st =>
        rw [List.reverse_cons] at pw
        obtain ⟨ws', v, rfl, pw', gx, rfl, hgx⟩ := pop_last _ _ pw
        refine ⟨true, fun Q hQ => ⟨_, rfl, true, .inl ⟨_, SqL.of hW2, by simp⟩, hQ⟩, fun _ => ?_, fun c => (by cases c)⟩
        refine ⟨_, rfl, .inl ⟨rfl, _, SqL.of hW2⟩, W, _, .ref gx, rfl, rfl, hW2, last_of _ _, ?_⟩
        rw [List.dropLast_concat]
        have tu3 := tups_lst (o := .lst ws') hW2
        have hgx3 := tu3 _ _ hgx
        have s3 := same_mut (o := .lst ws') s2 nW0
        obtain ⟨H3, hH3⟩ : ∃ H3, H3 = upd H2 W (.lst ws') := ⟨_, rfl⟩
        have hD3 : H3 D = some (.lst fs) := by rw [hH3, upd_ne hDW]; exact hD
        have hW3 : H3 W = some (.lst ws') := by rw [hH3]; exact upd_same
        rw [← hH3] at tu3 hgx3 s3 ⊢
        obtain ⟨o, lab, u⟩ := x
        obtain ⟨nu, au⟩ := nd _ List.mem_cons_self
        obtain ⟨du, tu, hu, _⟩ := nu.it
        have hG3 := hG.same s3
        obtain ⟨dg, hg3⟩ := hG3.at_
        have hu3 := s3 _ _ hu
        have hds3 := hG3.hds
        have wx : wS ((o, lab, u) :: st) = u.ats.length + wS st := rfl
        have wu := ats_ks u
        have wl := wS_len st
        have pf3 : Paired (SnAt H3) fs done := Paired.mapP pf fun _ _ z => z.tups tu3
        have pw3 : Paired (SnAt H3) ws' st.reverse := Paired.mapP pw' fun _ _ z => z.tups tu3
        refine ⟨gx, _, rfl, SqT.of hgx3, rfl, _, _, rfl, _, _, rfl, _, _, rfl, rfl, ?_⟩
        refine if_nx ?_
        refine ts_ite (A := u.d.kind ∈ hid) (fun Q q => ⟨_, rfl, _, _, _, _, _, rfl, hu3, T.CL_Node, T.NA_Node_kind, nf_kind _ _, _, rfl, _, _, _, _, _, rfl, hg3, T.CL_Grammar, T.NA_Grammar_hidden, gf_hidden _, g.hd, _, rfl, .inr (SqT.of hds3), rfl, flat_strs _, _, rfl, q _ ?_⟩) (fun hk => ?_) (fun hk => ?_)
        · show inV (.str u.d.kind) (hid.map V.str) = true ↔ _
          rw [inV_strs, decide_eq_true_eq]
        · refine ⟨_, rfl, .inl ⟨rfl, _, SqL.of hW3⟩, _, rfl, _, rfl, _, rfl, _, rfl, p, g, al, hid, u, o, lab, rfl, hG3, nu.keep (Keeps.of s3), au, by omega, fun Z us4 H4 s4 nZ hZ p4 => ?_⟩
          have hW4 := s4 _ _ hW3
          have hD4 := s4 _ _ hD3
          have lus4 := paired_len p4
          rw [List.length_reverse] at lus4
          have wch := wS_ch (labsOf al u.d u.ks.length) u.ks o lab
          have lch := wS_len (chL (labsOf al u.d u.ks.length) u.ks o lab)
          have lws := paired_len pw3
          rw [List.length_reverse] at lws
          refine ⟨W, Z, _, _, rfl, rfl, hW4, hZ, szM (by omega), ?_⟩
          have tu5 : Tups H3 _ := Tups.trans (fun b xs e => s4 b _ e) (tups_lst (o := .lst (ws' ++ us4)) hW4)
          refine ⟨wS (chL (labsOf al u.d u.ks.length) u.ks o lab ++ st), by rw [wS_app, wx]; omega, fs, ws' ++ us4, done, chL (labsOf al u.d u.ks.length) u.ks o lab ++ st, _, _, _, rfl, rfl, same_mut (s3.trans s4) nW0, by rw [upd_ne hDW]; exact hD4, upd_same, Paired.mapP pf3 fun _ _ z => z.tups tu5, ?_, ?_, ?_, fun x hx => ?_⟩
          · rw [List.reverse_append]
            exact paired_app (Paired.mapP pw3 fun _ _ z => z.tups tu5) (Paired.mapP p4 fun _ _ z => z.tups (tups_lst hW4))
          · rw [← es, seeSn_app, seeSn_cons, ← see_hid hk]
          · rw [wS_app]
            omega
          · rcases List.mem_append.mp hx with hx | hx
            · have hm := ch_mem hx
              refine ⟨?_, au.kid hm⟩
              cases u with
              | mk p d ks => exact NodesAt.mem nu.2 hm
            · exact nd x (List.mem_cons_of_mem _ hx)
        · refine ⟨_, rfl, .inl ⟨rfl, _, SqL.of hD3⟩, _, rfl, _, rfl, _, rfl, by show 3 ≤ sizeLine; decide, fun g4 ng4 => ?_⟩
          have s4 := same_upd (o := .tup [.int o, .str lab, .ref u.at]) ng4
          have hD4 := s4 _ _ hD3
          have hW4 := s4 _ _ hW3
          have nD0 : H D = none := nD
          refine ⟨D, _, _, rfl, rfl, hD4, sz2 (by omega), ?_⟩
          have tu5 : Tups H3 _ := Tups.trans (fun b xs e => s4 b _ e) (tups_lst (o := .lst (fs ++ [.ref g4])) hD4)
          refine ⟨wS st, by rw [wx]; omega, fs ++ [.ref g4], ws', done ++ [(o, lab, u)], st, _, _, _, rfl, rfl, same_mut (s3.trans s4) nD0, upd_same, by rw [upd_ne hDW.symm]; exact hW4, ?_, Paired.mapP pw3 fun _ _ z => z.tups tu5, ?_, ?_, fun x hx => nd x (List.mem_cons_of_mem _ hx)⟩
          · exact paired_app (Paired.mapP pf3 fun _ _ z => z.tups tu5) (.cons ⟨g4, rfl, tups_lst hD4 _ _ upd_same⟩ .nil)
          · rw [← es, seeSn_cons, see_not hk, List.append_assoc]
          · rw [List.length_append, List.length_singleton]
            omega
    · rintro σ H2 ⟨fs, y4, y5, y6, rfl, s2, hD, pf⟩
      exact ⟨_, rfl, q D fs H2 s2 nD hD pf⟩

/-! ### what a node carries to its children, what it shows -/
abbrev Rec := Option Str × Option Str
def recStep (hid : List Str) (c : Option Str) (lab kind : Str) : Rec := match c with
  | none => (none, none)
  | some out => if kind ∈ hid then (some (labOr out lab), none) else (none, some (labOr out lab))
mutual
def recN (al : List Way) (hid : List Str) : Tr → Rec → List Rec
  | .mk _ d ks, r => r :: recKs al hid ks (labsOf al d ks.length) r.1
def recKs (al : List Way) (hid : List Str) : List Tr → List Str → Option Str → List Rec
  | [], _, _ => []
  | .mk p d js :: ks, ls, c => recN al hid (.mk p d js) (recStep hid c (ls.headD "") d.kind) ++ recKs al hid ks ls.tail c
end
theorem recKs_cons {al : List Way} {hid : List Str} {k : Tr} {ks : List Tr} {ls : List Str} {c : Option Str} : recKs al hid (k :: ks) ls c = recN al hid k (recStep hid c (ls.headD "") k.d.kind) ++ recKs al hid ks ls.tail c := by
  cases k
  rfl
mutual
theorem recN_len (al : List Way) (hid : List Str) : ∀ (t : Tr) (r : Rec), (recN al hid t r).length = t.ats.length
  | .mk p d ks, r => by
    show (recKs al hid ks (labsOf al d ks.length) r.1).length + 1 = (atsL ks).length + 1
    rw [recKs_len al hid ks]
theorem recKs_len (al : List Way) (hid : List Str) : ∀ (ts : List Tr) (ls : List Str) (c : Option Str), (recKs al hid ts ls c).length = (atsL ts).length
  | [], _, _ => rfl
  | .mk p d js :: ts, ls, c => by
    show (recN al hid (.mk p d js) _ ++ recKs al hid ts ls.tail c).length = ((Tr.mk p d js).ats ++ atsL ts).length
    rw [List.length_append, List.length_append, recN_len al hid (.mk p d js), recKs_len al hid ts]
end
mutual
theorem spots_len : ∀ (t : Tr) (pl : Int), (t.spots pl).length = t.ats.length
  | .mk p d ks, pl => by
    show (spotsL pl 0 ks).length + 1 = (atsL ks).length + 1
    rw [spotsL_len ks]
theorem spotsL_len : ∀ (ts : List Tr) (pl : Int) (i : Nat), (spotsL pl i ts).length = (atsL ts).length
  | [], _, _ => rfl
  | t :: ts, pl, i => by
    show ((t.spots pl).map (fun x => ((i :: x.1, x.2) : Spot)) ++ spotsL (pl + t.d.wid) (i + 1) ts).length = (t.ats ++ atsL ts).length
    rw [List.length_append, List.length_append, List.length_map, spots_len t, spotsL_len ts]
end
theorem spotsL_zero {t : Tr} {pl : Int} {x : Spot} (h : (t.spots pl)[0]? = some x) : x = ([], pl, t) := by
  cases t
  exact (Option.some.inj h).symm
theorem spots_at {t : Tr} {pl : Int} {k : Nat} {x : Spot} (h : (t.spots pl)[k]? = some x) : t.paths[k]? = some x.1 := by
  rw [← spots_paths t pl, List.getElem?_map, h]
  rfl
mutual
theorem recN_par {al : List Way} {hid : List Str} {i p : Nat} {pi : List Nat} {q qx : Int} {s sx : Tr} : ∀ {t : Tr} {r : Rec} {k : Nat} {pl : Int}, (t.spots pl)[k]? = some (pi ++ [i], qx, sx) → (t.spots pl)[p]? = some (pi, q, s) →
    ∃ rp, (recN al hid t r)[p]? = some rp ∧ (recN al hid t r)[k]? = some (recStep hid rp.1 ((labsOf al s.d s.ks.length).getD i "") sx.d.kind)
  | .mk a d ks, r, 0, pl, h, _ => by
    have h : some (([], pl, .mk a d ks) : Spot) = some (pi ++ [i], qx, sx) := h
    injection h with h
    injection h with h _
    exact (snoc_nil h.symm).elim
  | .mk a d ks, r, k + 1, pl, h, hp => by
    have h' : (spotsL pl 0 ks)[k]? = some (pi ++ [i], qx, sx) := h
    rcases recKs_par (al := al) (hid := hid) (ls := labsOf al d ks.length) (c := r.1) h' with ⟨e, f⟩ | f
    · subst e
      have p0 : p = 0 := by
        have e1 := spots_at hp
        exact paths_uniq e1 path_zero
      subst p0
      have e2 := spotsL_zero hp
      injection e2 with _ e2
      injection e2 with _ e2
      subst e2
      rw [Nat.sub_zero] at f
      exact ⟨r, rfl, f⟩
    · cases p with
      | zero =>
        have e2 := spotsL_zero hp
        injection e2 with e2 _
        subst e2
        have h' : (spotsL pl 0 ks)[k]? = some ([i], qx, sx) := h'
        rcases recKs_par (al := al) (hid := hid) (ls := labsOf al d ks.length) (c := r.1) (pi := []) h' with ⟨_, f2⟩ | f2
        · have e3 := spotsL_zero hp
          injection e3 with _ e3
          injection e3 with _ e3
          subst e3
          rw [Nat.sub_zero] at f2
          exact ⟨r, rfl, f2⟩
        · obtain ⟨j, l, e, _⟩ := pathsL_head f2.1
          cases e
      | succ p => exact f.2 p q s hp
theorem recKs_par {al : List Way} {hid : List Str} {i : Nat} {pi : List Nat} {qx : Int} {sx : Tr} : ∀ {ts : List Tr} {ls : List Str} {c : Option Str} {i0 k : Nat} {pl : Int}, (spotsL pl i0 ts)[k]? = some (pi ++ [i], qx, sx) →
    (pi = [] ∧ (recKs al hid ts ls c)[k]? = some (recStep hid c (ls.getD (i - i0) "") sx.d.kind)) ∨
    (pi ∈ pathsL i0 ts ∧ ∀ (p : Nat) (q : Int) (s : Tr), (spotsL pl i0 ts)[p]? = some (pi, q, s) → ∃ rp, (recKs al hid ts ls c)[p]? = some rp ∧ (recKs al hid ts ls c)[k]? = some (recStep hid rp.1 ((labsOf al s.d s.ks.length).getD i "") sx.d.kind))
  | [], _, _, _, _, _, h => by cases h
  | .mk a d js :: ts, ls, c, i0, k, pl, h => by
    have sl := spots_len (.mk a d js) pl
    have h : (((Tr.mk a d js).spots pl).map (fun x => ((i0 :: x.1, x.2) : Spot)) ++ spotsL (pl + d.wid) (i0 + 1) ts)[k]? = some (pi ++ [i], qx, sx) := h
    have rl : ∀ r, (recN al hid (.mk a d js) r).length = ((Tr.mk a d js).spots pl).length := fun r => by rw [recN_len, sl]
    have hd0 : ls.headD "" = ls.getD 0 "" := by cases ls <;> rfl
    by_cases hk : k < ((Tr.mk a d js).spots pl).length
    · rw [List.getElem?_append_left (by rw [List.length_map]; exact hk), List.getElem?_map] at h
      cases hy : ((Tr.mk a d js).spots pl)[k]? with
      | none =>
        rw [hy] at h
        cases h
      | some y =>
        rw [hy] at h
        obtain ⟨y1, y2, y3⟩ := y
        have h : some ((i0 :: y1, y2, y3) : Spot) = some (pi ++ [i], qx, sx) := h
        injection h with h
        injection h with h1 h
        injection h with h2 h3
        subst h2
        subst h3
        rcases cons_snoc h1.symm with ⟨rfl, rfl, rfl⟩ | ⟨p', rfl, rfl⟩
        · refine .inl ⟨rfl, ?_⟩
          have k0 : k = 0 := paths_uniq (spots_at hy) path_zero
          subst k0
          have e2 := spotsL_zero hy
          injection e2 with _ e2
          injection e2 with _ e2
          subst e2
          rw [Nat.sub_self, ← hd0]
          show (recN al hid (.mk a d js) _ ++ _)[0]? = _
          rfl
        · refine .inr ⟨?_, fun p q s hp => ?_⟩
          · obtain ⟨p, _, hp, _⟩ := paths_par (spots_at hy)
            show i0 :: p' ∈ (Tr.mk a d js).paths.map (i0 :: ·) ++ pathsL (i0 + 1) ts
            exact List.mem_append_left _ (List.mem_map.mpr ⟨p', List.mem_of_getElem? hp, rfl⟩)
          · have hp : (((Tr.mk a d js).spots pl).map (fun x => ((i0 :: x.1, x.2) : Spot)) ++ spotsL (pl + d.wid) (i0 + 1) ts)[p]? = some (i0 :: p', q, s) := hp
            by_cases hpk : p < ((Tr.mk a d js).spots pl).length
            · rw [List.getElem?_append_left (by rw [List.length_map]; exact hpk), List.getElem?_map] at hp
              cases hz : ((Tr.mk a d js).spots pl)[p]? with
              | none =>
                rw [hz] at hp
                cases hp
              | some z =>
                rw [hz] at hp
                obtain ⟨z1, z2, z3⟩ := z
                have hp : some ((i0 :: z1, z2, z3) : Spot) = some (i0 :: p', q, s) := hp
                injection hp with hp
                injection hp with e1 hp
                injection hp with e2 e3
                injection e1 with _ e1
                subst e1
                subst e2
                subst e3
                obtain ⟨rp, f1, f2⟩ := recN_par (al := al) (hid := hid) (r := recStep hid c (ls.headD "") d.kind) hy hz
                refine ⟨rp, ?_, ?_⟩
                · show (recN al hid (.mk a d js) _ ++ _)[p]? = _
                  rw [List.getElem?_append_left (by rw [rl]; exact hpk)]
                  exact f1
                · show (recN al hid (.mk a d js) _ ++ _)[k]? = _
                  rw [List.getElem?_append_left (by rw [rl]; exact hk)]
                  exact f2
            · rw [List.getElem?_append_right (by rw [List.length_map]; omega), List.length_map] at hp
              have hm : i0 :: p' ∈ pathsL (i0 + 1) ts := by
                rw [← spotsL_paths ts (pl + d.wid)]
                exact List.mem_map.mpr ⟨_, List.mem_of_getElem? hp, rfl⟩
              obtain ⟨j, l, e, le⟩ := pathsL_head hm
              injection e with e _
              omega
    · rw [List.getElem?_append_right (by rw [List.length_map]; omega), List.length_map] at h
      have tl : ∀ j, ls.tail.getD j "" = ls.getD (j + 1) "" := fun j => by cases ls <;> rfl
      have hm : pi ++ [i] ∈ pathsL (i0 + 1) ts := by
        rw [← spotsL_paths ts (pl + d.wid)]
        exact List.mem_map.mpr ⟨_, List.mem_of_getElem? h, rfl⟩
      obtain ⟨j, l, e, le⟩ := pathsL_head hm
      rcases recKs_par (al := al) (hid := hid) (ls := ls.tail) (c := c) h with ⟨rfl, f⟩ | ⟨f1, f2⟩
      · refine .inl ⟨rfl, ?_⟩
        injection e with e _
        rw [tl, show i - (i0 + 1) + 1 = i - i0 by omega] at f
        show (recN al hid (.mk a d js) _ ++ _)[k]? = _
        rw [List.getElem?_append_right (by rw [rl]; omega), rl]
        exact f
      · refine .inr ⟨?_, fun p q s hp => ?_⟩
        · show pi ∈ (Tr.mk a d js).paths.map (i0 :: ·) ++ pathsL (i0 + 1) ts
          exact List.mem_append_right _ f1
        · have hp : (((Tr.mk a d js).spots pl).map (fun x => ((i0 :: x.1, x.2) : Spot)) ++ spotsL (pl + d.wid) (i0 + 1) ts)[p]? = some (pi, q, s) := hp
          obtain ⟨j1, l1, e1, le1⟩ := pathsL_head f1
          by_cases hpk : p < ((Tr.mk a d js).spots pl).length
          · rw [List.getElem?_append_left (by rw [List.length_map]; exact hpk), List.getElem?_map] at hp
            cases hz : ((Tr.mk a d js).spots pl)[p]? with
            | none =>
              rw [hz] at hp
              cases hp
            | some z =>
              rw [hz] at hp
              injection hp with hp
              injection hp with e2 _
              rw [e1] at e2
              injection e2 with e2 _
              omega
          · rw [List.getElem?_append_right (by rw [List.length_map]; omega), List.length_map] at hp
            obtain ⟨rp, g1, g2⟩ := f2 _ q s hp
            refine ⟨rp, ?_, ?_⟩
            · show (recN al hid (.mk a d js) _ ++ _)[p]? = _
              rw [List.getElem?_append_right (by rw [rl]; omega), rl]
              exact g1
            · show (recN al hid (.mk a d js) _ ++ _)[k]? = _
              rw [List.getElem?_append_right (by rw [rl]; omega), rl]
              exact g2
end

/-! ### what is shown below a node, by its records -/
def emitOf (z : Spot × Rec) : Option Sn := z.2.2.map fun lab => (z.1.2.1, lab, z.1.2.2)
def emits (xs : List Spot) (rs : List Rec) : List Sn := (xs.zip rs).filterMap emitOf
theorem emits_map (i : Nat) (xs : List Spot) (rs : List Rec) : emits (xs.map fun x => ((i :: x.1, x.2) : Spot)) rs = emits xs rs := by
  unfold emits
  rw [List.zip_map_left, List.filterMap_map]
  rfl
theorem emits_app {xs ys : List Spot} {rs ss : List Rec} (h : xs.length = rs.length) : emits (xs ++ ys) (rs ++ ss) = emits xs rs ++ emits ys ss := by
  unfold emits
  rw [List.zip_append h, List.filterMap_append]
theorem getD_tail {ls : List Str} {l : Str} : (l :: ls).headD "" = l := rfl
mutual
theorem emit_none (al : List Way) (hid : List Str) : ∀ (t : Tr) (pl : Int) (o : Option Str), emits (t.spots pl) (recN al hid t (none, o)) = (o.map fun lab => ((pl, lab, t) : Sn)).toList
  | .mk p d ks, pl, o => by
    have ih := emits_none al hid ks pl 0 (labsOf al d ks.length)
    cases o with
    | none =>
      show emits (spotsL pl 0 ks) (recKs al hid ks (labsOf al d ks.length) none) = []
      exact ih
    | some lab =>
      show (pl, lab, .mk p d ks) :: emits (spotsL pl 0 ks) (recKs al hid ks (labsOf al d ks.length) none) = [(pl, lab, .mk p d ks)]
      rw [ih]
theorem emits_none (al : List Way) (hid : List Str) : ∀ (ts : List Tr) (pl : Int) (i : Nat) (ls : List Str), emits (spotsL pl i ts) (recKs al hid ts ls none) = []
  | [], _, _, _ => rfl
  | .mk p d js :: ts, pl, i, ls => by
    show emits (((Tr.mk p d js).spots pl).map (fun x => ((i :: x.1, x.2) : Spot)) ++ spotsL (pl + d.wid) (i + 1) ts) (recN al hid (.mk p d js) (none, none) ++ recKs al hid ts ls.tail none) = []
    rw [emits_app (by rw [List.length_map, spots_len, recN_len]), emits_map, emit_none al hid (.mk p d js) pl none, emits_none al hid ts]
    rfl
end
mutual
theorem emit_some {al : List Way} {hid : List Str} : ∀ {t : Tr} {pl : Int} {out : Str}, AltOk al t → emits (t.spots pl) (recN al hid t (some out, none)) = seeKs al hid t.ks (labsOf al t.d t.ks.length) pl out
  | .mk p d ks, pl, out, h => by
    show emits (spotsL pl 0 ks) (recKs al hid ks (labsOf al d ks.length) (some out)) = seeKs al hid ks (labsOf al d ks.length) pl out
    exact emits_some h.2 h.labs
theorem emits_some {al : List Way} {hid : List Str} : ∀ {ts : List Tr} {pl : Int} {i : Nat} {ls : List Str} {out : Str}, AltsOk al ts → ls.length = ts.length → emits (spotsL pl i ts) (recKs al hid ts ls (some out)) = seeKs al hid ts ls pl out
  | [], _, _, _, _, _, _ => rfl
  | .mk p d js :: ts, pl, i, [], out, _, h => by cases h
  | .mk p d js :: ts, pl, i, l :: ls, out, hA, h => by
    have h : ls.length = ts.length := by simpa using h
    show emits (((Tr.mk p d js).spots pl).map (fun x => ((i :: x.1, x.2) : Spot)) ++ spotsL (pl + d.wid) (i + 1) ts) (recN al hid (.mk p d js) (recStep hid (some out) l d.kind) ++ recKs al hid ts ls (some out)) = seeT al hid (.mk p d js) pl (labOr out l) ++ seeKs al hid ts ls (pl + d.wid) out
    rw [emits_app (by rw [List.length_map, spots_len, recN_len]), emits_map, emits_some hA.2 h]
    congr 1
    show emits ((Tr.mk p d js).spots pl) (recN al hid (.mk p d js) (if d.kind ∈ hid then (some (labOr out l), none) else (none, some (labOr out l)))) = if d.kind ∈ hid then seeKs al hid js (labsOf al d js.length) pl (labOr out l) else [(pl, labOr out l, .mk p d js)]
    by_cases hk : d.kind ∈ hid
    · rw [if_pos hk, if_pos hk]
      exact emit_some hA.1
    · rw [if_neg hk, if_neg hk]
      exact emit_none al hid (.mk p d js) pl (some (labOr out l))
end
mutual
theorem spots_shift (k : Int) : ∀ (t : Tr) (pl : Int), t.spots (pl + k) = (t.spots pl).map fun x => ((x.1, x.2.1 + k, x.2.2) : Spot)
  | .mk p d ks, pl => by
    show (([], pl + k, .mk p d ks) : Spot) :: spotsL (pl + k) 0 ks = ([], pl + k, .mk p d ks) :: (spotsL pl 0 ks).map _
    rw [spotsL_shift k ks]
theorem spotsL_shift (k : Int) : ∀ (ts : List Tr) (pl : Int) (i : Nat), spotsL (pl + k) i ts = (spotsL pl i ts).map fun x => ((x.1, x.2.1 + k, x.2.2) : Spot)
  | [], _, _ => rfl
  | t :: ts, pl, i => by
    show (t.spots (pl + k)).map (fun x => ((i :: x.1, x.2) : Spot)) ++ spotsL (pl + k + t.d.wid) (i + 1) ts = ((t.spots pl).map (fun x => ((i :: x.1, x.2) : Spot)) ++ spotsL (pl + t.d.wid) (i + 1) ts).map _
    rw [spots_shift k t, List.map_append, List.map_map, List.map_map, show pl + k + t.d.wid = pl + t.d.wid + k by omega, spotsL_shift k ts]
    rfl
end
theorem TreeIn.loc {C : Addr} {H : Hp} {l m : Addr} {us : List V} {rows : List Rw} {as : List Addr} {t : Tr} (h : TreeIn K C H l m us rows as t) {a e j : Nat} {pa : List Nat} {qa : Int} {sa : Tr} (he : EndIs rows a e) (ha : (t.spots 0)[a]? = some (pa, qa, sa)) (hj : a + j < e) :
    ∃ lp sk, (sa.spots 0)[j]? = some (lp, sumTo 0 rows (a + j) - sumTo 0 rows a, sk) ∧ (t.spots 0)[a + j]? = some (pa ++ lp, sumTo 0 rows (a + j), sk) ∧ as[a + j]? = some sk.at ∧ rows[a + j]? = some ((((pa ++ lp).length : Nat) : Int), sk.d) := by
  have P := h.part he ha
  have he2 := he.2.1
  obtain ⟨pi, s, e1, e2, e3, e4⟩ := h.spot 0 (show a + j < rows.length by omega)
  obtain ⟨pa', sa', f1, f2, _, _⟩ := h.spot 0 (show a < rows.length by omega)
  have qe : qa = sumTo 0 rows a := by
    rw [ha] at f2
    injection f2 with f2
    injection f2 with _ f2
    injection f2
  obtain ⟨rest, d1, _⟩ := spots_sub ha
  have e2' := e2
  rw [← List.getElem?_drop, d1, List.getElem?_append_left (by rw [List.length_map, spots_len]; have := P.e; omega), List.getElem?_map, show qa = 0 + qa by omega, spots_shift qa, List.getElem?_map] at e2'
  cases hy : (sa.spots 0)[j]? with
  | none =>
    rw [hy] at e2'
    cases e2'
  | some y =>
    rw [hy] at e2'
    obtain ⟨y1, y2, y3⟩ := y
    have e2' : some ((pa ++ y1, y2 + qa, y3) : Spot) = some (pi, sumTo 0 rows (a + j), s) := e2'
    injection e2' with e2'
    injection e2' with g1 e2'
    injection e2' with g2 g3
    subst g1
    subst g3
    exact ⟨y1, y3, by rw [show sumTo 0 rows (a + j) - sumTo 0 rows a = y2 by omega], e2, e3, e4⟩

/-! ### what the law finds by its own rows -/
structure LabOk (al : List Way) (t : Tr) (labs : List Str) : Prop where
  len : labs.length = t.ats.length
  at_ : ∀ (k p i : Nat) (pi : List Nat) (q : Int) (s : Tr), t.paths[k]? = some (pi ++ [i]) → (t.spots 0)[p]? = some (pi, q, s) → labs[k]? = some ((labsOf al s.d s.ks.length).getD i "")
def DueAt (H : Hp) (as : List Addr) (v : V) (x : Sn) : Prop := ∃ (g : Addr) (k : Nat), v = .ref g ∧ H g = some (.tup [.int x.1, .str x.2.1, .int (k : Int)]) ∧ as[k]? = some x.2.2.at
theorem DueAt.tups {H H' : Hp} {as : List Addr} {v : V} {x : Sn} (h : DueAt H as v x) (t : Tups H H') : DueAt H' as v x := by
  obtain ⟨g, k, e, h1, h2⟩ := h
  exact ⟨g, k, e, t _ _ h1, h2⟩
def CarTo (a n : Nat) (rs : List Rec) (kvs : List (Key × V)) : Prop := ∀ (j : Nat) (r : Rec), rs[j]? = some r → valV kvs (.inl ((a + j : Nat) : Int)) = if j < n then r.1.map V.str else none
theorem CarTo.skip {a n : Nat} {rs : List Rec} {kvs : List (Key × V)} {o : Option Str} (h : CarTo a n rs kvs) (hn : rs[n]? = some (none, o)) : CarTo a (n + 1) rs kvs := fun j r hj => by
  rw [h j r hj]
  by_cases e : j = n
  · subst e
    obtain rfl := Option.some.inj (hn.symm.trans hj)
    rw [if_neg (by omega), if_pos (by omega)]
    rfl
  · by_cases c : j < n
    · rw [if_pos c, if_pos (by omega)]
    · rw [if_neg c, if_neg (by omega)]
theorem CarTo.put {a n : Nat} {rs : List Rec} {kvs : List (Key × V)} {x : Str} {o : Option Str} (h : CarTo a n rs kvs) (hn : rs[n]? = some (some x, o)) : CarTo a (n + 1) rs (putK kvs (.inl ((a + n : Nat) : Int)) (.str x)) := fun j r hj => by
  rw [valV_put]
  by_cases e : j = n
  · subst e
    obtain rfl := Option.some.inj (hn.symm.trans hj)
    rw [if_pos rfl, if_pos (by omega)]
    rfl
  · rw [if_neg (fun z => e (by injection z with z; omega)), h j r hj]
    by_cases c : j < n
    · rw [if_pos c, if_pos (by omega)]
    · rw [if_neg c, if_neg (by omega)]
theorem if_or {tt : L2.TT} {a c : L2.TS} {D : L2.Ends} {σ : L2.St} {H : Hp} {A : Prop} (h : Ts tt σ H A) (σ2 : L2.St) (ha : A → ∀ D' : L2.Ends, D'.nx σ2 H → a D' σ H) (hb : ¬ A → σ = σ2) (hc : c D σ2 H) : tSeq (tIfS tt a tNext) c D σ H :=
  ts_if h (fun x => ha x _ hc) fun x => by
    rw [hb x]
    exact hc
def spSeenL (K : PySem.W.Frag) (C : Addr) : Sp := fun vs H Q _ => ∃ (l lb pp up vl m : Addr) (us : List V) (rows : List Rw) (as : List Addr) (t : Tr) (al : List Way) (hid labs : List Str) (ns : List Int) (a : Nat) (pa : List Nat) (qa : Int) (sa : Tr), vs = [.ref l, .ref lb, .ref pp, .ref up, .ref vl, .int (a : Int)] ∧
  TreeIn K C H l m us rows as t ∧ LabOk al t labs ∧ H lb = some (.lst (labs.map V.str)) ∧ H pp = some (.lst (ns.map V.int)) ∧ ns.length = rows.length ∧ (∀ k, k < rows.length → ns[k]? = some (sumTo 0 rows k)) ∧ UpsAt H up t ∧ H vl = some (.lst (hid.map V.str)) ∧
  (t.spots 0)[a]? = some (pa, qa, sa) ∧ AltOk al sa ∧
  ∀ D fs H', Same H H' → H D = none → H' D = some (.lst fs) → Paired (DueAt H' as) fs (seeKs al hid sa.ks (labsOf al sa.d sa.ks.length) 0 "") → Q (.ref D) H'
theorem ok_seen_law (T : Txt K mg) : FnOk P w K mg base CX0 2 T.a_law_seen T.fd_law_seen ["rows", "labels", "places", "ups", "veiled", "at"] (spSeenL K T.C_Node) := by
  have G_law_end : FnOk P w K mg base CX0 1 T.a_law_end T.fd_law_end ["rows", "at"] spEnd := ok_end T
  refine T.F_law_seen.ok sc_law_seen (fun vs H Q E h => ?_) (fun cdv A outer s H vs Q E hr h => ?_)
  · obtain ⟨l, lb, pp, up, vl, m, us, rows, as, t, al, hid, labs, ns, a, pa, qa, sa, rfl, _⟩ := h
    rfl
  · have hr_law_end : Room 1 _ := hr
    obtain ⟨l, lb, pp, up, vl, m, us, rows, as, t, al, hid, labs, ns, a, pa, qa, sa, rfl, TI, LO, hlb, hpp, lns, hns, U, hvl, hsa, hA, q⟩ := h
    refine ⟨_, (pss_cons (ps_set (i := 6) sc_law_seen.nd rfl (.inl rfl) (pe_disp (pps_cons (pv 5) pe_str pps_nil) (by rfl) (by rfl) (List.cons_ne_nil _ _) (by decide)))
      (pss_cons (ps_set (i := 7) sc_law_seen.nd rfl (.inl rfl) (pe_lst pa_nil))
      (pss_cons (ps_for PassesOwn.never rfl (pi_range2 (by rfl) T.m_range (pa_cons (pe_op op_add (pv 5) pe_int) (pa_cons (pe_call G_law_end hr_law_end (by rfl) T.g_law_end T.F_law_end.kp T.b_law_end .nil pass0 (pa_cons (pv 0) (pa_cons (pv 5) pa_nil))) pa_nil))) (pg_name (i := 8) sc_law_seen.nd rfl (.inl rfl)) (pss_cons (ps_set (i := 9) sc_law_seen.nd rfl (.inl rfl) (pe_ix ix_tup (pe_ix ix_list (pv 3) (pv 8) (fun _ _ => rfl)) pe_int (fun _ _ => rfl)))
      (pss_one (ps_if (pt_cmp (pc_din (hu_of hr) (pv 9) (pv 6)) rfl) (pss_cons (ps_set (i := 10) sc_law_seen.nd rfl (.inl rfl) (pe_ix ix_list (pv 1) (pv 8) (fun _ _ => rfl)))
      (pss_cons (ps_if (pt_cmpR op_eq (pv 10) pe_str (nomark _)) (pss_one (ps_set (i := 10) sc_law_seen.nd rfl (.inl rfl) (pe_dget (hu_of hr) (pv 6) (pv 9) (fun _ _ => rfl)))) pss_nil)
      (pss_one (ps_if (pt_cmpR op_in_seq (pe_ix ix_tup (pe_ix ix_list (pv 0) (pv 8) (fun _ _ => rfl)) pe_int (fun _ _ => rfl)) (pv 4) rfl) (pss_one (ps_dput (hu_of hr) (pv 6) (pv 8) (pv 10) rfl)) (pss_one (ps_expr (pe_bm PySem.F.plainAttrs_list PySem.F.slot_list_append PySem.F.type_list_append mt_append (pv 7) (pa_cons (pe_tup (pa_cons (pe_op op_sub (pe_ix ix_list (pv 2) (pv 8) (fun _ _ => rfl)) (pe_ix ix_list (pv 2) (pv 5) (fun _ _ => rfl))) (pa_cons (pv 10) (pa_cons (pv 8) pa_nil)))) pa_nil)))))))) pss_nil))))
      (pss_one (ps_ret (pv 7)))))), ?_⟩
    have lr := TI.sz
    have har : a < rows.length := by
      have := (List.getElem?_eq_some_iff.mp hsa).1
      rw [TI.slen 0] at this
      exact this
    intro cd ncd
    refine ⟨_, rfl, upd_same, [(.inl (a : Int), .str "")], rfl, by show 1 ≤ 15; decide, ?_⟩
    obtain ⟨kv0, hkv0⟩ : ∃ kv0, kv0 = mergeK [] [((.inl (a : Int) : Key), V.str "")] := ⟨_, rfl⟩
    have vkv0 : ∀ k : Key, valV kv0 k = if k = .inl (a : Int) then some (.str "") else none := fun k => by
      rw [hkv0]
      show valV (putK [] (.inl (a : Int)) (V.str "")) k = _
      rw [valV_put]
      rfl
    have lkv0 : kv0.length ≤ 1 := by
      rw [hkv0]
      exact length_putK [] (.inl (a : Int)) (V.str "")
    rw [← hkv0]
    refine ⟨by show 0 ≤ sizeLine; decide, fun D nD => ?_⟩
    have sc : Same H _ := same_mut (p := cd) (o := .dK kv0) (same_upd (o := .dK []) ncd) ncd
    have nD0 : H D = none := sc.free nD
    have hcd1 : (upd (upd H cd (.dK [])) cd (.dK kv0)) cd = some (.dK kv0) := upd_same
    have hDc : D ≠ cd := fun z => by rw [z, hcd1] at nD; cases nD
    have sD := same_upd (o := .lst []) nD
    have s1 := sc.trans sD
    have hcd2 := sD _ _ hcd1
    obtain ⟨H1, hH1⟩ : ∃ H1, H1 = upd (upd (upd H cd (.dK [])) cd (.dK kv0)) D (.lst []) := ⟨_, rfl⟩
    have hD1 : H1 D = some (.lst []) := by rw [hH1]; exact upd_same
    rw [← hH1] at s1 hcd2 ⊢
    have TI1 := TI.same s1
    refine ⟨_, rfl, _, _, rfl, rfl, _, rfl, _, rfl, l, us, rows, a, rfl, TI1.rws, by omega, har, fun e he => ?_⟩
    have he1 := he.1
    have he2 := he.2.1
    have P := TI.part he hsa
    have Pe := P.e
    obtain ⟨RS, hRS⟩ : ∃ RS, RS = recN al hid sa ((some "", none) : Rec) := ⟨_, rfl⟩
    have lRS : RS.length = sa.ats.length := by rw [hRS, recN_len]
    have lsp : (sa.spots 0).length = sa.ats.length := spots_len sa 0
    have lz : ((sa.spots 0).zip RS).length = sa.ats.length := by
      rw [List.length_zip, lRS, lsp, Nat.min_self]
    have hRS0 : RS[0]? = some ((some "", none) : Rec) := by
      rw [hRS]
      cases sa
      rfl
    refine ⟨_, _, rfl, by omega, ?_⟩
    refine for_range (lo := (a : Int) + 1) (n := ((e : Int) - ((a : Int) + 1)).toNat) (fun n σ H' => (∃ y8 y9 y10 : Option V, σ = [some (.ref l), some (.ref lb), some (.ref pp), some (.ref up), some (.ref vl), some (.int (a : Int)), some (.ref cd), some (.ref D), y8, y9, y10]) ∧ Same H H' ∧ (∃ kvs, H' cd = some (.dK kvs) ∧ kvs.length ≤ n + 1 ∧ CarTo a (n + 1) RS kvs) ∧
        ∃ fs, H' D = some (.lst fs) ∧ fs.length ≤ n ∧ Paired (DueAt H' as) fs ((((sa.spots 0).zip RS).take (n + 1)).filterMap emitOf))
      ⟨⟨none, none, none, rfl⟩, s1, ⟨kv0, hcd2, lkv0, fun j r hj => ?_⟩, [], hD1, Nat.le_refl _, ?_⟩ ?_ ?_
    · rw [vkv0]
      by_cases h0 : j = 0
      · subst h0
        obtain rfl := Option.some.inj (hRS0.symm.trans hj)
        rw [show a + 0 = a from rfl, if_pos rfl, if_pos (by omega)]
        rfl
      · rw [if_neg (fun z => h0 (by injection z with z; omega)), if_neg (by omega)]
    · have e1 : ((sa.spots 0).zip RS).take (0 + 1) = [(([], 0, sa), ((some "", none) : Rec))] := by
        rw [hRS]
        cases sa
        rfl
      rw [e1]
      exact .nil
    · rintro n σ H2 hi ⟨⟨y8, y9, y10, rfl⟩, sm, ⟨kvs, hcd, lkv, CT⟩, fs, hD, lfs, pfs⟩
      have hj : a + (n + 1) < e := by omega
      obtain ⟨lp, sk, hj1, hj2, has, hrow⟩ := TI.loc he hsa hj
      have lp0 : lp ≠ [] := fun z => by
        have := spots_at hj1
        rw [show lp = [] from z] at this
        have := paths_uniq this path_zero
        omega
      rcases List.eq_nil_or_concat lp with rfl | ⟨l', i, rfl⟩
      · exact absurd rfl lp0
      rw [List.concat_eq_append] at *
      obtain ⟨p, hp1, hp2, _⟩ := paths_par (spots_at hj1)
      obtain ⟨lp2, sp, hp3, hp4, _, _⟩ := TI.loc he hsa (show a + p < e by omega)
      obtain rfl : l' = lp2 := Option.some.inj (hp2.symm.trans (spots_at hp3))
      obtain ⟨rp, hr1, hr2⟩ := recN_par (al := al) (hid := hid) (r := ((some "", none) : Rec)) hj1 hp3
      rw [← hRS] at hr1 hr2
      have hpath : t.paths[a + (n + 1)]? = some ((pa ++ l') ++ [i]) := by
        rw [List.append_assoc]
        exact spots_at hj2
      have hlab := LO.at_ _ _ _ _ _ _ hpath hp4
      obtain ⟨lab, hl⟩ : ∃ lab, lab = (labsOf al sp.d sp.ks.length).getD i "" := ⟨_, rfl⟩
      rw [← hl] at hr2 hlab
      obtain ⟨uv, hu1, hu2, hu3⟩ := (U.same sm).ex
      obtain ⟨g, hg1, hg2⟩ := hu3 _ _ _ _ (spots_at hp4) hpath
      have en : (a : Int) + 1 + (n : Int) = ((a + (n + 1) : Nat) : Int) := by omega
      rw [en]
      have hzn : ((sa.spots 0).zip RS)[n + 1]? = some ((l' ++ [i], sumTo 0 rows (a + (n + 1)) - sumTo 0 rows a, sk), recStep hid rp.1 lab sk.d.kind) := List.getElem?_zip_eq_some.mpr ⟨hj1, hr2⟩
      have hcv : valV kvs (.inl ((a + p : Nat) : Int)) = rp.1.map V.str := by
        rw [CT p rp hr1, if_pos (by omega)]
      refine ⟨_, rfl, _, rfl, up, _, _, .ref g, rfl, rfl, SqL.of hu1, atI_nat hg1, g, _, 0, .int ((a + p : Nat) : Int), rfl, rfl, SqT.of hg2, rfl, ?_⟩
      refine ⟨_, rfl, _, rfl, cd, rp.1.map V.str, rfl, by rw [← hcv]; exact DGet.k (k := .inl ((a + p : Nat) : Int)) hcd, ?_⟩
      obtain ⟨rp1, rp2⟩ := rp
      cases rp1 with
      | none =>
        refine ⟨false, rfl, iteF ?_⟩
        refine ⟨⟨_, _, _, rfl⟩, sm, ⟨kvs, hcd, by omega, CT.skip hr2⟩, fs, hD, by omega, ?_⟩
        rw [takeN hzn, List.filterMap_append]
        rw [show List.filterMap emitOf [((l' ++ [i], sumTo 0 rows (a + (n + 1)) - sumTo 0 rows a, sk), recStep hid none lab sk.d.kind)] = [] from rfl, List.append_nil]
        exact pfs
      | some out =>
        refine ⟨true, rfl, iteT ?_⟩
        have hlb2 : (labs.map V.str)[a + (n + 1)]? = some (.str lab) := by
          rw [List.getElem?_map, hlab]
          rfl
        have hpp2 : ∀ k, k < rows.length → (ns.map V.int)[k]? = some (.int (sumTo 0 rows k)) := fun k hk => by
          rw [List.getElem?_map, hns k hk]
          rfl
        refine ⟨_, rfl, _, rfl, lb, _, _, .str lab, rfl, rfl, SqL.of (sm _ _ hlb), atI_nat hlb2, ?_⟩
        refine g_seqD ?_
        refine if_or (A := lab = "") (fun Q q => ⟨_, rfl, rfl, _, rfl, q _ (by rw [decide_eq_true_eq]; exact ⟨fun z => (by injection z), fun z => by rw [z]⟩)⟩) [some (.ref l), some (.ref lb), some (.ref pp), some (.ref up), some (.ref vl), some (.int (a : Int)), some (.ref cd), some (.ref D), some (.int ((a + (n + 1) : Nat) : Int)), some (.int ((a + p : Nat) : Int)), some (.str (labOr out lab))]
          (fun hz D' q => ⟨_, rfl, _, rfl, cd, .str out, rfl, by rw [show some (V.str out) = valV kvs (.inl ((a + p : Nat) : Int)) from hcv.symm]; exact DGet.k (k := .inl ((a + p : Nat) : Int)) hcd, by
            unfold labOr at q
            rw [if_pos hz] at q
            exact q⟩)
          (fun hz => by
            unfold labOr
            rw [if_neg hz]
            rfl) ?_
        obtain ⟨vr, hv, gr, rfl, hgr⟩ := paired_get TI.rws.row hrow
        refine ts_ite (A := sk.d.kind ∈ hid) (fun Q q => ⟨_, rfl, _, rfl, l, _, _, .ref gr, rfl, rfl, SqL.of (sm _ _ TI.rws.lst), atI_nat hv, gr, _, 1, .str sk.d.kind, rfl, rfl, SqT.of (sm _ _ hgr), rfl, _, rfl, vl, _, rfl, .inl (SqL.of (sm _ _ hvl)), rfl, flat_strs _, _, rfl, q _ ?_⟩) (fun hk => ?_) (fun hk => ?_)
        · show inV (.str sk.d.kind) (hid.map V.str) = true ↔ _
          rw [inV_strs, decide_eq_true_eq]
        · rw [show recStep hid (some out, rp2).1 lab sk.d.kind = (some (labOr out lab), none) from if_pos hk] at hr2 hzn
          refine ⟨_, rfl, _, rfl, _, rfl, cd, _, rfl, DPut.k (k := .inl ((a + (n + 1) : Nat) : Int)) hcd (sz2 (by omega)), ?_⟩
          have tu : Tups H2 (upd H2 cd (.dK (putK kvs (.inl ((a + (n + 1) : Nat) : Int)) (.str (labOr out lab))))) := fun b xs hb => by
            rw [upd_ne (fun z => by rw [z, hcd] at hb; cases hb)]
            exact hb
          refine ⟨⟨_, _, _, rfl⟩, same_mut sm ncd, ⟨_, upd_same, ?_, CT.put hr2⟩, fs, by rw [upd_ne hDc]; exact hD, by omega, ?_⟩
          · have := length_putK kvs (.inl ((a + (n + 1) : Nat) : Int)) (V.str (labOr out lab))
            omega
          · rw [takeN hzn, List.filterMap_append]
            rw [show List.filterMap emitOf [((l' ++ [i], sumTo 0 rows (a + (n + 1)) - sumTo 0 rows a, sk), ((some (labOr out lab), none) : Rec))] = [] from rfl, List.append_nil]
            exact Paired.mapP pfs fun _ _ z => z.tups tu
        · rw [show recStep hid (some out, rp2).1 lab sk.d.kind = (none, some (labOr out lab)) from if_neg hk] at hr2 hzn
          have hpp3 := sm _ _ hpp
          refine ⟨_, rfl, .inl ⟨rfl, _, SqL.of hD⟩, _, rfl, _, rfl, pp, _, _, _, rfl, rfl, SqL.of hpp3, atI_nat (hpp2 _ (by omega)), _, rfl, _, rfl, pp, _, _, _, rfl, rfl, SqL.of hpp3, atI_nat (hpp2 _ har), _, _, rfl, rfl, _, rfl, _, rfl, by show 3 ≤ sizeLine; decide, fun g4 ng4 => ?_⟩
          have s4 := same_upd (o := .tup [.int (sumTo 0 rows (a + (n + 1)) - sumTo 0 rows a), .str (labOr out lab), .int ((a + (n + 1) : Nat) : Int)]) ng4
          have hD4 := s4 _ _ hD
          refine ⟨D, _, _, rfl, rfl, hD4, sz2 (by omega), ?_⟩
          have tu : Tups H2 _ := Tups.trans (fun b xs e => s4 b _ e) (tups_lst (o := .lst (fs ++ [.ref g4])) hD4)
          refine ⟨⟨_, _, _, rfl⟩, same_mut (sm.trans s4) nD0, ⟨kvs, by rw [upd_ne hDc.symm]; exact s4 _ _ hcd, by omega, CT.skip hr2⟩, _, upd_same, by rw [List.length_append, List.length_singleton]; omega, ?_⟩
          rw [takeN hzn, List.filterMap_append]
          exact paired_app (Paired.mapP pfs fun _ _ z => z.tups tu) (.cons ⟨g4, _, rfl, tups_lst hD4 _ _ upd_same, has⟩ .nil)
    · rintro σ H2 ⟨⟨y8, y9, y10, rfl⟩, sm, _, fs, hD, lfs, pfs⟩
      refine ⟨_, rfl, q D fs H2 sm nD0 hD ?_⟩
      rw [List.take_of_length_le (by rw [lz]; omega)] at pfs
      rw [← emit_some hA, ← hRS]
      exact pfs

/-! ### what is told, held against what is due -/
def spIsL (K : PySem.W.Frag) (C : Addr) : Sp := fun vs H Q _ => ∃ (a b m : Addr) (us fs : List V) (xs : List Sn) (as : List Addr), vs = [.ref a, .ref b, .ref m] ∧ H a = some (.lst us) ∧ H b = some (.lst fs) ∧ H m = some (.lst (as.map V.ref)) ∧ Paired (SnAt H) us xs ∧ Paired (DueAt H as) fs xs ∧ xs.length ≤ 5000 ∧
  (∀ x ∈ xs, NodeAt K C H x.2.2) ∧ ∀ H', Same H H' → Q (.bl true) H'
theorem ok_is (T : Txt K mg) : FnOk P w K mg base CX0 1 T.a_law_is T.fd_law_is ["told", "due", "made"] (spIsL K T.C_Node) := by
  refine T.F_law_is.ok sc_law_is (fun vs H Q E h => ?_) (fun cdv A outer s H vs Q E hr h => ?_)
  · obtain ⟨a, b, m, us, fs, xs, as, rfl, _⟩ := h
    rfl
  · obtain ⟨a, b, m, us, fs, xs, as, rfl, ha, hb, hm, pu, pf, lx, hn, q⟩ := h
    refine ⟨_, (pss_cons (ps_if (PW.pt (pw_or (pt_not (pt_val (pe_callB call_isi (by rfl) T.m_isinstance (by decide +kernel) (pa_cons (pv 0) (pa_cons (pe_bltn (v := .ty "list") (by rfl) T.m_list (by decide +kernel) rfl) pa_nil))))) (pw_or1 (pt_cmpR op_ne (pe_callB call_len_seq (by rfl) T.m_len PySem.boot_len (pa_cons (pv 0) pa_nil)) (pe_callB call_len_seq (by rfl) T.m_len PySem.boot_len (pa_cons (pv 1) pa_nil)) (nomark _))))) (pss_one (ps_ret pe_bl)) pss_nil)
      (pss_cons (ps_for PassesOwn.never rfl (pi_range1 (by rfl) T.m_range (pa_cons (pe_callB call_len_seq (by rfl) T.m_len PySem.boot_len (pa_cons (pv 1) pa_nil)) pa_nil)) (pg_name (i := 3) sc_law_is.nd rfl (.inl rfl)) (pss_cons (ps_set (i := 4) sc_law_is.nd rfl (.inl rfl) (pe_ix ix_list (pv 0) (pv 3) (fun _ _ => rfl)))
      (pss_cons (ps_if (PW.pt (pw_or (pt_not (pt_val (pe_callB call_isi (by rfl) T.m_isinstance (by decide +kernel) (pa_cons (pv 4) (pa_cons (pe_bltn (v := .ty "tuple") (by rfl) T.m_tuple (by decide +kernel) rfl) pa_nil))))) (pw_or1 (pt_cmpR op_ne (pe_callB call_len_seq (by rfl) T.m_len PySem.boot_len (pa_cons (pv 4) pa_nil)) pe_int (nomark _))))) (pss_one (ps_ret pe_bl)) pss_nil)
      (pss_cons (ps_if (PW.pt (pw_or (pt_not (pt_val (pe_callB call_isi (by rfl) T.m_isinstance (by decide +kernel) (pa_cons (pe_ix ix_tup (pv 4) pe_int (fun _ _ => rfl)) (pa_cons (pe_bltn (v := .ty "int") (by rfl) T.m_int (by decide +kernel) rfl) pa_nil))))) (pw_or1 (pt_val (pe_callB call_isi (by rfl) T.m_isinstance (by decide +kernel) (pa_cons (pe_ix ix_tup (pv 4) pe_int (fun _ _ => rfl)) (pa_cons (pe_bltn (v := .ty "bool") (by rfl) T.m_bool (by decide +kernel) rfl) pa_nil))))))) (pss_one (ps_ret pe_bl)) pss_nil)
      (pss_cons (ps_if (PW.pt (pw_or (pt_not (pt_val (pe_callB call_isi (by rfl) T.m_isinstance (by decide +kernel) (pa_cons (pe_ix ix_tup (pv 4) pe_int (fun _ _ => rfl)) (pa_cons (pe_bltn (v := .ty "str") (by rfl) T.m_str (by decide +kernel) rfl) pa_nil))))) (pw_or1 (pt_not (pt_val (pe_callB (C8.call_isC T.IC_Node) (by rfl) T.m_isinstance (by decide +kernel) (pa_cons (pe_ix ix_tup (pv 4) pe_int (fun _ _ => rfl)) (pa_cons (pe_glob (v := .ref T.C_Node) (by rfl) T.G_Node rfl) pa_nil)))))))) (pss_one (ps_ret pe_bl)) pss_nil)
      (pss_one (ps_if (pt_cmpR (OwnOp.op_neTS hr.units) (pv 4) (pe_tup (pa_cons (pe_ix ix_tup (pe_ix ix_list (pv 1) (pv 3) (fun _ _ => rfl)) pe_int (fun _ _ => rfl)) (pa_cons (pe_ix ix_tup (pe_ix ix_list (pv 1) (pv 3) (fun _ _ => rfl)) pe_int (fun _ _ => rfl)) (pa_cons (pe_ix ix_list (pv 2) (pe_ix ix_tup (pe_ix ix_list (pv 1) (pv 3) (fun _ _ => rfl)) pe_int (fun _ _ => rfl)) (fun _ _ => rfl)) pa_nil)))) (nomark _)) (pss_one (ps_ret pe_bl)) pss_nil)))))))
      (pss_one (ps_ret pe_bl)))), ?_⟩
    have lu := paired_len pu
    have lf := paired_len pf
    refine ts_if (A := False) (Ts.imp (A := False ∨ False) (Ts.or (A := False) (B := False) (fun Q q => ⟨_, rfl, _, _, _, _, true, rfl, .ty _, .base (.lst ha), kit_ty (by decide +kernel), true, rfl, q _ (by simp)⟩) fun _ Q q => ⟨_, rfl, a, _, rfl, .inl (SqL.of ha), _, rfl, b, _, rfl, .inl (SqL.of hb), rfl, _, rfl, q _ (by rw [lu, lf]; simp)⟩) (by simp)) (fun h => h.elim) (fun _ => ?_)
    refine ⟨_, rfl, b, _, rfl, .inl (SqL.of hb), _, rfl, by omega, by omega, ?_⟩
    refine for_range (lo := 0) (n := ((fs.length : Nat) : Int).toNat) (fun n σ H' => Same H H' ∧ ∃ y3 y4 : Option V, σ = [some (.ref a), some (.ref b), some (.ref m), y3, y4]) ⟨fun _ _ h => h, none, none, rfl⟩ ?_ ?_
    · rintro n σ H1 hi ⟨s1, y3, y4, rfl⟩
      have hin : n < xs.length := by omega
      obtain ⟨x, hx⟩ : ∃ x, xs[n]? = some x := ⟨_, List.getElem?_eq_getElem hin⟩
      obtain ⟨v, hv, g, rfl, hg⟩ := paired_get pu hx
      obtain ⟨v2, hv2, g2, k, rfl, hg2, hk⟩ := paired_get pf hx
      obtain ⟨o, lab, t⟩ := x
      obtain ⟨dx, tp, hd, _⟩ := (hn _ (List.mem_of_getElem? hx)).it
      have hd1 := s1 _ _ hd
      have ha1 := s1 _ _ ha
      have hb1 := s1 _ _ hb
      have hm1 := s1 _ _ hm
      have h1 := s1 _ _ hg
      have h2 := s1 _ _ hg2
      have en : (0 : Int) + (n : Int) = ((n : Nat) : Int) := by omega
      rw [en]
      have hmk : (as.map V.ref)[k]? = some (.ref t.at) := by
        rw [List.getElem?_map, hk]
        rfl
      refine ⟨_, rfl, _, rfl, a, _, _, .ref g, rfl, rfl, SqL.of ha1, atI_nat hv, ?_⟩
      refine g_seqD ?_
      refine ts_if (A := False) (Ts.imp (A := False ∨ False) (Ts.or (A := False) (B := False) (fun Q q => ⟨_, rfl, _, _, _, _, true, rfl, .ty _, .base (.tup h1), kit_ty (by decide +kernel), true, rfl, q _ (by simp)⟩) fun _ Q q => ⟨_, rfl, g, _, rfl, .inr (SqT.of h1), rfl, _, rfl, q _ (by simp)⟩) (by simp)) (fun h => h.elim) (fun _ => ?_)
      refine ts_if (A := False) (Ts.imp (A := False ∨ False) (Ts.or (A := False) (B := False) (fun Q q => ⟨_, rfl, g, _, 0, .int o, rfl, rfl, SqT.of h1, rfl, _, _, _, _, true, rfl, .ty _, .base (.int _), kit_ty (by decide +kernel), true, rfl, q _ (by simp)⟩) fun _ Q q => ⟨_, rfl, g, _, 0, .int o, rfl, rfl, SqT.of h1, rfl, _, _, _, _, false, rfl, .ty _, .base (.int _), kit_ty (by decide +kernel), false, rfl, q _ (by simp)⟩) (by simp)) (fun h => h.elim) (fun _ => ?_)
      refine ts_if (A := False) (Ts.imp (A := False ∨ False) (Ts.or (A := False) (B := False) (fun Q q => ⟨_, rfl, g, _, 1, .str lab, rfl, rfl, SqT.of h1, rfl, _, _, _, _, true, rfl, .ty _, .base (.str _), kit_ty (by decide +kernel), true, rfl, q _ (by simp)⟩) fun _ Q q => ⟨_, rfl, g, _, 2, .ref t.at, rfl, rfl, SqT.of h1, rfl, t.at, dx, _, rfl, hd1, true, rfl, q _ (by simp)⟩) (by simp)) (fun h => h.elim) (fun _ => ?_)
      refine ⟨_, rfl, _, rfl, _, rfl, b, _, _, .ref g2, rfl, rfl, SqL.of hb1, atI_nat hv2, g2, _, 0, .int o, rfl, rfl, SqT.of h2, rfl, _, rfl, _, rfl, b, _, _, .ref g2, rfl, rfl, SqL.of hb1, atI_nat hv2, g2, _, 1, .str lab, rfl, rfl, SqT.of h2, rfl, _, rfl, _, rfl, _, rfl, b, _, _, .ref g2, rfl, rfl, SqL.of hb1, atI_nat hv2, g2, _, 2, .int (k : Int), rfl, rfl, SqT.of h2, rfl, m, _, _, .ref t.at, rfl, rfl, SqL.of hm1, atI_nat hmk, by show 3 ≤ sizeLine; decide, fun g3 ng3 => ?_⟩
      have s3 := same_upd (o := .tup [.int o, .str lab, .ref t.at]) ng3
      have hi : ∀ v ∈ [V.int o, V.str lab, V.ref t.at], OwnOp.itemB v := fun v hv => by
        rcases List.mem_cons.mp hv with rfl | hv
        · exact .inl rfl
        · rcases List.mem_cons.mp hv with rfl | hv
          · exact .inl rfl
          · rw [List.mem_singleton.mp hv]
            exact .inr ⟨_, rfl⟩
      refine ⟨g, g3, _, rfl, rfl, SqT.of (s3 _ _ h1), SqT.of upd_same, hi, _, rfl, iteF ?_⟩
      exact ⟨s1.trans s3, _, _, rfl⟩
    · rintro σ H1 ⟨s1, y3, y4, rfl⟩
      exact q H1 s1

/-! ### a tree asked at some rows, each twice -/
theorem follow_alt {al : List Way} {x : Int × Tr} : ∀ {l : List Nat} {t : Tr} {pl : Int}, AltOk al t → follow t pl l = some x → AltOk al x.2
  | [], t, pl, h, e => by
    obtain rfl := Option.some.inj e
    exact h
  | i :: l, .mk p d ks, pl, h, e => by
    have e : (match ks[i]? with | none => none | some c => follow c (pl + sumZ (wids (ks.take i))) l) = some x := e
    cases hc : ks[i]? with
    | none =>
      rw [hc] at e
      cases e
    | some c =>
      rw [hc] at e
      exact follow_alt (AltsOk.mem h.2 (List.mem_of_getElem? hc)) e
mutual
theorem seeT_in {K : PySem.W.Frag} {C : Addr} {H : Hp} {al : List Way} {hid : List Str} : ∀ {t : Tr} {o : Int} {lab : Str}, NodeAt K C H t → (seeT al hid t o lab).length ≤ t.ats.length ∧ ∀ x ∈ seeT al hid t o lab, NodeAt K C H x.2.2
  | .mk p d ks, o, lab, h => by
    show (if d.kind ∈ hid then seeKs al hid ks (labsOf al d ks.length) o lab else [(o, lab, .mk p d ks)]).length ≤ (atsL ks).length + 1 ∧ ∀ x ∈ (if d.kind ∈ hid then seeKs al hid ks (labsOf al d ks.length) o lab else [(o, lab, .mk p d ks)]), NodeAt K C H x.2.2
    by_cases hk : d.kind ∈ hid
    · rw [if_pos hk]
      obtain ⟨a, b⟩ := seeKs_in (al := al) (hid := hid) (ls := labsOf al d ks.length) (o := o) (out := lab) h.2
      exact ⟨by omega, b⟩
    · rw [if_neg hk]
      refine ⟨by show 1 ≤ _; omega, fun x hx => ?_⟩
      rw [List.mem_singleton.mp hx]
      exact h
theorem seeKs_in {K : PySem.W.Frag} {C : Addr} {H : Hp} {al : List Way} {hid : List Str} : ∀ {ts : List Tr} {ls : List Str} {o : Int} {out : Str}, NodesAt K C H ts → (seeKs al hid ts ls o out).length ≤ (atsL ts).length ∧ ∀ x ∈ seeKs al hid ts ls o out, NodeAt K C H x.2.2
  | [], [], _, _, _ => ⟨Nat.zero_le _, fun x hx => absurd hx List.not_mem_nil⟩
  | [], _ :: _, _, _, _ => ⟨Nat.zero_le _, fun x hx => absurd hx List.not_mem_nil⟩
  | _ :: _, [], _, _, _ => ⟨Nat.zero_le _, fun x hx => absurd hx List.not_mem_nil⟩
  | t :: ts, l :: ls, o, out, h => by
    obtain ⟨a, b⟩ := seeT_in (al := al) (hid := hid) (o := o) (lab := labOr out l) (NodesAt.mem h List.mem_cons_self)
    obtain ⟨c, d⟩ := seeKs_in (al := al) (hid := hid) (ls := ls) (o := o + t.d.wid) (out := out) (show NodesAt K C H ts from h.2)
    refine ⟨?_, fun x hx => ?_⟩
    · show (seeT al hid t o (labOr out l) ++ seeKs al hid ts ls (o + t.d.wid) out).length ≤ (t.ats ++ atsL ts).length
      rw [List.length_append, List.length_append]
      omega
    · have hx : x ∈ seeT al hid t o (labOr out l) ++ seeKs al hid ts ls (o + t.d.wid) out := hx
      rcases List.mem_append.mp hx with hx | hx
      · exact b x hx
      · exact d x hx
end
theorem paired_short {α β : Type} {F : α → β → Prop} {xs : List α} {ys : List β} (h : Paired F xs ys) {n : Nat} (l : ys.length ≤ n) : xs.length ≤ n := by
  rw [paired_len h]
  exact l
def spAgrees (K : PySem.W.Frag) (C CG : Addr) : Sp := fun vs H Q _ => ∃ (p vl l lb m A : Addr) (g : Gm) (us : List V) (rows : List Rw) (as : List Addr) (t : Tr) (al : List Way) (hid labs : List Str) (asks : List Nat), vs = [.ref p, .ref vl, .ref l, .ref lb, .ref m, .ref A] ∧
  GrIn K CG H p g al hid ∧ TreeIn K C H l m us rows as t ∧ AltOk al t ∧ LabOk al t labs ∧ H lb = some (.lst (labs.map V.str)) ∧ H vl = some (.lst (hid.map V.str)) ∧ H A = some (.lst ((natsZ asks).map V.int)) ∧ (∀ k ∈ asks, k < rows.length) ∧ ∀ H', Same H H' → Q (.bl true) H'
theorem ok_agrees (T : Txt K mg) : FnOk P w K mg base CX0 3 T.a_law_agrees T.fd_law_agrees ["grammar", "veiled", "rows", "labels", "made", "asked"] (spAgrees K T.C_Node T.C_Grammar) := by
  have G_law_places : FnOk P w K mg base CX0 2 T.a_law_places T.fd_law_places ["rows", "start"] spPlaces := ok_places T
  have G_law_ups : FnOk P w K mg base CX0 2 T.a_law_ups T.fd_law_ups ["rows"] spUps := ok_ups T
  have G_law_seen : FnOk P w K mg base CX0 2 T.a_law_seen T.fd_law_seen ["rows", "labels", "places", "ups", "veiled", "at"] (spSeenL K T.C_Node) := ok_seen_law T
  have G_seen : FnOk P w K mg base CX0 2 T.a_seen T.fd_seen ["grammar", "node"] (spSeen K T.C_Node T.C_Grammar) := ok_seen T
  have G_law_is : FnOk P w K mg base CX0 1 T.a_law_is T.fd_law_is ["told", "due", "made"] (spIsL K T.C_Node) := ok_is T
  refine T.F_law_agrees.ok sc_law_agrees (fun vs H Q E h => ?_) (fun cdv A0 outer s H vs Q E hr h => ?_)
  · obtain ⟨p, vl, l, lb, m, A, g, us, rows, as, t, al, hid, labs, asks, rfl, _⟩ := h
    rfl
  · have hr_law_places : Room 2 _ := hr
    have hr_law_ups : Room 2 _ := hr
    have hr_law_seen : Room 2 _ := hr
    have hr_seen : Room 2 _ := hr
    have hr_law_is : Room 1 _ := hr.mono (by decide)
    obtain ⟨p, vl, l, lb, m, A, g, us, rows, as, t, al, hid, labs, asks, rfl, hG, TI, hA, LO, hlb, hvl, hAs, hask, q⟩ := h
    refine ⟨_, (pss_cons (ps_set (i := 6) sc_law_agrees.nd rfl (.inl rfl) (pe_call G_law_places hr_law_places (by rfl) T.g_law_places T.F_law_places.kp T.b_law_places .nil pass0 (pa_cons (pv 2) (pa_cons pe_int pa_nil))))
      (pss_cons (ps_set (i := 7) sc_law_agrees.nd rfl (.inl rfl) (pe_call G_law_ups hr_law_ups (by rfl) T.g_law_ups T.F_law_ups.kp T.b_law_ups .nil pass0 (pa_cons (pv 2) pa_nil)))
      (pss_cons (ps_for PassesOwn.never rfl (pi_list (pv 5)) (pg_name (i := 8) sc_law_agrees.nd rfl (.inl rfl)) (pss_cons (ps_set (i := 9) sc_law_agrees.nd rfl (.inl rfl) (pe_call G_law_seen hr_law_seen (by rfl) T.g_law_seen T.F_law_seen.kp T.b_law_seen .nil pass0 (pa_cons (pv 2) (pa_cons (pv 3) (pa_cons (pv 6) (pa_cons (pv 7) (pa_cons (pv 1) (pa_cons (pv 8) pa_nil))))))))
      (pss_cons (ps_set (i := 10) sc_law_agrees.nd rfl (.inl rfl) (pe_call G_seen hr_seen (by rfl) T.g_seen T.F_seen.kp T.b_seen .nil pass0 (pa_cons (pv 0) (pa_cons (pe_ix ix_list (pv 4) (pv 8) (fun _ _ => rfl)) pa_nil))))
      (pss_cons (ps_if (pt_not (pt_val (pe_call G_law_is hr_law_is (by rfl) T.g_law_is T.F_law_is.kp T.b_law_is .nil pass0 (pa_cons (pv 10) (pa_cons (pv 9) (pa_cons (pv 4) pa_nil)))))) (pss_one (ps_ret pe_bl)) pss_nil)
      (pss_cons (ps_expr (pe_bm PySem.F.plainAttrs_list PySem.F.slot_list_append PySem.F.type_list_append mt_append (pv 10) (pa_cons (pe_tup (pa_cons pe_int (pa_cons pe_str (pa_cons (pe_ix ix_list (pv 4) (pv 8) (fun _ _ => rfl)) pa_nil)))) pa_nil)))
      (pss_cons (ps_expr (pe_bm0 PySem.F.plainAttrs_list PySem.F.slot_list_reverse PySem.F.type_list_reverse mt_reverse (pv 10)))
      (pss_one (ps_if (pt_not (pt_val (pe_call G_law_is hr_law_is (by rfl) T.g_law_is T.F_law_is.kp T.b_law_is .nil pass0 (pa_cons (pe_call G_seen hr_seen (by rfl) T.g_seen T.F_seen.kp T.b_seen .nil pass0 (pa_cons (pv 0) (pa_cons (pe_ix ix_list (pv 4) (pv 8) (fun _ _ => rfl)) pa_nil))) (pa_cons (pv 9) (pa_cons (pv 4) pa_nil)))))) (pss_one (ps_ret pe_bl)) pss_nil))))))))
      (pss_one (ps_ret pe_bl))))), ?_⟩
    have lr := TI.sz
    have lp := TI.plen
    refine ⟨_, rfl, l, us, rows, 0, rfl, TI.rws, by omega, fun pp ns H1 s1 npp hpp lns hns => ?_⟩
    have TI1 := TI.same s1
    refine ⟨_, rfl, l, us, rows, t, rfl, TI1.rws, TI1.of, by omega, fun up H2 s2 nup U2 => ?_⟩
    have s02 := s1.trans s2
    have lats : t.ats.length ≤ 5000 := by rw [TI.ats, TI.len]; omega
    refine ⟨_, rfl, A, rfl, ⟨_, SqL.of (s02 _ _ hAs)⟩, ?_⟩
    refine for_list (K := K) (a := A) (xs := (natsZ asks).map V.int) (fun i σ H' => Same H2 H' ∧ ∃ y8 y9 y10 : Option V, σ = [some (.ref p), some (.ref vl), some (.ref l), some (.ref lb), some (.ref m), some (.ref A), some (.ref pp), some (.ref up), y8, y9, y10])
      ⟨Same.refl _, none, none, none, rfl⟩ (fun i σ H' _ ⟨sm, _⟩ => SqL.of (sm _ _ (s02 _ _ hAs))) ?_ ?_
    · rintro i v σ H3 hv ⟨s3, y8, y9, y10, rfl⟩
      obtain ⟨k, hk, rfl⟩ := natsZ_at hv
      have hkr := hask k (List.mem_of_getElem? hk)
      have sx := s02.trans s3
      have TI3 := TI.same sx
      obtain ⟨pk, sk, _, hsk, hask2, hrowk⟩ := TI3.spot 0 hkr
      have hfk := spots_follow (List.mem_of_getElem? hsk)
      have nsk : NodeAt K T.C_Node H3 sk := follow_node TI3.nd hfk
      have ask : AltOk al sk := follow_alt hA hfk
      have lsk : sk.ats.length ≤ 5000 := Nat.le_trans (follow_ats hfk) lats
      have wk := ats_ks sk
      have hmk : (as.map V.ref)[k]? = some (.ref sk.at) := by rw [List.getElem?_map, hask2]; rfl
      obtain ⟨xs, hxs⟩ : ∃ xs, xs = seeKs al hid sk.ks (labsOf al sk.d sk.ks.length) 0 "" := ⟨_, rfl⟩
      have inx := seeKs_in (K := K) (C := T.C_Node) (al := al) (hid := hid) (ls := labsOf al sk.d sk.ks.length) (o := 0) (out := "") nsk.kids
      rw [← hxs] at inx
      have lxs : xs.length ≤ 5000 := by omega
      refine ⟨_, rfl, _, rfl, _, rfl, _, rfl, _, rfl, _, rfl, l, lb, pp, up, vl, m, us, rows, as, t, al, hid, labs, ns, k, pk, _, sk, rfl, TI3, LO, sx _ _ hlb, (s2.trans s3) _ _ hpp, lns, hns, U2.same s3, sx _ _ hvl, hsk, ask, fun D fs H4 s4 nD hD pf => ?_⟩
      rw [← hxs] at pf
      have sy := sx.trans s4
      refine ⟨_, rfl, _, rfl, _, rfl, m, _, _, .ref sk.at, rfl, rfl, SqL.of (sy _ _ TI.mds), atI_nat hmk, p, g, al, hid, sk, rfl, hG.same sy, nsk.keep (Keeps.of s4), ask, lsk, fun D5 us5 H5 s5 nD5 hD5 pu5 => ?_⟩
      rw [← hxs] at pu5
      have s45 := s4.trans s5
      have sz5 := sy.trans s5
      refine ⟨_, rfl, _, rfl, _, rfl, D5, D, m, us5, fs, xs, as, rfl, hD5, s5 _ _ hD, sz5 _ _ TI.mds, pu5, Paired.mapP pf fun _ _ z => z.tups fun b xs e => s5 b _ e, lxs, fun x hx => (inx.2 x hx).keep (Keeps.of s45), fun H6 s6 => ?_⟩
      refine ⟨true, rfl, iteF ?_⟩
      have hmd6 := (sz5.trans s6) _ _ TI.mds
      have hD6 := s6 _ _ hD5
      refine ⟨_, rfl, .inl ⟨rfl, _, SqL.of hD6⟩, _, rfl, _, rfl, m, _, _, .ref sk.at, rfl, rfl, SqL.of hmd6, atI_nat hmk, by show 3 ≤ sizeLine; decide, fun g9 ng9 => ?_⟩
      have s9 := same_upd (o := .tup [.int 0, .str "", .ref sk.at]) ng9
      have hD9 := s9 _ _ hD6
      have lus5 := paired_short pu5 lxs
      refine ⟨D5, _, _, rfl, rfl, hD9, sz2 (by omega), ?_⟩
      refine ⟨_, rfl, .inl ⟨rfl, _, SqL.of upd_same⟩, D5, _, rfl, rfl, upd_same, ?_⟩
      have nD50 : H3 D5 = none := s4.free nD5
      have hDD : D ≠ D5 := fun z => by rw [z, nD5] at hD; cases hD
      obtain ⟨o1, ho1⟩ : ∃ o, o = HO.lst (us5 ++ [V.ref g9]) := ⟨_, rfl⟩
      rw [← ho1]
      obtain ⟨o2, ho2⟩ : ∃ o, o = HO.lst ((us5 ++ [V.ref g9]).reverse) := ⟨_, rfl⟩
      rw [← ho2]
      have s59 := (s5.trans s6).trans s9
      have sX : Same H3 _ := same_mut (p := D5) (o := o2) (same_mut (p := D5) (o := o1) (s4.trans s59) nD50) nD50
      have tX : Tups H4 _ := Tups.trans (Tups.trans (fun b xs e => s59 b _ e) (tups_lst (o := o1) hD9)) (tups_lst (o := o2) (xs := us5 ++ [.ref g9]) (by rw [upd_same, ho1]))
      have hDX : (upd (upd (upd H6 g9 (.tup [.int 0, .str "", .ref sk.at])) D5 o1) D5 o2) D = some (.lst fs) := by
        rw [upd_ne hDD, upd_ne hDD]
        exact s59 _ _ hD
      obtain ⟨HX, hHX⟩ : ∃ HX, HX = upd (upd (upd H6 g9 (.tup [.int 0, .str "", .ref sk.at])) D5 o1) D5 o2 := ⟨_, rfl⟩
      rw [← hHX] at sX tX hDX ⊢
      have sy2 := sx.trans sX
      refine ⟨_, rfl, _, rfl, _, rfl, m, _, _, .ref sk.at, rfl, rfl, SqL.of (sy2 _ _ TI.mds), atI_nat hmk, p, g, al, hid, sk, rfl, hG.same sy2, nsk.keep (Keeps.of sX), ask, lsk, fun D7 us7 H7 s7 nD7 hD7 pu7 => ?_⟩
      rw [← hxs] at pu7
      refine ⟨_, rfl, _, rfl, D7, D, m, us7, fs, xs, as, rfl, hD7, s7 _ _ hDX, (sy2.trans s7) _ _ TI.mds, pu7, Paired.mapP pf fun _ _ z => z.tups (Tups.trans tX fun b xs e => s7 b _ e), lxs, fun x hx => (inx.2 x hx).keep (Keeps.of (sX.trans s7)), fun H8 s8 => ?_⟩
      exact ⟨true, rfl, iteF ⟨s3.trans ((sX.trans s7).trans s8), _, _, _, rfl⟩⟩
    · rintro σ H3 ⟨s3, y8, y9, y10, rfl⟩
      exact q H3 (s02.trans s3)

/-! ### the labels of a tree's rows -/
mutual
def labsT (al : List Way) : Tr → Str → List Str
  | .mk _ d ks, lab => lab :: labsTs al ks (labsOf al d ks.length)
def labsTs (al : List Way) : List Tr → List Str → List Str
  | [], _ => []
  | .mk p d js :: ts, ls => labsT al (.mk p d js) (ls.headD "") ++ labsTs al ts ls.tail
end
theorem labsTs_cons {al : List Way} {k : Tr} {ks : List Tr} {ls : List Str} : labsTs al (k :: ks) ls = labsT al k (ls.headD "") ++ labsTs al ks ls.tail := by
  cases k
  rfl
mutual
theorem labsT_len (al : List Way) : ∀ (t : Tr) (r : Str), (labsT al t r).length = t.ats.length
  | .mk p d ks, r => by
    show (labsTs al ks (labsOf al d ks.length)).length + 1 = (atsL ks).length + 1
    rw [labsTs_len al ks]
theorem labsTs_len (al : List Way) : ∀ (ts : List Tr) (ls : List Str), (labsTs al ts ls).length = (atsL ts).length
  | [], _ => rfl
  | .mk p d js :: ts, ls => by
    show (labsT al (.mk p d js) _ ++ labsTs al ts ls.tail).length = ((Tr.mk p d js).ats ++ atsL ts).length
    rw [List.length_append, List.length_append, labsT_len al (.mk p d js), labsTs_len al ts]
end
mutual
theorem labsT_par {al : List Way} {i p : Nat} {pi : List Nat} {q qx : Int} {s sx : Tr} : ∀ {t : Tr} {r : Str} {k : Nat} {pl : Int}, (t.spots pl)[k]? = some (pi ++ [i], qx, sx) → (t.spots pl)[p]? = some (pi, q, s) →
    (labsT al t r)[k]? = some ((labsOf al s.d s.ks.length).getD i "")
  | .mk a d ks, r, 0, pl, h, _ => by
    have h : some (([], pl, .mk a d ks) : Spot) = some (pi ++ [i], qx, sx) := h
    injection h with h
    injection h with h _
    exact (snoc_nil h.symm).elim
  | .mk a d ks, r, k + 1, pl, h, hp => by
    have h' : (spotsL pl 0 ks)[k]? = some (pi ++ [i], qx, sx) := h
    rcases labsTs_par (al := al) (ls := labsOf al d ks.length) h' with ⟨e, f⟩ | f
    · subst e
      have p0 : p = 0 := by
        have e1 := spots_at hp
        exact paths_uniq e1 path_zero
      subst p0
      have e2 := spotsL_zero hp
      injection e2 with _ e2
      injection e2 with _ e2
      subst e2
      rw [Nat.sub_zero] at f
      exact f
    · cases p with
      | zero =>
        have e2 := spotsL_zero hp
        injection e2 with e2 _
        subst e2
        have h' : (spotsL pl 0 ks)[k]? = some ([i], qx, sx) := h'
        rcases labsTs_par (al := al) (ls := labsOf al d ks.length) (pi := []) h' with ⟨_, f2⟩ | f2
        · have e3 := spotsL_zero hp
          injection e3 with _ e3
          injection e3 with _ e3
          subst e3
          rw [Nat.sub_zero] at f2
          exact f2
        · obtain ⟨j, l, e, _⟩ := pathsL_head f2.1
          cases e
      | succ p => exact f.2 p q s hp
theorem labsTs_par {al : List Way} {i : Nat} {pi : List Nat} {qx : Int} {sx : Tr} : ∀ {ts : List Tr} {ls : List Str} {i0 k : Nat} {pl : Int}, (spotsL pl i0 ts)[k]? = some (pi ++ [i], qx, sx) →
    (pi = [] ∧ (labsTs al ts ls)[k]? = some (ls.getD (i - i0) "")) ∨
    (pi ∈ pathsL i0 ts ∧ ∀ (p : Nat) (q : Int) (s : Tr), (spotsL pl i0 ts)[p]? = some (pi, q, s) → (labsTs al ts ls)[k]? = some ((labsOf al s.d s.ks.length).getD i ""))
  | [], _, _, _, _, h => by cases h
  | .mk a d js :: ts, ls, i0, k, pl, h => by
    have sl := spots_len (.mk a d js) pl
    have h : (((Tr.mk a d js).spots pl).map (fun x => ((i0 :: x.1, x.2) : Spot)) ++ spotsL (pl + d.wid) (i0 + 1) ts)[k]? = some (pi ++ [i], qx, sx) := h
    have rl : ∀ r, (labsT al (.mk a d js) r).length = ((Tr.mk a d js).spots pl).length := fun r => by rw [labsT_len, sl]
    have hd0 : ls.headD "" = ls.getD 0 "" := by cases ls <;> rfl
    by_cases hk : k < ((Tr.mk a d js).spots pl).length
    · rw [List.getElem?_append_left (by rw [List.length_map]; exact hk), List.getElem?_map] at h
      cases hy : ((Tr.mk a d js).spots pl)[k]? with
      | none =>
        rw [hy] at h
        cases h
      | some y =>
        rw [hy] at h
        obtain ⟨y1, y2, y3⟩ := y
        have h : some ((i0 :: y1, y2, y3) : Spot) = some (pi ++ [i], qx, sx) := h
        injection h with h
        injection h with h1 h
        injection h with h2 h3
        subst h2
        subst h3
        rcases cons_snoc h1.symm with ⟨rfl, rfl, rfl⟩ | ⟨p', rfl, rfl⟩
        · refine .inl ⟨rfl, ?_⟩
          have k0 : k = 0 := paths_uniq (spots_at hy) path_zero
          subst k0
          have e2 := spotsL_zero hy
          injection e2 with _ e2
          injection e2 with _ e2
          subst e2
          rw [Nat.sub_self, ← hd0]
          show (labsT al (.mk a d js) _ ++ _)[0]? = _
          rfl
        · refine .inr ⟨?_, fun p q s hp => ?_⟩
          · obtain ⟨p, _, hp, _⟩ := paths_par (spots_at hy)
            show i0 :: p' ∈ (Tr.mk a d js).paths.map (i0 :: ·) ++ pathsL (i0 + 1) ts
            exact List.mem_append_left _ (List.mem_map.mpr ⟨p', List.mem_of_getElem? hp, rfl⟩)
          · have hp : (((Tr.mk a d js).spots pl).map (fun x => ((i0 :: x.1, x.2) : Spot)) ++ spotsL (pl + d.wid) (i0 + 1) ts)[p]? = some (i0 :: p', q, s) := hp
            by_cases hpk : p < ((Tr.mk a d js).spots pl).length
            · rw [List.getElem?_append_left (by rw [List.length_map]; exact hpk), List.getElem?_map] at hp
              cases hz : ((Tr.mk a d js).spots pl)[p]? with
              | none =>
                rw [hz] at hp
                cases hp
              | some z =>
                rw [hz] at hp
                obtain ⟨z1, z2, z3⟩ := z
                have hp : some ((i0 :: z1, z2, z3) : Spot) = some (i0 :: p', q, s) := hp
                injection hp with hp
                injection hp with e1 hp
                injection hp with e2 e3
                injection e1 with _ e1
                subst e1
                subst e2
                subst e3
                have f2 := labsT_par (al := al) (r := ls.headD "") hy hz
                show (labsT al (.mk a d js) _ ++ _)[k]? = _
                rw [List.getElem?_append_left (by rw [rl]; exact hk)]
                exact f2
            · rw [List.getElem?_append_right (by rw [List.length_map]; omega), List.length_map] at hp
              have hm : i0 :: p' ∈ pathsL (i0 + 1) ts := by
                rw [← spotsL_paths ts (pl + d.wid)]
                exact List.mem_map.mpr ⟨_, List.mem_of_getElem? hp, rfl⟩
              obtain ⟨j, l, e, le⟩ := pathsL_head hm
              injection e with e _
              omega
    · rw [List.getElem?_append_right (by rw [List.length_map]; omega), List.length_map] at h
      have tl : ∀ j, ls.tail.getD j "" = ls.getD (j + 1) "" := fun j => by cases ls <;> rfl
      have hm : pi ++ [i] ∈ pathsL (i0 + 1) ts := by
        rw [← spotsL_paths ts (pl + d.wid)]
        exact List.mem_map.mpr ⟨_, List.mem_of_getElem? h, rfl⟩
      obtain ⟨j, l, e, le⟩ := pathsL_head hm
      rcases labsTs_par (al := al) (ls := ls.tail) h with ⟨rfl, f⟩ | ⟨f1, f2⟩
      · refine .inl ⟨rfl, ?_⟩
        injection e with e _
        rw [tl, show i - (i0 + 1) + 1 = i - i0 by omega] at f
        show (labsT al (.mk a d js) _ ++ _)[k]? = _
        rw [List.getElem?_append_right (by rw [rl]; omega), rl]
        exact f
      · refine .inr ⟨?_, fun p q s hp => ?_⟩
        · show pi ∈ (Tr.mk a d js).paths.map (i0 :: ·) ++ pathsL (i0 + 1) ts
          exact List.mem_append_right _ f1
        · have hp : (((Tr.mk a d js).spots pl).map (fun x => ((i0 :: x.1, x.2) : Spot)) ++ spotsL (pl + d.wid) (i0 + 1) ts)[p]? = some (pi, q, s) := hp
          obtain ⟨j1, l1, e1, le1⟩ := pathsL_head f1
          by_cases hpk : p < ((Tr.mk a d js).spots pl).length
          · rw [List.getElem?_append_left (by rw [List.length_map]; exact hpk), List.getElem?_map] at hp
            cases hz : ((Tr.mk a d js).spots pl)[p]? with
            | none =>
              rw [hz] at hp
              cases hp
            | some z =>
              rw [hz] at hp
              injection hp with hp
              injection hp with e2 _
              rw [e1] at e2
              injection e2 with e2 _
              omega
          · rw [List.getElem?_append_right (by rw [List.length_map]; omega), List.length_map] at hp
            show (labsT al (.mk a d js) _ ++ _)[k]? = _
            rw [List.getElem?_append_right (by rw [rl]; omega), rl]
            exact f2 _ q s hp
end
theorem LabOk.of (al : List Way) (t : Tr) (lab : Str) : LabOk al t (labsT al t lab) := ⟨labsT_len al t lab, fun k p i pi q s hk hp => by
  obtain ⟨x, hx⟩ : ∃ x, (t.spots 0)[k]? = some x := by
    have := (List.getElem?_eq_some_iff.mp hk).1
    refine ⟨_, List.getElem?_eq_getElem ?_⟩
    rw [← spots_paths t 0, List.length_map] at this
    exact this
  obtain ⟨x1, x2, x3⟩ := x
  obtain rfl : x1 = pi ++ [i] := Option.some.inj ((spots_at hx).symm.trans hk)
  exact labsT_par hx hp⟩
mutual
/-- the rows below a spot have the labels of its tree -/
theorem labsT_drop {al : List Way} {pa : List Nat} {qa : Int} {sa : Tr} : ∀ {t : Tr} {pl : Int} {k : Nat} {lab : Str}, (t.spots pl)[k]? = some (pa, qa, sa) → ∃ l rest, (labsT al t lab).drop k = labsT al sa l ++ rest
  | .mk p d ks, pl, 0, lab, h => by
    have h : some (([], pl, .mk p d ks) : Spot) = some (pa, qa, sa) := h
    cases h
    exact ⟨lab, [], by rw [List.append_nil]; rfl⟩
  | .mk p d ks, pl, k + 1, lab, h => by
    have h : (spotsL pl 0 ks)[k]? = some (pa, qa, sa) := h
    exact labsTs_drop h
theorem labsTs_drop {al : List Way} {pa : List Nat} {qa : Int} {sa : Tr} : ∀ {ts : List Tr} {pl : Int} {i k : Nat} {ls : List Str}, (spotsL pl i ts)[k]? = some (pa, qa, sa) → ∃ l rest, (labsTs al ts ls).drop k = labsT al sa l ++ rest
  | [], _, _, _, _, h => by cases h
  | .mk a d js :: ts, pl, i, k, ls, h => by
    have sl := spots_len (.mk a d js) pl
    have h : (((Tr.mk a d js).spots pl).map (fun x => ((i :: x.1, x.2) : Spot)) ++ spotsL (pl + d.wid) (i + 1) ts)[k]? = some (pa, qa, sa) := h
    show ∃ l rest, (labsT al (.mk a d js) (ls.headD "") ++ labsTs al ts ls.tail).drop k = _
    by_cases hk : k < ((Tr.mk a d js).spots pl).length
    · rw [List.getElem?_append_left (by rw [List.length_map]; exact hk), List.getElem?_map] at h
      cases hy : ((Tr.mk a d js).spots pl)[k]? with
      | none =>
        rw [hy] at h
        cases h
      | some y =>
        rw [hy] at h
        obtain ⟨y1, y2, y3⟩ := y
        have h : some ((i :: y1, y2, y3) : Spot) = some (pa, qa, sa) := h
        cases h
        obtain ⟨l, rest, e⟩ := labsT_drop (al := al) (lab := ls.headD "") hy
        refine ⟨l, rest ++ labsTs al ts ls.tail, ?_⟩
        rw [List.drop_append_of_le_length (by rw [labsT_len]; omega), e, List.append_assoc]
    · rw [List.getElem?_append_right (by rw [List.length_map]; omega), List.length_map] at h
      obtain ⟨l, rest, e⟩ := labsTs_drop (al := al) (ls := ls.tail) h
      refine ⟨l, rest, ?_⟩
      rw [List.drop_append, List.drop_of_length_le (by rw [labsT_len]; omega), List.nil_append, labsT_len, ← sl]
      exact e
end
theorem labsT_tail {al : List Way} {t : Tr} {l l2 : Str} : (labsT al t l).drop 1 = (labsT al t l2).drop 1 := by
  cases t
  rfl

/-! ### trees whose widths and leads fit -/
mutual
theorem grow_of : ∀ (t : Tr) (l : Int) (rest : List Ra), (∀ p, (grow rest).head? = some p → p.1 ≤ l) → grow (t.ras l ++ rest) = (l, t) :: grow rest
  | .mk p d ks, l, rest, h => by
    have ih := growL_of ks (l + 1) rest (fun p hp => by have := h p hp; omega)
    have e := take_while_is (f := fun p : Lt => p.1 == l + 1) (a := ks.map fun t => (l + 1, t)) (b := grow rest) (fun x hx => by
      obtain ⟨t, _, rfl⟩ := List.mem_map.mp hx
      exact beq_self_eq_true _) (fun x hx => by
      have := h x hx
      exact beq_eq_false_iff_ne.mpr (by omega))
    have e2 : grow ((l, d, p) :: (rasL (l + 1) ks ++ rest)) = (l, .mk p d (((grow (rasL (l + 1) ks ++ rest)).takeWhile fun p => p.1 == l + 1).map Prod.snd)) :: (grow (rasL (l + 1) ks ++ rest)).dropWhile fun p => p.1 == l + 1 := rfl
    show grow ((l, d, p) :: (rasL (l + 1) ks ++ rest)) = _
    rw [e2, ih, e.1, e.2, List.map_map]
    have e3 : ks.map (Prod.snd ∘ fun t => (l + 1, t)) = ks := List.map_id _
    rw [e3]
theorem growL_of : ∀ (ts : List Tr) (l : Int) (rest : List Ra), (∀ p, (grow rest).head? = some p → p.1 ≤ l) → grow (rasL l ts ++ rest) = (ts.map fun t => (l, t)) ++ grow rest
  | [], _, _, _ => rfl
  | t :: ts, l, rest, h => by
    have ih := growL_of ts l rest h
    show grow ((t.ras l ++ rasL l ts) ++ rest) = (l, t) :: ((ts.map fun t => (l, t)) ++ grow rest)
    rw [List.append_assoc, grow_of t l _ (fun p hp => by
      rw [ih] at hp
      cases ts with
      | nil => exact h p hp
      | cons u us =>
        obtain rfl : ((l, u) : Lt) = p := Option.some.inj hp
        exact Int.le_refl _), ih]
end
def leadOf (f : Int) : Int := if 0 > f then 0 else f
mutual
def fsT : Tr → Int
  | .mk _ d ks => if leafB d = true then d.lead else fsL (-1) ks
def fsL : Int → List Tr → Int
  | f, [] => f
  | f, .mk p d js :: ts => fsL (if f < 0 then fsT (.mk p d js) else f) ts
end
theorem fsL_cons (f : Int) (t : Tr) (ts : List Tr) : fsL f (t :: ts) = fsL (if f < 0 then fsT t else f) ts := by
  cases t
  rfl
mutual
/-- leaves have no children; other nodes are as wide as their children together, and lead as the first of them -/
def FOk : Tr → Prop
  | .mk _ d ks => (leafB d = false → d.wid = sumZ (wids ks) ∧ d.lead = leadOf (fsL (-1) ks)) ∧ (leafB d = true → ks = [] ∧ 0 ≤ d.wid) ∧ FOks ks
def FOks : List Tr → Prop
  | [] => True
  | t :: ts => FOk t ∧ FOks ts
end
theorem FOks.of : ∀ {ts : List Tr}, (∀ t ∈ ts, FOk t) → FOks ts
  | [], _ => True.intro
  | _ :: _, h => ⟨h _ List.mem_cons_self, FOks.of fun t ht => h t (List.mem_cons_of_mem _ ht)⟩
mutual
theorem FOk.wok : ∀ {t : Tr}, FOk t → WOk t
  | .mk _ _ _, ⟨h1, h2, h3⟩ => ⟨fun e => (h1 e).1, h2, FOks.wok h3⟩
theorem FOks.wok : ∀ {ts : List Tr}, FOks ts → WOks ts
  | [], _ => True.intro
  | _ :: _, ⟨h1, h2⟩ => ⟨FOk.wok h1, FOks.wok h2⟩
end
def Nd.refit (d : Nd) (a b : Int) : Nd := ⟨d.kind, d.sym, d.st, a, b, d.look, d.alt, d.pop⟩
def FitN (x y : Nd) : Prop := (leafB x = true → y = x) ∧ ∃ a b, y = x.refit a b
def FitE (x y : Rw) : Prop := y.1 = x.1 ∧ FitN x.2 y.2
theorem FitN.leaf {x y : Nd} (h : FitN x y) : leafB y = leafB x := by
  obtain ⟨_, a, b, rfl⟩ := h
  rfl
theorem FitN.alt {x y : Nd} (h : FitN x y) : y.alt = x.alt := by
  obtain ⟨_, a, b, rfl⟩ := h
  rfl
theorem FitN.same {x y : Nd} (h : FitN x y) (h1 : y.wid = x.wid) (h2 : y.lead = x.lead) : y = x := by
  obtain ⟨_, a, b, rfl⟩ := h
  have h1 : b = x.wid := h1
  have h2 : a = x.lead := h2
  rw [h1, h2]
  rfl
/-- what waits: level, width, lead -/
abbrev Wt := Int × Int × Int
theorem grow_ras {y : Rw} {rs : List Rw} {a : Addr} {as : List Addr} : grow (rasOf (y :: rs) (a :: as)) = (y.1, .mk a y.2 (((grow (rasOf rs as)).takeWhile fun p => p.1 == y.1 + 1).map Prod.snd)) :: (grow (rasOf rs as)).dropWhile fun p => p.1 == y.1 + 1 := rfl
def gk3 (p : Lt) : Wt := (p.1, p.2.d.wid, fsT p.2)
def fsB (f : Int) (bt : List Wt) : Int := bt.foldl (fun f x => if f < 0 then x.2.2 else f) f
theorem fs_gk : ∀ (G : List Lt) (f : Int), fsL f (G.map Prod.snd) = fsB f (G.map gk3)
  | [], _ => rfl
  | p :: G, f => by
    show fsL f (p.2 :: G.map Prod.snd) = fsB (if f < 0 then fsT p.2 else f) (G.map gk3)
    rw [fsL_cons, fs_gk G]
theorem sum_gk3 : ∀ G : List Lt, sumZ (wids (G.map Prod.snd)) = sumZ ((G.map gk3).map fun x => x.2.1)
  | [] => rfl
  | p :: G => congrArg (p.2.d.wid + ·) (sum_gk3 G)
theorem tw_map3 (lv : Int) : ∀ (G : List Lt) (bt rest : List Wt), G.map gk3 = bt ++ rest → (∀ x ∈ bt, x.1 = lv) → (∀ x, rest.head? = some x → x.1 ≠ lv) →
    (G.takeWhile fun p => p.1 == lv).map gk3 = bt ∧ (G.dropWhile fun p => p.1 == lv).map gk3 = rest
  | [], [], rest, e, _, _ => ⟨rfl, e⟩
  | [], _ :: _, _, e, _, _ => by cases e
  | p :: G, [], [], e, _, _ => by cases e
  | p :: G, [], x :: rest, e, _, h => by
    have e : gk3 p :: G.map gk3 = x :: rest := e
    have e3 : p.1 = x.1 := congrArg Prod.fst (List.cons.inj e).1
    have hp : (p.1 == lv) = false := by rw [e3]; exact beq_eq_false_iff_ne.mpr (h x rfl)
    rw [List.takeWhile_cons, List.dropWhile_cons, hp]
    exact ⟨rfl, e⟩
  | p :: G, x :: bt, rest, e, hb, h => by
    have e : gk3 p :: G.map gk3 = x :: (bt ++ rest) := e
    obtain ⟨e1, e2⟩ := List.cons.inj e
    have e3 : p.1 = x.1 := congrArg Prod.fst e1
    have hp : (p.1 == lv) = true := by rw [e3, hb x List.mem_cons_self, beq_self_eq_true]
    obtain ⟨i1, i2⟩ := tw_map3 lv G bt rest e2 (fun y hy => hb y (List.mem_cons_of_mem _ hy)) h
    rw [List.takeWhile_cons, List.dropWhile_cons, hp, if_pos rfl, if_pos rfl]
    refine ⟨?_, i2⟩
    show gk3 p :: _ = x :: _
    rw [e1, i1]
def FitOk (rs : List Rw) (ws : List Wt) : Prop := ∀ as : List Addr, as.length = rs.length → (grow (rasOf rs as)).map gk3 = ws ∧ ∀ p ∈ grow (rasOf rs as), FOk p.2
theorem FitOk.inner {rs : List Rw} {bt rest : List Wt} {y : Rw} (h : FitOk rs (bt ++ rest)) (hb : ∀ x ∈ bt, x.1 = y.1 + 1) (hr : ∀ x, rest.head? = some x → x.1 ≠ y.1 + 1) (hl : leafB y.2 = false) (hw : y.2.wid = sumZ (bt.map fun x => x.2.1)) (hf : y.2.lead = leadOf (fsB (-1) bt)) :
    FitOk (y :: rs) ((y.1, y.2.wid, fsB (-1) bt) :: rest) := fun as la => by
  cases as with
  | nil => cases la
  | cons a as =>
    obtain ⟨e, w⟩ := h as (by simpa using la)
    obtain ⟨e1, e2⟩ := tw_map3 (y.1 + 1) _ bt rest e hb hr
    rw [grow_ras]
    have f1 : fsL (-1) (((grow (rasOf rs as)).takeWhile fun p => p.1 == y.1 + 1).map Prod.snd) = fsB (-1) bt := by rw [fs_gk, e1]
    refine ⟨?_, fun p hp => ?_⟩
    · show (y.1, y.2.wid, fsT (.mk a y.2 _)) :: _ = _ :: _
      rw [e2]
      show (y.1, y.2.wid, if leafB y.2 = true then y.2.lead else fsL (-1) _) :: _ = _
      rw [if_neg (by rw [hl]; decide), f1]
    · rcases List.mem_cons.mp hp with rfl | hp
      · refine ⟨fun _ => ⟨?_, ?_⟩, fun z => (by rw [hl] at z; cases z), FOks.of fun t ht => ?_⟩
        · rw [hw, sum_gk3, e1]
        · rw [hf, f1]
        · obtain ⟨p, hp, rfl⟩ := List.mem_map.mp ht
          exact w p (mem_takeW hp).2
      · exact w p (mem_dropW hp)
theorem FitOk.leaf {rs : List Rw} {ws : List Wt} {y : Rw} (h : FitOk rs ws) (hr : ∀ x, rs.head? = some x → x.1 ≤ y.1) (hl : leafB y.2 = true) (hw : 0 ≤ y.2.wid) : FitOk (y :: rs) ((y.1, y.2.wid, y.2.lead) :: ws) := fun as la => by
  cases as with
  | nil => cases la
  | cons a as =>
    obtain ⟨e, w⟩ := h as (by simpa using la)
    have hh : ∀ x, ws.head? = some x → x.1 ≠ y.1 + 1 := fun x hx => by
      cases ws with
      | nil => cases hx
      | cons z ws =>
        obtain rfl : z = x := Option.some.inj hx
        cases rs with
        | nil =>
          have e : ([] : List Lt).map gk3 = _ := e
          cases e
        | cons r rs =>
          cases as with
          | nil => have la : 1 = rs.length + 1 + 1 := la; omega
          | cons b bs =>
            rw [grow_ras] at e
            have e : gk3 _ :: _ = z :: _ := e
            have e3 : r.1 = z.1 := congrArg Prod.fst (List.cons.inj e).1
            have := hr r rfl
            omega
    obtain ⟨e1, e2⟩ := tw_map3 (y.1 + 1) _ [] ws e (fun x hx => absurd hx List.not_mem_nil) hh
    have n1 : ((grow (rasOf rs as)).takeWhile fun p => p.1 == y.1 + 1) = [] := List.map_eq_nil_iff.mp e1
    rw [grow_ras, n1]
    refine ⟨?_, fun p hp => ?_⟩
    · show (y.1, y.2.wid, fsT (.mk a y.2 [])) :: _ = _ :: _
      rw [e2]
      show (y.1, y.2.wid, if leafB y.2 = true then y.2.lead else fsL (-1) _) :: _ = _
      rw [if_pos hl]
    · rcases List.mem_cons.mp hp with rfl | hp
      · exact ⟨fun z => (by rw [hl] at z; cases z), fun _ => ⟨rfl, hw⟩, True.intro⟩
      · exact w p (mem_dropW hp)
theorem fit_fok {t : Tr} {rs : List Rw} {as : List Addr} {ws : List Wt} (h : FitOk rs ws) (hl : as.length = rs.length) (hr : t.ras 0 = rasOf rs as) : FOk t := by
  have e := grow_of t 0 [] (fun p hp => by cases hp)
  rw [List.append_nil, hr] at e
  exact (h as hl).2 (0, t) (by rw [e]; exact List.mem_cons_self)

/-! ### _law_fitted -/
def WtAt (H : Hp) (v : V) (x : Wt) : Prop := ∃ g, v = .ref g ∧ H g = some (.tup [.int x.1, .int x.2.1, .int x.2.2])
theorem WtAt.tups {H H' : Hp} (t : Tups H H') {v : V} {x : Wt} (h : WtAt H v x) : WtAt H' v x := by
  obtain ⟨g, e, k⟩ := h
  exact ⟨g, e, t _ _ k⟩
/-- the state behind i rows, from the right -/
structure FitSt (rows : List Rw) (H0 : Hp) (F wl : Addr) (i : Nat) (rs : List Rw) (ws : List Wt) (H' : Hp) : Prop where
  same : Same H0 H'
  fit : ∃ us, H' F = some (.lst us) ∧ Paired (RwAt H') us (rows.take (rows.length - i) ++ rs)
  fr : Paired FitE (rows.drop (rows.length - i)) rs
  wt : ∃ vs : List V, H' wl = some (.lst vs.reverse) ∧ Paired (WtAt H') vs ws
  ok : FitOk rs ws
  len : ws.length ≤ i
/-- leaves stand alone, with a width -/
def Alone (rows : List Rw) : Prop := ∀ (k : Nat) (x : Rw), rows[k]? = some x → leafB x.2 = true → 0 ≤ x.2.wid ∧ ∀ y, rows[k + 1]? = some y → y.1 ≤ x.1
def spFitted : Sp := fun vs H Q _ => ∃ (l : Addr) (us : List V) (rows : List Rw), vs = [.ref l] ∧ H l = some (.lst us) ∧ Paired (RwAt H) us rows ∧ Alone rows ∧ rows.length ≤ 5000 ∧
  ∀ F us' rs H', H' F = some (.lst us') → Paired (RwAt H') us' rs → Paired FitE rows rs → (∃ ws, FitOk rs ws) → H F = none → Same H H' → Q (.ref F) H'
theorem ok_fitted (T : Txt K mg) : FnOk P w K mg base CX0 2 T.a_law_fitted T.fd_law_fitted ["rows"] spFitted := by
  have G_law_is_leaf : FnOk P w K mg base CX0 1 T.a_law_is_leaf T.fd_law_is_leaf ["row"] (spRowB K) := ok_is_leafL T
  refine T.F_law_fitted.ok sc_law_fitted (fun vs H Q E h => ?_) (fun cdv A outer s H vs Q E hr h => ?_)
  · obtain ⟨l, us, rows, rfl, _⟩ := h
    rfl
  · have hr_law_is_leaf : Room 1 _ := hr
    obtain ⟨l, us, rows, rfl, hl, hu, hF, ln, q⟩ := h
    refine ⟨_, (pss_cons (ps_set (i := 1) sc_law_fitted.nd rfl (.inl rfl) (pe_callTy call_list_of (by rfl) T.m_list (by decide +kernel) (pa_cons (pv 0) pa_nil)))
      (pss_cons (ps_set (i := 2) sc_law_fitted.nd rfl (.inl rfl) (pe_lst pa_nil))
      (pss_cons (ps_for PassesOwn.never rfl (pi_range3 (by rfl) T.m_range (pa_cons (pe_op op_sub (pe_callB call_len_seq (by rfl) T.m_len PySem.boot_len (pa_cons (pv 0) pa_nil)) pe_int) (pa_cons (pe_un un_neg pe_int) (pa_cons (pe_un un_neg pe_int) pa_nil)))) (pg_name (i := 3) sc_law_fitted.nd rfl (.inl rfl)) (pss_cons (ps_set (i := 4) sc_law_fitted.nd rfl (.inl rfl) (pe_ix ix_list (pv 0) (pv 3) (fun _ _ => rfl)))
      (pss_cons (ps_set (i := 5) sc_law_fitted.nd rfl (.inl rfl) (pe_ix ix_tup (pv 4) pe_int (fun _ _ => rfl)))
      (pss_cons (ps_set (i := 6) sc_law_fitted.nd rfl (.inl rfl) (pe_ix ix_tup (pv 4) pe_int (fun _ _ => rfl)))
      (C8.pss_cut (ps_if (pt_not (pt_val (pe_call G_law_is_leaf hr_law_is_leaf (by rfl) T.g_law_is_leaf T.F_law_is_leaf.kp T.b_law_is_leaf .nil pass0 (pa_cons (pv 4) pa_nil)))) (pss_cons (ps_set (i := 5) sc_law_fitted.nd rfl (.inl rfl) pe_int)
      (pss_cons (ps_set (i := 6) sc_law_fitted.nd rfl (.inl rfl) (pe_un un_neg pe_int))
      (pss_cons (ps_while PassesOwn.never (PW.pt (pw_and (pt_truth (pv 2) (by intro _; rfl)) (pw_and1 (pt_cmpR op_eq (pe_ix ix_tup (pe_ix ix_list (pv 2) (pe_op op_sub (pe_callB call_len_seq (by rfl) T.m_len PySem.boot_len (pa_cons (pv 2) pa_nil)) pe_int) (fun _ _ => rfl)) pe_int (fun _ _ => rfl)) (pe_op op_add (pe_ix ix_tup (pv 4) pe_int (fun _ _ => rfl)) pe_int) (nomark _))))) (pss_cons (ps_set (i := 7) sc_law_fitted.nd rfl (.inl rfl) (pe_bm0 PySem.F.plainAttrs_list PySem.F.slot_list_pop PySem.F.type_list_pop mt_pop (pv 2)))
      (pss_cons (ps_set (i := 5) sc_law_fitted.nd rfl (.inl rfl) (pe_op op_add (pv 5) (pe_ix ix_tup (pv 7) pe_int (fun _ _ => rfl))))
      (pss_one (ps_if (pt_cmpR op_lt (pv 6) pe_int (nomark _)) (pss_one (ps_set (i := 6) sc_law_fitted.nd rfl (.inl rfl) (pe_ix ix_tup (pv 7) pe_int (fun _ _ => rfl)))) pss_nil)))))
      (pss_one (ps_asg (pe_op op_catT (pe_op op_catT (pe_slice sl_tup (pv 4) po_none (po_some pe_int)) (pe_tup (pa_cons (pe_callB (call_max2 rfl) (by rfl) T.m_max (by decide +kernel) (pa_cons (pv 6) (pa_cons pe_int pa_nil))) (pa_cons (pv 5) pa_nil)))) (pe_slice sl_tup (pv 4) (po_some pe_int) po_none)) (pg_sub (pv 1) (pv 3) set_list)))))) pss_nil)
      (pss_one (ps_expr (pe_bm PySem.F.plainAttrs_list PySem.F.slot_list_append PySem.F.type_list_append mt_append (pv 2) (pa_cons (pe_tup (pa_cons (pe_ix ix_tup (pv 4) pe_int (fun _ _ => rfl)) (pa_cons (pv 5) (pa_cons (pv 6) pa_nil)))) pa_nil)))))))))
      (pss_one (ps_ret (pv 1)))))), ?_⟩
    have lus := paired_len hu
    refine ⟨_, rfl, l, _, rfl, .inl (SqL.of hl), fun F nF => ?_⟩
    have s1 := same_upd (o := .lst us) nF
    refine ⟨by show 0 ≤ sizeLine; decide, fun wl nw => ?_⟩
    have s2 := same_upd (o := .lst []) nw
    have hFw : F ≠ wl := ne_of_none (show (upd H F (.lst us)) F = some (.lst us) from upd_same) nw
    have nw0 : H wl = none := s1.free nw
    have s02 := s1.trans s2
    refine ⟨_, rfl, l, us, rfl, .inl (SqL.of (s02 _ _ hl)), ?_⟩
    rw [lus]
    refine ⟨_, _, rfl, rfl, 1, rfl, 1, rfl, _, _, _, rows.length, rfl, rg_down (by omega), ?_⟩
    have tp : ∀ {H H' : Hp}, Same H H' → Tups H H' := fun s c xs e => s _ _ e
    refine for_it (walk_rangeC (lo := ((rows.length : Nat) : Int) - 1) (c := -1) (n := rows.length)) (fun i σ H' => i ≤ rows.length ∧ ∃ (rs : List Rw) (ws : List Wt) (y3 y4 y5 y6 y7 : Option V), σ = [some (.ref l), some (.ref F), some (.ref wl), y3, y4, y5, y6, y7] ∧ FitSt rows H F wl i rs ws H')
      ⟨Nat.zero_le _, [], [], none, none, none, none, none, rfl, s02, ⟨us, s2 _ _ upd_same, by rw [Nat.sub_zero, List.take_length, List.append_nil]; exact Paired.mapP hu fun _ _ h => h.tups (tp s02)⟩, by rw [Nat.sub_zero, List.drop_length]; exact .nil, ⟨[], upd_same, .nil⟩, fun as la => ⟨by rw [show as = [] from List.length_eq_zero_iff.mp la]; rfl, fun p hp => by rw [show as = [] from List.length_eq_zero_iff.mp la] at hp; cases hp⟩, Nat.le_refl _⟩ (fun _ _ _ _ _ => True.intro) ?_ ?_
    · rintro i x σ H1 H2 hi ⟨_, rs, ws, y3, y4, y5, y6, y7, rfl, S⟩ ⟨rfl, hxe⟩
      obtain ⟨k, hk⟩ : ∃ k, k = rows.length - 1 - i := ⟨_, rfl⟩
      have ek : ((rows.length : Nat) : Int) - 1 + ((i : Nat) : Int) * -1 = (k : Int) := by omega
      have kn : k < rows.length := by omega
      obtain ⟨rk, hrk⟩ : ∃ r, rows[k]? = some r := ⟨_, List.getElem?_eq_getElem kn⟩
      obtain ⟨x', hx', g, rfl, hg0⟩ := paired_get hu hrk
      have hl2 := S.same _ _ hl
      have hg2 := S.same _ _ hg0
      obtain ⟨lk, dk⟩ := rk
      obtain rfl : x = V.int (k : Int) := hxe.trans (congrArg V.int ek)
      have at_ : ∀ (n : Nat) (v : V), (rwV (lk, dk))[n]? = some v → atI (rwV (lk, dk)) (n : Int) = some v := fun n v h => atI_nat h
      refine ⟨_, rfl, _, rfl, l, us, _, _, rfl, rfl, SqL.of hl2, atI_nat hx', ?_⟩
      refine ⟨_, rfl, g, _, 5, _, rfl, rfl, SqT.of hg2, at_ 5 _ rfl, ?_⟩
      refine ⟨_, rfl, g, _, 4, _, rfl, rfl, SqT.of hg2, at_ 4 _ rfl, ?_⟩
      have fit := hF k _ hrk
      have edrop : rows.drop (rows.length - (i + 1)) = (lk, dk) :: rows.drop (rows.length - i) := by
        rw [show rows.length - (i + 1) = k by omega, show rows.length - i = k + 1 by omega]
        exact drop_at hrk
      have etake : rows.take (rows.length - i) = rows.take k ++ [(lk, dk)] := by
        rw [show rows.length - i = k + 1 by omega]
        exact takeN hrk
      refine ⟨fun σ H' => ∃ (y : Rw) (ws' : List Wt) (vs' : List V) (f : Int) (y7 : Option V), σ = [some (.ref l), some (.ref F), some (.ref wl), some (.int (k : Int)), some (.ref g), some (.int y.2.wid), some (.int f), y7] ∧ Same H H' ∧ (∃ us, H' F = some (.lst us) ∧ Paired (RwAt H') us (rows.take k ++ y :: rs)) ∧ FitE (lk, dk) y ∧
          H' wl = some (.lst vs'.reverse) ∧ Paired (WtAt H') vs' ws' ∧ FitOk (y :: rs) ((y.1, y.2.wid, f) :: ws') ∧ ws'.length ≤ i, ?_, ?_⟩
      · obtain ⟨us2, hF2, hp2⟩ := S.fit
        obtain ⟨vs2, hw2, hv2⟩ := S.wt
        refine ⟨_, rfl, g, lk, dk, rfl, SqT.of hg2, ?_⟩
        refine ⟨_, rfl, ?_⟩
        cases hb : leafB dk with
        | true =>
          refine iteF ⟨(lk, dk), ws, vs2, dk.lead, _, rfl, S.same, ⟨us2, hF2, ?_⟩, ⟨rfl, fun _ => rfl, dk.lead, dk.wid, rfl⟩, hw2, hv2, S.ok.leaf (y := (lk, dk)) (fun z hz => ?_) hb (fit hb).1, S.len⟩
          · rw [etake, List.append_assoc] at hp2
            exact hp2
          · have e1 : rows.length - i = k + 1 := by omega
            have fr := S.fr
            rw [e1] at fr
            cases rs with
            | nil => cases hz
            | cons z2 rs =>
              obtain rfl : z2 = z := Option.some.inj hz
              cases hd : rows.drop (k + 1) with
              | nil =>
                rw [hd] at fr
                cases fr
              | cons r2 rest =>
                rw [hd] at fr
                cases fr with
                | cons h _ =>
                  rw [h.1]
                  have e2 : rows[k + 1]? = some r2 := by
                    have := congrArg List.head? hd
                    rw [List.head?_drop] at this
                    exact this
                  exact (fit hb).2 r2 e2
        | false =>
          refine iteT ⟨1, rfl, ?_⟩
          refine while_nat (m0 := ws.length) (fun mm σ H' => ∃ (bt rest : List Wt) (vs3 : List V) (y7 : Option V), σ = [some (.ref l), some (.ref F), some (.ref wl), some (.int (k : Int)), some (.ref g), some (.int (sumZ (bt.map fun x => x.2.1))), some (.int (fsB (-1) bt)), y7] ∧ mm = rest.length ∧ ws = bt ++ rest ∧ (∀ x ∈ bt, x.1 = lk + 1) ∧
              Same H H' ∧ Tups H2 H' ∧ H' F = some (.lst us2) ∧ H' wl = some (.lst vs3.reverse) ∧ Paired (WtAt H') vs3 rest)
            (fun σ H' => ∃ (bt rest : List Wt) (vs3 : List V) (y7 : Option V), σ = [some (.ref l), some (.ref F), some (.ref wl), some (.int (k : Int)), some (.ref g), some (.int (sumZ (bt.map fun x => x.2.1))), some (.int (fsB (-1) bt)), y7] ∧ ws = bt ++ rest ∧ (∀ x ∈ bt, x.1 = lk + 1) ∧ (∀ x, rest.head? = some x → x.1 ≠ lk + 1) ∧
              Same H H' ∧ Tups H2 H' ∧ H' F = some (.lst us2) ∧ H' wl = some (.lst vs3.reverse) ∧ Paired (WtAt H') vs3 rest)
            ⟨[], ws, vs2, _, rfl, rfl, rfl, fun x hx => absurd hx List.not_mem_nil, S.same, Tups.refl _, hF2, hw2, hv2⟩ ?_ ?_
          · rintro mm σ H3 ⟨bt, rest, vs3, y7, rfl, rfl, ew, hbt, sm3, t3, hF3, hw3, hv3⟩
            have hg3 := sm3 _ _ hg0
            have lv3 := paired_len hv3
            have lw : bt.length + rest.length = ws.length := by rw [ew, List.length_append]
            have lws := S.len
            cases hv3 with
            | nil => exact ⟨false, fun Q hQ => ⟨_, rfl, false, .inl ⟨_, SqL.of hw3, rfl⟩, iteF hQ⟩, fun c => (by cases c), fun _ => ⟨bt, [], [], _, rfl, ew, hbt, fun x hx => (by cases hx), sm3, t3, hF3, hw3, .nil⟩⟩
            | @cons v x vs4 rest' hv hv4 =>
              obtain ⟨gp, rfl, hgp⟩ := id hv
              have wl4 : (V.ref gp :: vs4).reverse.length = vs4.length + 1 := by rw [List.length_reverse, List.length_cons]
              have wrev : (V.ref gp :: vs4).reverse = vs4.reverse ++ [V.ref gp] := List.reverse_cons
              have wlast : atI (V.ref gp :: vs4).reverse ((vs4.length + 1 : Nat) - 1 : Int) = some (.ref gp) := by
                rw [show ((vs4.length + 1 : Nat) : Int) - 1 = (vs4.length : Int) by omega]
                refine atI_nat ?_
                rw [wrev, List.getElem?_append_right (by rw [List.length_reverse]; exact Nat.le_refl _), List.length_reverse, Nat.sub_self]
                rfl
              refine ⟨decide (x.1 = lk + 1), fun Q hQ => ?_, fun c => ?_, fun c => ?_⟩
              · refine ⟨_, rfl, true, .inl ⟨_, SqL.of hw3, ?_⟩, iteT ?_⟩
                · rw [wrev]
                  simp
                refine ⟨_, rfl, _, rfl, wl, _, rfl, .inl (SqL.of hw3), ?_⟩
                rw [wl4]
                refine ⟨_, _, rfl, rfl, wl, _, _, _, rfl, rfl, SqL.of hw3, wlast, gp, _, 0, .int x.1, rfl, rfl, SqT.of hgp, rfl, ?_⟩
                refine ⟨_, rfl, g, _, 0, .int lk, rfl, rfl, SqT.of hg3, rfl, _, _, rfl, rfl, rfl, _, rfl, ?_⟩
                rw [decI]
                exact hQ
              · have c := of_decide_eq_true c
                rw [wrev] at hw3
                have gl : (vs4.reverse ++ [V.ref gp])[(vs4.reverse ++ [V.ref gp]).length - 1]? = some (V.ref gp) := by
                  rw [List.length_append, List.length_singleton, Nat.add_sub_cancel, List.getElem?_append_right (Nat.le_refl _), Nat.sub_self]
                  rfl
                refine ⟨_, rfl, .inl ⟨rfl, _, SqL.of hw3⟩, wl, _, .ref gp, rfl, rfl, hw3, gl, ?_⟩
                rw [List.dropLast_concat]
                have tm := Tups.mut (o := .lst vs4.reverse) hw3
                have hgp4 := tm _ _ hgp
                have hF4 : (upd H3 wl (.lst vs4.reverse)) F = some (.lst us2) := by rw [upd_ne hFw]; exact hF3
                have e1 : sumZ (bt.map fun x => x.2.1) + x.2.1 = sumZ ((bt ++ [x]).map fun x => x.2.1) := by
                  rw [List.map_append, sumZ_app]
                  show _ = _ + (x.2.1 + 0)
                  rw [Int.add_zero]
                refine ⟨_, rfl, _, rfl, gp, _, 1, _, rfl, rfl, SqT.of hgp4, rfl, _, _, rfl, rfl, ?_⟩
                have e2 : fsB (-1) (bt ++ [x]) = if fsB (-1) bt < 0 then x.2.2 else fsB (-1) bt := by
                  unfold fsB
                  rw [List.foldl_append]
                  rfl
                have fin : ∀ f' : Int, f' = fsB (-1) (bt ++ [x]) → ∃ m', m' < rest'.length + 1 ∧ ∃ (bt2 rest2 : List Wt) (vs5 : List V) (y9 : Option V), [some (V.ref l), some (.ref F), some (.ref wl), some (.int (k : Int)), some (.ref g), some (.int (sumZ (bt.map fun x => x.2.1) + x.2.1)), some (.int f'), some (.ref gp)] = [some (V.ref l), some (.ref F), some (.ref wl), some (.int (k : Int)), some (.ref g), some (.int (sumZ (bt2.map fun x => x.2.1))), some (.int (fsB (-1) bt2)), y9] ∧ m' = rest2.length ∧ ws = bt2 ++ rest2 ∧ (∀ x ∈ bt2, x.1 = lk + 1) ∧
                    Same H (upd H3 wl (.lst vs4.reverse)) ∧ Tups H2 (upd H3 wl (.lst vs4.reverse)) ∧ (upd H3 wl (.lst vs4.reverse)) F = some (.lst us2) ∧ (upd H3 wl (.lst vs4.reverse)) wl = some (.lst vs5.reverse) ∧ Paired (WtAt (upd H3 wl (.lst vs4.reverse))) vs5 rest2 := fun f' ef => by
                  refine ⟨rest'.length, Nat.lt_succ_self _, bt ++ [x], rest', vs4, _, by rw [e1, ef], rfl, by rw [ew, List.append_assoc]; rfl, fun p hp => ?_, same_mut sm3 nw0, t3.trans tm, hF4, upd_same, Paired.mapP hv4 fun _ _ h => h.tups tm⟩
                  rcases List.mem_append.mp hp with h | h
                  · exact hbt p h
                  · rw [List.mem_singleton.mp h]
                    exact c
                refine ⟨_, rfl, _, _, rfl, rfl, _, rfl, ite2 (fun hc => ?_) (fun hc => ?_)⟩
                · exact ⟨_, rfl, gp, _, 2, _, rfl, rfl, SqT.of hgp4, rfl, fin _ (by rw [e2, if_pos (of_decide_eq_true hc)])⟩
                · exact fin _ (by rw [e2, if_neg (fun z => hc (decide_eq_true z))])
              · exact ⟨bt, x :: rest', V.ref gp :: vs4, _, rfl, ew, hbt, fun z hz => by obtain rfl : x = z := Option.some.inj hz; exact of_decide_eq_false c, sm3, t3, hF3, hw3, .cons hv hv4⟩
          · rintro σ H3 ⟨bt, rest, vs3, y7, rfl, ew, hbt, hrest, sm3, t3, hF3, hw3, hv3⟩
            have hg3 := sm3 _ _ hg0
            have lw : bt.length + rest.length = ws.length := by rw [ew, List.length_append]
            have lws := S.len
            have sz : ∀ {n : Nat}, n ≤ 9 → n ≤ sizeLine := fun h => Nat.le_trans h (by decide)
            obtain ⟨f, hf⟩ : ∃ f, f = fsB (-1) bt := ⟨_, rfl⟩
            rw [← hf]
            refine ⟨_, rfl, _, rfl, g, _, rfl, SqT.of hg3, (by show ¬ (HT.sIx 9 0 none = 0 ∧ HT.sIx 9 9 (some 4) = 9); decide), fun p1 np1 => ?_⟩
            have t1 := same_upd (o := .tup (cutV (rwV (lk, dk)) none (some 4))) np1
            have hp1 : (upd H3 p1 (.tup (cutV (rwV (lk, dk)) none (some 4)))) p1 = some (.tup (cutV (rwV (lk, dk)) none (some 4))) := upd_same
            refine ⟨_, rfl, _, _, rfl, _, rfl, sz (by show 2 ≤ 9; decide), fun p2 np2 => ?_⟩
            have t2 := t1.trans (same_upd (o := .tup [.int (if 0 > f then 0 else f), .int (sumZ (bt.map fun x => x.2.1))]) np2)
            refine ⟨p1, p2, _, _, rfl, rfl, SqT.of ((same_upd np2) _ _ hp1), SqT.of upd_same, fun z => (by cases z), sz (by show 4 + 2 ≤ 9; decide), fun z => (by cases z), fun _ p3 np3 => ?_⟩
            have t3a := t2.trans (same_upd (o := .tup (cutV (rwV (lk, dk)) none (some 4) ++ [.int (if 0 > f then 0 else f), .int (sumZ (bt.map fun x => x.2.1))])) np3)
            refine ⟨_, rfl, _, rfl, g, _, rfl, SqT.of (t3a _ _ hg3), (by show ¬ (HT.sIx 9 0 (some 6) = 0 ∧ HT.sIx 9 9 none = 9); decide), fun p4 np4 => ?_⟩
            have t4 := same_upd (o := .tup (cutV (rwV (lk, dk)) (some 6) none)) np4
            refine ⟨p3, p4, _, _, rfl, rfl, SqT.of (t4 _ _ upd_same), SqT.of upd_same, fun z => (by cases z), sz (by show 6 + 3 ≤ 9; decide), fun z => (by cases z), fun _ p7 np7 => ?_⟩
            obtain ⟨y, hy⟩ : ∃ y : Rw, y = (lk, dk.refit (leadOf f) (sumZ (bt.map fun x => x.2.1))) := ⟨_, rfl⟩
            have ey : (cutV (rwV (lk, dk)) none (some 4) ++ [V.int (if 0 > f then 0 else f), .int (sumZ (bt.map fun x => x.2.1))]) ++ cutV (rwV (lk, dk)) (some 6) none = rwV y := by
              rw [hy]
              rfl
            rw [ey]
            have t7 := (t3a.trans t4).trans (same_upd (o := .tup (rwV y)) np7)
            obtain ⟨H4, hH4⟩ : ∃ H4, H4 = upd (upd (upd (upd (upd H3 p1 (.tup (cutV (rwV (lk, dk)) none (some 4)))) p2 (.tup [.int (if 0 > f then 0 else f), .int (sumZ (bt.map fun x => x.2.1))])) p3 (.tup (cutV (rwV (lk, dk)) none (some 4) ++ [.int (if 0 > f then 0 else f), .int (sumZ (bt.map fun x => x.2.1))]))) p4 (.tup (cutV (rwV (lk, dk)) (some 6) none))) p7 (.tup (rwV y)) := ⟨_, rfl⟩
            have hp7 : H4 p7 = some (.tup (rwV y)) := by rw [hH4]; exact upd_same
            have t34 : Same H3 H4 := by rw [hH4]; exact t7
            rw [← hH4]
            have hF4 := t34 _ _ hF3
            have nF0 : H F = none := nF
            have lp := paired_len hp2
            have lu2 : us2.length = rows.length - i + rs.length := by
              rw [lp, List.length_append, List.length_take]
              omega
            have ixF : ixN us2.length (k : Int) = some k := by
              unfold ixN
              rw [if_pos (by omega), if_pos (by omega)]
              rfl
            refine ⟨_, rfl, _, rfl, F, us2, _, k, rfl, rfl, hF4, ixF, ?_⟩
            have tmF := Tups.mut (o := .lst (us2.set k (.ref p7))) hF4
            have t24 : Tups H2 (upd H4 F (.lst (us2.set k (.ref p7)))) := (t3.trans (tp t34)).trans tmF
            have yl : leafB y.2 = false := by
              rw [hy]
              exact hb
            refine ⟨y, rest, vs3, f, _, by rw [hy]; rfl, same_mut (sm3.trans t34) nF0, ⟨_, upd_same, ?_⟩, ⟨by rw [hy], fun e => (by rw [show (lk, dk).2 = dk from rfl, hb] at e; cases e), leadOf f, _, by rw [hy]⟩, ?_, Paired.mapP hv3 fun _ _ h => h.tups ((tp t34).trans tmF), ?_, by omega⟩
            · have hp3 : Paired (RwAt (upd H4 F (.lst (us2.set k (.ref p7))))) us2 (rows.take k ++ (lk, dk) :: rs) := by
                rw [etake, List.append_assoc] at hp2
                exact Paired.mapP hp2 fun _ _ h => h.tups t24
              have hs : ∀ {us : List V} {a : List Rw} {r0 y : Rw} {c : List Rw} {v : V} {Hh : Hp}, Paired (RwAt Hh) us (a ++ r0 :: c) → RwAt Hh v y → Paired (RwAt Hh) (us.set a.length v) (a ++ y :: c) := fun {us a} => by
                intro r0 y c v Hh
                induction a generalizing us with
                | nil =>
                  intro h hv
                  cases h with
                  | cons _ t => exact .cons hv t
                | cons a0 a ih =>
                  intro h hv
                  cases h with
                  | cons h1 t => exact .cons h1 (ih t hv)
              have := hs (v := .ref p7) (y := y) hp3 ⟨p7, rfl, tmF _ _ hp7⟩
              rw [List.length_take, Nat.min_eq_left (by omega)] at this
              exact this
            · rw [upd_ne hFw.symm]
              exact t34 _ _ hw3
            · rw [ew] at S
              rw [hf]
              refine (S.ok.inner (y := y) (fun x hx => ?_) (fun x hx => ?_) yl (by rw [hy]; rfl) (by rw [hy, hf]; rfl))
              · rw [hbt x hx, hy]
              · rw [hy]
                exact hrest x hx
      · rintro σ H3 ⟨y, ws2, vs2, f, y7, rfl, sm3, ⟨us2, hF2, hp2⟩, fy, hw3, hv3, ok3, l3⟩
        have hg3 := sm3 _ _ hg0
        have lv3 := paired_len hv3
        refine ⟨_, rfl, .inl ⟨rfl, _, SqL.of hw3⟩, _, rfl, g, _, 0, _, rfl, rfl, SqT.of hg3, rfl, _, rfl, _, rfl, by show 3 ≤ sizeLine; decide, fun t nt => ?_⟩
        have s4 := same_upd (o := .tup [.int lk, .int y.2.wid, .int f]) nt
        have hw4 := s4 _ _ hw3
        refine ⟨wl, _, _, rfl, rfl, hw4, sz2 (by rw [List.length_reverse]; omega), ?_⟩
        have tm := (tp s4).trans (Tups.mut (o := .lst (vs2.reverse ++ [.ref t])) hw4)
        refine ⟨by omega, y :: rs, (y.1, y.2.wid, f) :: ws2, _, _, _, _, _, rfl, same_mut (sm3.trans s4) nw0, ⟨us2, ?_, ?_⟩, ?_, ⟨.ref t :: vs2, ?_, ?_⟩, ok3, ?_⟩
        · rw [upd_ne hFw]
          exact s4 _ _ hF2
        · rw [show rows.length - (i + 1) = k by omega]
          exact Paired.mapP hp2 fun _ _ h => h.tups tm
        · rw [edrop]
          exact .cons fy S.fr
        · rw [upd_same, List.reverse_cons]
        · refine .cons ⟨t, rfl, ?_⟩ (Paired.mapP hv3 fun _ _ h => h.tups tm)
          have e : (upd (upd H3 t (.tup [.int lk, .int y.2.wid, .int f])) wl (.lst (vs2.reverse ++ [.ref t]))) t = some (.tup [.int lk, .int y.2.wid, .int f]) := Tups.mut hw4 _ _ upd_same
          rw [e, fy.1]
        · rw [List.length_cons]
          omega
    · rintro σ H1 ⟨_, rs, ws, y3, y4, y5, y6, y7, rfl, S⟩
      obtain ⟨us2, hF2, hp2⟩ := S.fit
      have fr := S.fr
      rw [Nat.sub_self, List.take_zero, List.nil_append] at hp2
      rw [Nat.sub_self, List.drop_zero] at fr
      exact ⟨_, rfl, q F us2 rs H1 hF2 hp2 fr ⟨ws, S.ok⟩ nF S.same⟩

/-! ### trees of the same form -/
mutual
def LikeT (R : Nd → Nd → Prop) : Tr → Tr → Prop
  | .mk _ d ks, .mk _ d' ks' => R d d' ∧ LikeTs R ks ks'
def LikeTs (R : Nd → Nd → Prop) : List Tr → List Tr → Prop
  | [], [] => True
  | t :: ts, t' :: ts' => LikeT R t t' ∧ LikeTs R ts ts'
  | _, _ => False
end
theorem LikeTs.len {R : Nd → Nd → Prop} : ∀ {ts ts' : List Tr}, LikeTs R ts ts' → ts'.length = ts.length
  | [], [], _ => rfl
  | _ :: _, _ :: _, h => congrArg (· + 1) (LikeTs.len h.2)
def relR (R : Nd → Nd → Prop) (x y : Ra) : Prop := y.1 = x.1 ∧ R x.2.1 y.2.1
theorem paired_split {α β : Type} {F : α → β → Prop} : ∀ {xs ys : List α} {zs : List β}, Paired F (xs ++ ys) zs → ∃ as bs, zs = as ++ bs ∧ Paired F xs as ∧ Paired F ys bs
  | [], _, zs, h => ⟨[], zs, rfl, .nil, h⟩
  | _ :: _, _, _, .cons a b => by
    obtain ⟨as, bs, rfl, h1, h2⟩ := paired_split b
    exact ⟨_ :: as, bs, rfl, .cons a h1, h2⟩
mutual
/-- rows of the same levels make a tree of the same form -/
theorem relab {R : Nd → Nd → Prop} : ∀ {t : Tr} {l : Int} {rs : List Ra}, Paired (relR R) (t.ras l) rs → ∃ t', t'.ras l = rs ∧ LikeT R t t'
  | .mk p d ks, l, rs, h => by
    have h : Paired (relR R) ((l, d, p) :: rasL (l + 1) ks) rs := h
    cases h with
    | @cons _ y _ ys a b =>
      obtain ⟨ts', e, k⟩ := relabs b
      obtain ⟨y1, y2, y3⟩ := y
      obtain ⟨a1, a2⟩ := a
      have a1 : y1 = l := a1
      subst a1
      exact ⟨.mk y3 y2 ts', by rw [← e]; rfl, a2, k⟩
theorem relabs {R : Nd → Nd → Prop} : ∀ {ts : List Tr} {l : Int} {rs : List Ra}, Paired (relR R) (rasL l ts) rs → ∃ ts', rasL l ts' = rs ∧ LikeTs R ts ts'
  | [], l, rs, h => by
    cases h
    exact ⟨[], rfl, True.intro⟩
  | t :: ts, l, rs, h => by
    have h : Paired (relR R) (t.ras l ++ rasL l ts) rs := h
    obtain ⟨as, bs, rfl, h1, h2⟩ := paired_split h
    obtain ⟨t', e1, k1⟩ := relab h1
    obtain ⟨ts', e2, k2⟩ := relabs h2
    exact ⟨t' :: ts', by rw [← e1, ← e2]; rfl, k1, k2⟩
end
theorem ras_inj {t t' : Tr} {l : Int} (h : t.ras l = t'.ras l) : t = t' := by
  have e1 := grow_of t l [] (fun p hp => by cases hp)
  have e2 := grow_of t' l [] (fun p hp => by cases hp)
  rw [h] at e1
  have e := e1.symm.trans e2
  injection e with e _
  injection e
theorem like_of {R : Nd → Nd → Prop} {t t' : Tr} {l : Int} (h : Paired (relR R) (t.ras l) (t'.ras l)) : LikeT R t t' := by
  obtain ⟨t2, e, k⟩ := relab h
  rw [← ras_inj e]
  exact k
def AltEq (x y : Nd) : Prop := y.alt = x.alt
theorem labsOf_alt {al : List Way} {x y : Nd} {n : Nat} (h : AltEq x y) : labsOf al y n = labsOf al x n := by
  unfold labsOf
  rw [show y.alt = x.alt from h]
mutual
theorem like_alt {al : List Way} : ∀ {t t' : Tr}, LikeT AltEq t t' → AltOk al t → AltOk al t'
  | .mk _ d ks, .mk _ d' ks', h, k => by
    have e : d'.alt = d.alt := h.1
    refine ⟨fun z => ?_, likes_alt h.2 k.2⟩
    rw [e] at z ⊢
    obtain ⟨w, h1, h2⟩ := k.1 z
    exact ⟨w, h1, by rw [h2, h.2.len]⟩
theorem likes_alt {al : List Way} : ∀ {ts ts' : List Tr}, LikeTs AltEq ts ts' → AltsOk al ts → AltsOk al ts'
  | [], [], _, _ => True.intro
  | _ :: _, _ :: _, h, k => ⟨like_alt h.1 k.1, likes_alt h.2 k.2⟩
end
mutual
theorem like_labs {al : List Way} : ∀ {t t' : Tr} {l : Str}, LikeT AltEq t t' → labsT al t' l = labsT al t l
  | .mk _ d ks, .mk _ d' ks', l, h => by
    show l :: labsTs al ks' (labsOf al d' ks'.length) = l :: labsTs al ks (labsOf al d ks.length)
    rw [h.2.len, labsOf_alt h.1, likes_labs h.2]
theorem likes_labs {al : List Way} : ∀ {ts ts' : List Tr} {ls : List Str}, LikeTs AltEq ts ts' → labsTs al ts' ls = labsTs al ts ls
  | [], [], _, _ => rfl
  | t :: ts, t' :: ts', ls, h => by
    rw [labsTs_cons, labsTs_cons, like_labs h.1, likes_labs h.2]
end
mutual
/-- trees of the same form that both fit are the same but for their nodes -/
theorem like_fit : ∀ {t t' : Tr}, LikeT FitN t t' → FOk t → FOk t' → LikeT Eq t t' ∧ fsT t' = fsT t
  | .mk _ d ks, .mk _ d' ks', h, k, k' => by
    obtain ⟨e1, e2, e3⟩ := likes_fit h.2 k.2.2 k'.2.2
    have lf := h.1.leaf
    cases hb : leafB d with
    | true =>
      have e := h.1.1 hb
      refine ⟨⟨e.symm, e1⟩, ?_⟩
      show (if leafB d' = true then d'.lead else _) = if leafB d = true then d.lead else _
      rw [if_pos hb, if_pos (by rw [lf]; exact hb), e]
    | false =>
      obtain ⟨a1, a2⟩ := k.1 hb
      obtain ⟨b1, b2⟩ := k'.1 (by rw [lf]; exact hb)
      have e := h.1.same (by rw [a1, b1, e2]) (by rw [a2, b2, e3])
      refine ⟨⟨e.symm, e1⟩, ?_⟩
      show (if leafB d' = true then d'.lead else fsL (-1) ks') = if leafB d = true then d.lead else fsL (-1) ks
      rw [if_neg (by rw [lf, hb]; decide), if_neg (by rw [hb]; decide), e3]
theorem likes_fit : ∀ {ts ts' : List Tr}, LikeTs FitN ts ts' → FOks ts → FOks ts' → LikeTs Eq ts ts' ∧ sumZ (wids ts') = sumZ (wids ts) ∧ ∀ f, fsL f ts' = fsL f ts
  | [], [], _, _, _ => ⟨True.intro, rfl, fun _ => rfl⟩
  | t :: ts, t' :: ts', h, k, k' => by
    obtain ⟨e1, e2⟩ := like_fit h.1 k.1 k'.1
    obtain ⟨f1, f2, f3⟩ := likes_fit h.2 k.2 k'.2
    refine ⟨⟨e1, f1⟩, ?_, fun f => ?_⟩
    · have : t'.d = t.d := by
        cases t
        cases t'
        exact e1.1.symm
      show t'.d.wid + sumZ (wids ts') = t.d.wid + sumZ (wids ts)
      rw [this, f2]
    · rw [fsL_cons, fsL_cons, e2, f3]
end
mutual
theorem like_rows : ∀ {t t' : Tr} {l : Int}, LikeT Eq t t' → (t'.ras l).map (fun x => ((x.1, x.2.1) : Rw)) = (t.ras l).map fun x => (x.1, x.2.1)
  | .mk _ d ks, .mk _ d' ks', l, h => by
    show (l, d') :: (rasL (l + 1) ks').map _ = (l, d) :: (rasL (l + 1) ks).map _
    rw [likes_rows h.2, show d = d' from h.1]
theorem likes_rows : ∀ {ts ts' : List Tr} {l : Int}, LikeTs Eq ts ts' → (rasL l ts').map (fun x => ((x.1, x.2.1) : Rw)) = (rasL l ts).map fun x => (x.1, x.2.1)
  | [], [], _, _ => rfl
  | t :: ts, t' :: ts', l, h => by
    show (t'.ras l ++ rasL l ts').map _ = (t.ras l ++ rasL l ts).map _
    rw [List.map_append, List.map_append, like_rows h.1, likes_rows h.2]
end

/-! ### labels, ways, leaves -/
theorem leaf_of {d : Nd} (ha : d.alt = -1) (h1 : d.kind ≠ "error") (h2 : d.kind ≠ "root") : leafB d = true := by
  unfold leafB
  simp [ha, h1, h2]
theorem sg_one (c : Nat) : (sg c).length = 1 := rfl
def spLabel : Sp := fun vs H Q _ => ∃ r : Addr, vs = [.ref r] ∧ ReelAt H r ∧ ∀ (x : Str) H', x.length ≤ 100 → But r H H' → ReelAt H' r → Q (.str x) H'
theorem ok_label (T : Txt K mg) : FnOk P w K mg base CX0 3 T.a_law_label T.fd_law_label ["reel"] spLabel := by
  have G_law_draw : FnOk P w K mg base CX0 1 T.a_law_draw T.fd_law_draw ["reel", "size"] spDraw := ok_draw T
  have G_law_pick : FnOk P w K mg base CX0 2 T.a_law_pick T.fd_law_pick ["reel", "row"] (spPick K) := ok_pick T
  refine T.F_law_label.ok sc_law_label (fun vs H Q E h => ?_) (fun cdv A outer s H vs Q E hr h => ?_)
  · obtain ⟨r, rfl, _⟩ := h
    rfl
  · have hr_law_draw : Room 1 _ := hr.mono (by decide)
    have hr_law_pick : Room 2 _ := hr
    obtain ⟨r, rfl, hR, q⟩ := h
    refine ⟨_, (pss_cons (ps_if (pt_cmpR op_eq (pe_call G_law_draw hr_law_draw (by rfl) T.g_law_draw T.F_law_draw.kp T.b_law_draw .nil pass0 (pa_cons (pv 0) (pa_cons pe_int pa_nil))) pe_int (nomark _)) (pss_one (ps_ret pe_str)) pss_nil)
      (pss_one (ps_ret (pe_op op_add_str (pe_call G_law_pick hr_law_pick (by rfl) T.g_law_pick T.F_law_pick.kp T.b_law_pick .nil pass0 (pa_cons (pv 0) (pa_cons pe_str pa_nil))) (pe_call G_law_pick hr_law_pick (by rfl) T.g_law_pick T.F_law_pick.kp T.b_law_pick .nil pass0 (pa_cons (pv 0) (pa_cons (pe_lst (pa_cons pe_str (pa_cons pe_str (pa_cons pe_str (pa_cons pe_str (pa_cons pe_str (pa_cons pe_str pa_nil))))))) pa_nil))))))), ?_⟩
    refine ⟨_, rfl, r, 2, rfl, hR, by decide, fun v H1 v0 v1 b1 R1 => ⟨rfl, _, rfl, ite2 (fun _ => q "" H1 (show 0 ≤ 100 by decide) b1 R1) (fun _ => ?_)⟩⟩
    refine ⟨_, rfl, r, _, rfl, R1, .inl ⟨_, rfl, by decide +kernel, by decide +kernel, fun c H2 hc b2 R2 => ?_⟩⟩
    refine ⟨_, rfl, by show 6 ≤ sizeLine; decide, fun p np => ?_⟩
    refine ⟨r, _, rfl, R2.new np, .inr ⟨p, _, rfl, (R2.ne np).symm, SqL.of upd_same, by show 0 < 6; decide, fun m H3 hm b3 R3 => ?_⟩⟩
    have hx : ∃ x : Str, m = .str x ∧ x.length ≤ 10 := by
      have hm : m ∈ [V.str "", V.str "", V.str "1", V.str "_of", V.str "~2", V.str "nd"] := hm
      simp only [List.mem_cons, List.not_mem_nil, or_false] at hm
      rcases hm with rfl | rfl | rfl | rfl | rfl | rfl <;> exact ⟨_, rfl, by decide +kernel⟩
    obtain ⟨x, rfl, lx⟩ := hx
    refine ⟨_, _, rfl, rfl, ?_, q _ H3 ?_ ((b1.trans b2).trans ((But.new np).trans b3)) R3⟩
    · rw [sg_one]
      exact Nat.le_trans (show 1 + x.length ≤ 11 by omega) (by decide)
    · rw [strLen_append, sg_one]
      omega

def spWay : Sp := fun vs H Q _ => ∃ (r a : Addr) (x : Str) (sy : List Str), vs = [.ref r, .str x, .ref a] ∧ ReelAt H r ∧ H a = some (.lst (sy.map V.str)) ∧ a ≠ r ∧ sy.length ≤ 8 ∧
  ∀ (v : V) (wy : Way) H', WayAt H' v wy → wy.hd = x → wy.sy = sy → wy.lb.length = sy.length → (∀ l ∈ wy.lb, l.length ≤ 100) → But r H H' → ReelAt H' r → Q v H'
theorem ok_way (T : Txt K mg) : FnOk P w K mg base CX0 4 T.a_law_way T.fd_law_way ["reel", "name", "row"] spWay := by
  have G_law_label : FnOk P w K mg base CX0 3 T.a_law_label T.fd_law_label ["reel"] spLabel := ok_label T
  refine T.F_law_way.ok sc_law_way (fun vs H Q E h => ?_) (fun cdv A outer s H vs Q E hr h => ?_)
  · obtain ⟨r, a, x, sy, rfl, _⟩ := h
    rfl
  · have hr_law_label : Room 3 _ := hr
    obtain ⟨r, a, x, sy, rfl, hR, ha, nar, ls, q⟩ := h
    refine ⟨_, (pss_one (ps_ret (pe_tup (pa_cons (pv 1) (pa_cons (pe_callTy call_tuple_of (by rfl) T.m_tuple (by decide +kernel) (pa_cons (pv 2) pa_nil)) (pa_cons (pe_callTy call_tuple_of (by rfl) T.m_tuple (by decide +kernel) (pa_cons (pe_lc (own := [("symbol", 3)]) (g := gName 3) (by rfl) sc_law_way.nd (pi_list (pv 2)) (blkOk_by (own := [("symbol", 3)]) (N := ["reel", "name", "row", "symbol"]) (sc := defScope s_law_way) (by decide +kernel)) (fun _ _ _ _ _ => pg_name (i := 3) sc_law_way.nd rfl (Or.inl rfl)) (fun _ _ _ _ _ => pts_nil) (fun _ _ _ _ _ => (pe_call G_law_label hr_law_label (by rfl) T.g_law_label T.F_law_label.kp T.b_law_label .nil pass0 (pa_cons (pv 0) pa_nil)))) pa_nil)) (pa_cons pe_str pa_nil))))))), ?_⟩
    refine ⟨_, rfl, _, rfl, a, _, rfl, .inl ⟨SqL.of ha, fun t1 n1 => ?_⟩⟩
    have nt1 : t1 ≠ r := (hR.ne n1).symm
    obtain ⟨H1, hH1⟩ : ∃ H1, H1 = upd H t1 (.tup (sy.map V.str)) := ⟨_, rfl⟩
    have b1 : But r H H1 := by rw [hH1]; exact .new n1
    have R1 : ReelAt H1 r := by rw [hH1]; exact hR.new n1
    have ht1 : H1 t1 = some (.tup (sy.map V.str)) := by rw [hH1]; exact upd_same
    rw [← hH1]
    have ha1 := b1 _ _ nar ha
    refine ⟨_, rfl, a, rfl, ⟨_, SqL.of ha1⟩, fun D nD => ?_⟩
    have nDr : D ≠ r := (R1.ne nD).symm
    have lsm : (sy.map V.str).length = sy.length := List.length_map ..
    refine lc_it (walk_list (K := K) (a := a) (xs := sy.map V.str)) (fun j H' => But r H1 H' ∧ ReelAt H' r ∧ ∃ lb : List Str, H' D = some (.lst (lb.map V.str)) ∧ lb.length = j ∧ ∀ l ∈ lb, l.length ≤ 100)
      ⟨.new nD, R1.new nD, [], upd_same, rfl, fun l hl => absurd hl List.not_mem_nil⟩ (fun j H' _ ⟨b, _⟩ => SqL.of (b _ _ nar ha1)) ?_ ?_
    · rintro j v H2 H3 hj ⟨b2, R2, lb, hD, lj, hlb⟩ ⟨rfl, hv⟩
      refine ⟨rfl, _, rfl, r, rfl, R2, fun x H4 lx b4 R4 => ?_⟩
      have hD4 := b4 _ _ nDr hD
      refine ⟨_, hD4, sz2 (by rw [List.length_map]; omega), (b2.trans b4).updN nD, R4.updN nDr, lb ++ [x], ?_, by rw [List.length_append, lj]; rfl, fun l hl => ?_⟩
      · rw [upd_same, List.map_append]
        rfl
      · rcases List.mem_append.mp hl with h | h
        · exact hlb l h
        · rw [List.mem_singleton.mp h]
          exact lx
    rintro H2 ⟨b2, R2, lb, hD, lj, hlb⟩
    rw [lsm] at lj
    refine ⟨D, _, rfl, .inl ⟨SqL.of hD, fun t2 n2 => ?_⟩⟩
    refine ⟨by show 4 ≤ sizeLine; decide, fun t3 n3 => ?_⟩
    have s2 := same_upd (o := .tup (lb.map V.str)) n2
    have s3 := same_upd (o := .tup [.str x, .ref t1, .ref t2, .str ""]) n3
    have h1 := s3 _ _ (s2 _ _ (b2 _ _ nt1 ht1))
    exact q (.ref t3) ⟨x, sy, lb⟩ _ ⟨t3, t1, t2, rfl, upd_same, h1, s3 _ _ upd_same⟩ rfl rfl lj hlb (((b1.trans b2).trans (.new n2)).trans (.new n3)) ((R2.new n2).new n3)

def spLeafRow : Sp := fun vs H Q _ => ∃ (r : Addr) (lv : Int) (x : Str) (sk : Bool), vs = [.ref r, .int lv, .str x, .bl sk] ∧ ReelAt H r ∧ x ≠ "error" ∧ x ≠ "root" ∧ ∀ (v : V) (d : Nd) H', RwAt H' v (lv, d) → leafB d = true → 0 ≤ d.wid → d.wid ≤ 10 → d.alt = -1 → But r H H' → ReelAt H' r → Q v H'
theorem ok_leaf_row (T : Txt K mg) : FnOk P w K mg base CX0 3 T.a_law_leaf_row T.fd_law_leaf_row ["reel", "level", "symbol", "skipped"] spLeafRow := by
  have G_law_draw : FnOk P w K mg base CX0 1 T.a_law_draw T.fd_law_draw ["reel", "size"] spDraw := ok_draw T
  have G_law_pick : FnOk P w K mg base CX0 2 T.a_law_pick T.fd_law_pick ["reel", "row"] (spPick K) := ok_pick T
  refine T.F_law_leaf_row.ok sc_law_leaf_row (fun vs H Q E h => ?_) (fun cdv A outer s H vs Q E hr h => ?_)
  · obtain ⟨r, lv, x, sk, rfl, _⟩ := h
    rfl
  · have hr_law_draw : Room 1 _ := hr.mono (by decide)
    have hr_law_pick : Room 2 _ := hr
    obtain ⟨r, lv, x, sk, rfl, hR, k1, k2, q⟩ := h
    refine ⟨_, (pss_cons (ps_set (i := 4) sc_law_leaf_row.nd rfl (.inl rfl) (pe_callB (call_max2 rfl) (by rfl) T.m_max (by decide +kernel) (pa_cons pe_int (pa_cons (pe_op op_sub (pe_call G_law_draw hr_law_draw (by rfl) T.g_law_draw T.F_law_draw.kp T.b_law_draw .nil pass0 (pa_cons (pv 0) (pa_cons pe_int pa_nil))) pe_int) pa_nil))))
      (pss_cons (ps_set (i := 5) sc_law_leaf_row.nd rfl (.inl rfl) (pe_call G_law_pick hr_law_pick (by rfl) T.g_law_pick T.F_law_pick.kp T.b_law_pick .nil pass0 (pa_cons (pv 0) (pa_cons (pe_lst (pa_cons pe_int (pa_cons pe_int (pa_cons pe_int (pa_cons pe_int (pa_cons pe_int (pa_cons pe_int pa_nil))))))) pa_nil))))
      (C8.pss_cut (ps_if (pt_cmpR op_eq (pv 2) pe_str (nomark _)) (pss_one (ps_set (i := 5) sc_law_leaf_row.nd rfl (.inl rfl) pe_int)) pss_nil)
      (pss_cons (ps_if (PW.pt (pw_and (pt_val (pv 3)) (pw_and1 (pt_cmpR op_eq (pe_call G_law_draw hr_law_draw (by rfl) T.g_law_draw T.F_law_draw.kp T.b_law_draw .nil pass0 (pa_cons (pv 0) (pa_cons pe_int pa_nil))) pe_int (nomark _))))) (pss_one (ps_ret (pe_tup (pa_cons (pv 1) (pa_cons pe_str (pa_cons pe_str (pa_cons (pe_un un_neg pe_int) (pa_cons (pv 4) (pa_cons (pe_op op_add (pv 4) pe_int) (pa_cons (pe_op op_add (pv 4) pe_int) (pa_cons (pe_un un_neg pe_int) (pa_cons pe_int pa_nil)))))))))))) pss_nil)
      (pss_cons (ps_set (i := 6) sc_law_leaf_row.nd rfl (.inl rfl) (pe_call G_law_draw hr_law_draw (by rfl) T.g_law_draw T.F_law_draw.kp T.b_law_draw .nil pass0 (pa_cons (pv 0) (pa_cons pe_int pa_nil))))
      (pss_cons (ps_if (pt_val (pv 3)) (pss_one (ps_set (i := 6) sc_law_leaf_row.nd rfl (.inl rfl) (pe_un un_neg pe_int))) pss_nil)
      (pss_one (ps_ret (pe_tup (pa_cons (pv 1) (pa_cons (pv 2) (pa_cons (pv 2) (pa_cons (pv 6) (pa_cons (pv 4) (pa_cons (pe_op op_add (pe_op op_add (pv 4) pe_int) (pv 5)) (pa_cons (pe_op op_add (pe_op op_add (pv 4) pe_int) (pv 5)) (pa_cons (pe_un un_neg pe_int) (pa_cons pe_int pa_nil)))))))))))))))))), ?_⟩
    refine ⟨_, rfl, r, 6, rfl, hR, by decide, fun v H1 v0 v1 b1 R1 => ?_⟩
    refine ⟨_, _, rfl, rfl, _, _, rfl, ?_⟩
    refine ⟨_, rfl, by show 6 ≤ sizeLine; decide, fun p np => ?_⟩
    refine ⟨r, _, rfl, R1.new np, .inr ⟨p, _, rfl, (R1.ne np).symm, SqL.of upd_same, by show 0 < 6; decide, fun m H2 hm b2 R2 => ?_⟩⟩
    obtain ⟨m, rfl, m0, m1⟩ := intsIn_mem (lo := 0) (hi := 5) (by decide +kernel) m hm
    obtain ⟨g, hg⟩ : ∃ g : Int, g = (if v - 2 > 0 then v - 2 else 0) := ⟨_, rfl⟩
    rw [← hg]
    have g0 : 0 ≤ g ∧ g ≤ 3 := by
      rw [hg]
      split <;> omega
    clear hg
    have b02 : But r H H2 := (b1.trans (But.new np)).trans b2
    refine ⟨fun σ H' => H' = H2 ∧ ∃ g m : Int, σ = [some (.ref r), some (.int lv), some (.str x), some (.bl sk), some (.int g), some (.int m), none] ∧ 0 ≤ g ∧ g ≤ 3 ∧ 0 ≤ m ∧ m ≤ 5, ?_, ?_⟩
    · exact ⟨_, rfl, rfl, _, rfl, ite2 (fun _ => ⟨rfl, _, 0, rfl, g0.1, g0.2, by decide, by decide⟩) (fun _ => ⟨rfl, _, _, rfl, g0.1, g0.2, m0, m1⟩)⟩
    rintro σ H3 ⟨rfl, g, m, rfl, g0, g1, m0, m1⟩
    have fin : ∀ (n : Int) (H6 : Hp), But r H H6 → ReelAt H6 r → ∀ t, H6 t = none → Q (.ref t) (upd H6 t (.tup (rwV (lv, (⟨x, x, n, g, g + 1 + m, g + 2 + m, -1, 0⟩ : Nd))))) := fun n H6 b6 R6 t nt =>
      q (.ref t) ⟨x, x, n, g, g + 1 + m, g + 2 + m, -1, 0⟩ _ ⟨t, rfl, upd_same⟩ (leaf_of rfl k1 k2) (show 0 ≤ g + 1 + m by omega) (show g + 1 + m ≤ 10 by omega) rfl (b6.trans (But.new nt)) (R6.new nt)
    cases sk with
    | false =>
      refine ⟨_, rfl, false, rfl, iteF ?_⟩
      refine ⟨_, rfl, r, 40, rfl, R2, by decide, fun n H4 n0 n1 b4 R4 => ?_⟩
      refine ⟨_, rfl, false, rfl, iteF ?_⟩
      exact ⟨_, rfl, _, rfl, _, rfl, _, rfl, _, rfl, _, rfl, _, _, rfl, rfl, _, rfl, _, _, rfl, rfl, _, rfl, _, _, rfl, rfl, _, rfl, _, _, rfl, rfl, 1, rfl, by show 9 ≤ sizeLine; decide, fun t nt => fin n H4 (b02.trans b4) R4 t nt⟩
    | true =>
      refine ⟨_, rfl, true, rfl, iteT ?_⟩
      refine ⟨_, rfl, r, 2, rfl, R2, by decide, fun f H4 f0 f1 b4 R4 => ⟨rfl, _, rfl, ite2 (fun _ => ?_) (fun _ => ?_)⟩⟩
      · refine ⟨_, rfl, 1, rfl, _, rfl, _, rfl, _, _, rfl, rfl, _, rfl, _, _, rfl, rfl, 1, rfl, by show 9 ≤ sizeLine; decide, fun t nt => ?_⟩
        exact q (.ref t) ⟨"stray", "stray", -1, g, g + 1, g + 2, -1, 0⟩ _ ⟨t, rfl, upd_same⟩ (leaf_of rfl (show ("stray" : Str) ≠ "error" by decide +kernel) (show ("stray" : Str) ≠ "root" by decide +kernel)) (show 0 ≤ g + 1 by omega) (show g + 1 ≤ 10 by omega) rfl ((b02.trans b4).trans (But.new nt)) (R4.new nt)
      · refine ⟨_, rfl, r, 40, rfl, R4, by decide, fun n H5 n0 n1 b5 R5 => ?_⟩
        refine ⟨_, rfl, true, rfl, iteT ?_⟩
        refine ⟨1, rfl, ?_⟩
        exact ⟨_, rfl, _, rfl, _, rfl, _, rfl, _, rfl, _, rfl, _, _, rfl, rfl, _, rfl, _, _, rfl, rfl, _, rfl, _, _, rfl, rfl, _, rfl, _, _, rfl, rfl, 1, rfl, by show 9 ≤ sizeLine; decide, fun t nt => fin (-1) H5 ((b02.trans b4).trans b5) R5 t nt⟩

/-! ### ways -/
structure WayOk (ns ss : List Str) (w : Way) : Prop where
  hd : w.hd ∈ ns
  sy : ∀ x ∈ w.sy, x ∈ ns ++ ss
  len : w.lb.length = w.sy.length
  few : w.sy.length ≤ 5
  sh : ∀ l ∈ w.lb, l.length ≤ 100
structure WaysAt (ns ss : List Str) (H : Hp) (D : Addr) (n m : Nat) : Prop where
  ex : ∃ us ws, H D = some (.lst us) ∧ Paired (WayAt H) us ws ∧ (∀ w ∈ ws, WayOk ns ss w) ∧ ws.length ≤ m ∧ ∀ j x, j < n → ns[j]? = some x → ∃ w ∈ ws, w.hd = x
theorem WaysAt.but {ns ss : List Str} {H H' : Hp} {D r : Addr} {n m : Nat} (h : WaysAt ns ss H D n m) (b : But r H H') (R : ReelAt H r) (nD : D ≠ r) : WaysAt ns ss H' D n m := by
  obtain ⟨us, ws, h1, h2, h3⟩ := h.ex
  exact ⟨us, ws, b _ _ nD h1, Paired.mapP h2 fun _ _ x => x.tups (b.tups R), h3⟩
theorem WaysAt.more {ns ss : List Str} {H : Hp} {D : Addr} {n m m2 : Nat} (h : WaysAt ns ss H D n m) (l : m ≤ m2) : WaysAt ns ss H D n m2 := by
  obtain ⟨us, ws, h1, h2, h3, h4, h5⟩ := h.ex
  exact ⟨us, ws, h1, h2, h3, Nat.le_trans h4 l, h5⟩
theorem WaysAt.add {ns ss : List Str} {H : Hp} {D : Addr} {n m : Nat} {v : V} {w : Way} (h : WaysAt ns ss H D n m) (hv : WayAt H v w) (hw : WayOk ns ss w) : ∃ us, H D = some (.lst us) ∧ us.length ≤ m ∧ WaysAt ns ss (upd H D (.lst (us ++ [v]))) D n (m + 1) ∧ (ns[n]? = some w.hd → WaysAt ns ss (upd H D (.lst (us ++ [v]))) D (n + 1) (m + 1)) := by
  obtain ⟨us, ws, h1, h2, h3, h4, h5⟩ := h.ex
  have lu := paired_len h2
  have tm := tups_lst (o := .lst (us ++ [v])) h1
  have p : Paired (WayAt (upd H D (.lst (us ++ [v])))) (us ++ [v]) (ws ++ [w]) := paired_app (Paired.mapP h2 fun _ _ x => x.tups tm) (.cons (hv.tups tm) .nil)
  have ok : ∀ x ∈ ws ++ [w], WayOk ns ss x := fun x hx => by
    rcases List.mem_append.mp hx with hx | hx
    · exact h3 x hx
    · rw [List.mem_singleton.mp hx]
      exact hw
  have ln : (ws ++ [w]).length ≤ m + 1 := by
    rw [List.length_append, List.length_singleton]
    omega
  refine ⟨us, h1, by omega, ⟨_, _, upd_same, p, ok, ln, fun j x hj hx => ?_⟩, fun e => ⟨_, _, upd_same, p, ok, ln, fun j x hj hx => ?_⟩⟩
  · obtain ⟨y, hy, ey⟩ := h5 j x hj hx
    exact ⟨y, List.mem_append_left _ hy, ey⟩
  · by_cases hjn : j = n
    · subst hjn
      exact ⟨w, List.mem_append_right _ List.mem_cons_self, Option.some.inj (e.symm.trans hx)⟩
    · obtain ⟨y, hy, ey⟩ := h5 j x (by omega) hx
      exact ⟨y, List.mem_append_left _ hy, ey⟩
theorem cut_from {us : List V} {a : Nat} (h : a ≤ us.length) : cutV us (some ((a : Nat) : Int)) none = us.drop a := by
  unfold cutV
  rw [HT.sIx_nat, HT.sIx_none, Nat.min_eq_left h, List.take_of_length_le (by rw [List.length_drop]; exact Nat.le_refl _)]
theorem cut_to {us : List V} {a : Nat} (h : a ≤ us.length) : cutV us none (some ((a : Nat) : Int)) = us.take a := by
  unfold cutV
  show (us.drop 0).take _ = _
  rw [HT.sIx_nat, HT.sIx_none, Nat.min_eq_left h, Nat.sub_zero, List.drop_zero]
def spWays : Sp := fun vs H Q _ => ∃ (r a b : Addr) (ns ss : List Str), vs = [.ref r, .ref a, .ref b] ∧ ReelAt H r ∧ H a = some (.lst (ns.map V.str)) ∧ H b = some (.lst (ss.map V.str)) ∧ a ≠ r ∧ b ≠ r ∧ ns.length ≤ 10 ∧ 0 < ss.length ∧ ss.length ≤ 10 ∧
  ∀ D H', WaysAt ns ss H' D ns.length (3 * ns.length) → H D = none → But r H H' → ReelAt H' r → Q (.ref D) H'
theorem ok_ways (T : Txt K mg) : FnOk P w K mg base CX0 5 T.a_law_ways T.fd_law_ways ["reel", "names", "sorts"] spWays := by
  have G_law_draw : FnOk P w K mg base CX0 1 T.a_law_draw T.fd_law_draw ["reel", "size"] spDraw := ok_draw T
  have G_law_pick : FnOk P w K mg base CX0 2 T.a_law_pick T.fd_law_pick ["reel", "row"] (spPick K) := ok_pick T
  have G_law_way : FnOk P w K mg base CX0 4 T.a_law_way T.fd_law_way ["reel", "name", "row"] spWay := ok_way T
  refine T.F_law_ways.ok sc_law_ways (fun vs H Q E h => ?_) (fun cdv A outer s H vs Q E hr h => ?_)
  · obtain ⟨r, a, b, ns, ss, rfl, _⟩ := h
    rfl
  · have hr_law_draw : Room 1 _ := hr.mono (by decide)
    have hr_law_pick : Room 2 _ := hr.mono (by decide)
    have hr_law_way : Room 4 _ := hr
    obtain ⟨r, a, b, ns, ss, rfl, hR, ha, hb, nar, nbr, ln, ls0, ls, q⟩ := h
    refine ⟨_, (pss_cons (ps_set (i := 3) sc_law_ways.nd rfl (.inl rfl) (pe_lst pa_nil))
      (pss_cons (ps_for PassesOwn.never rfl (pi_range1 (by rfl) T.m_range (pa_cons (pe_callB call_len_seq (by rfl) T.m_len PySem.boot_len (pa_cons (pv 1) pa_nil)) pa_nil)) (pg_name (i := 4) sc_law_ways.nd rfl (.inl rfl)) (pss_cons (ps_set (i := 5) sc_law_ways.nd rfl (.inr rfl) (pe_op op_cat (pe_slice sl_list (pv 1) (po_some (pe_op op_add (pv 4) pe_int)) po_none) (pv 2)))
      (pss_cons (ps_setLc (i := 6) (own := [("turn", 7)]) (g := gName 7) (by rfl) sc_law_ways.nd rfl rfl (sw_true rfl rfl rfl (by decide +kernel)) (pi_range1 (by rfl) T.m_range (pa_cons (pe_call G_law_draw hr_law_draw (by rfl) T.g_law_draw T.F_law_draw.kp T.b_law_draw .nil pass0 (pa_cons (pv 0) (pa_cons pe_int pa_nil))) pa_nil)) (blkOk_by (own := [("turn", 7)]) (N := ["reel", "names", "sorts", "ways", "k", "lower", "row", "turn", "at", "more", "form"]) (sc := defScope s_law_ways) (by decide +kernel)) (fun _ _ _ _ _ => pg_name (i := 7) sc_law_ways.nd rfl (Or.inl rfl)) (fun _ _ _ _ _ => pts_nil) (fun _ _ _ _ _ => (pe_call G_law_pick hr_law_pick (by rfl) T.g_law_pick T.F_law_pick.kp T.b_law_pick .nil pass0 (pa_cons (pv 0) (pa_cons (pv 5) pa_nil)))))
      (C8.pss_cut (ps_if (pt_cmpR op_lt (pe_op op_add (pv 4) pe_int) (pe_callB call_len_seq (by rfl) T.m_len PySem.boot_len (pa_cons (pv 1) pa_nil)) (nomark _)) (pss_cons (ps_set (i := 8) sc_law_ways.nd rfl (.inl rfl) (pe_call G_law_draw hr_law_draw (by rfl) T.g_law_draw T.F_law_draw.kp T.b_law_draw .nil pass0 (pa_cons (pv 0) (pa_cons (pe_op op_add (pe_callB call_len_seq (by rfl) T.m_len PySem.boot_len (pa_cons (pv 6) pa_nil)) pe_int) pa_nil))))
      (pss_one (ps_set (i := 6) sc_law_ways.nd rfl (.inl rfl) (pe_op op_cat (pe_op op_cat (pe_slice sl_list (pv 6) po_none (po_some (pv 8))) (pe_lst (pa_cons (pe_ix ix_list (pv 1) (pe_op op_add (pv 4) pe_int) (fun _ _ => rfl)) pa_nil))) (pe_slice sl_list (pv 6) (po_some (pv 8)) po_none))))) pss_nil)
      (pss_cons (ps_expr (pe_bm PySem.F.plainAttrs_list PySem.F.slot_list_append PySem.F.type_list_append mt_append (pv 3) (pa_cons (pe_call G_law_way hr_law_way (by rfl) T.g_law_way T.F_law_way.kp T.b_law_way .nil pass0 (pa_cons (pv 0) (pa_cons (pe_ix ix_list (pv 1) (pv 4) (fun _ _ => rfl)) (pa_cons (pv 6) pa_nil)))) pa_nil)))
      (pss_one (ps_for PassesOwn.never rfl (pi_range1 (by rfl) T.m_range (pa_cons (pe_call G_law_draw hr_law_draw (by rfl) T.g_law_draw T.F_law_draw.kp T.b_law_draw .nil pass0 (pa_cons (pv 0) (pa_cons pe_int pa_nil))) pa_nil)) (pg_name (i := 9) sc_law_ways.nd rfl (.inl rfl)) (pss_cons (ps_setLc (i := 6) (own := [("turn", 7)]) (g := gName 7) (by rfl) sc_law_ways.nd rfl rfl (sw_true rfl rfl rfl (by decide +kernel)) (pi_range1 (by rfl) T.m_range (pa_cons (pe_call G_law_draw hr_law_draw (by rfl) T.g_law_draw T.F_law_draw.kp T.b_law_draw .nil pass0 (pa_cons (pv 0) (pa_cons pe_int pa_nil))) pa_nil)) (blkOk_by (own := [("turn", 7)]) (N := ["reel", "names", "sorts", "ways", "k", "lower", "row", "turn", "at", "more", "form"]) (sc := defScope s_law_ways) (by decide +kernel)) (fun _ _ _ _ _ => pg_name (i := 7) sc_law_ways.nd rfl (Or.inl rfl)) (fun _ _ _ _ _ => pts_nil) (fun _ _ _ _ _ => (pe_call G_law_pick hr_law_pick (by rfl) T.g_law_pick T.F_law_pick.kp T.b_law_pick .nil pass0 (pa_cons (pv 0) (pa_cons (pv 5) pa_nil)))))
      (pss_cons (ps_set (i := 10) sc_law_ways.nd rfl (.inl rfl) (pe_call G_law_draw hr_law_draw (by rfl) T.g_law_draw T.F_law_draw.kp T.b_law_draw .nil pass0 (pa_cons (pv 0) (pa_cons pe_int pa_nil))))
      (C8.pss_cut (ps_if (pt_cmpR op_eq (pv 10) pe_int (nomark _)) (pss_one (ps_set (i := 6) sc_law_ways.nd rfl (.inl rfl) (pe_op op_cat (pe_lst (pa_cons (pe_ix ix_list (pv 1) (pv 4) (fun _ _ => rfl)) (pa_cons (pe_call G_law_pick hr_law_pick (by rfl) T.g_law_pick T.F_law_pick.kp T.b_law_pick .nil pass0 (pa_cons (pv 0) (pa_cons (pv 2) pa_nil))) pa_nil))) (pv 6)))) pss_nil)
      (C8.pss_cut (ps_if (pt_cmpR op_eq (pv 10) pe_int (nomark _)) (pss_one (ps_set (i := 6) sc_law_ways.nd rfl (.inl rfl) (pe_op op_cat (pv 6) (pe_lst (pa_cons (pe_call G_law_pick hr_law_pick (by rfl) T.g_law_pick T.F_law_pick.kp T.b_law_pick .nil pass0 (pa_cons (pv 0) (pa_cons (pv 2) pa_nil))) (pa_cons (pe_ix ix_list (pv 1) (pv 4) (fun _ _ => rfl)) pa_nil)))))) pss_nil)
      (pss_one (ps_expr (pe_bm PySem.F.plainAttrs_list PySem.F.slot_list_append PySem.F.type_list_append mt_append (pv 3) (pa_cons (pe_call G_law_way hr_law_way (by rfl) T.g_law_way T.F_law_way.kp T.b_law_way .nil pass0 (pa_cons (pv 0) (pa_cons (pe_ix ix_list (pv 1) (pv 4) (fun _ _ => rfl)) (pa_cons (pv 6) pa_nil)))) pa_nil)))))))))))))))
      (pss_one (ps_ret (pv 3))))), ?_⟩
    have lns : (ns.map V.str).length = ns.length := List.length_map ..
    have lss : (ss.map V.str).length = ss.length := List.length_map ..
    refine ⟨by show 0 ≤ sizeLine; decide, fun D nD => ?_⟩
    have nDr : D ≠ r := (hR.ne nD).symm
    refine ⟨_, rfl, a, _, rfl, .inl (SqL.of (same_upd nD _ _ ha)), _, rfl, by omega, by omega, ?_⟩
    refine for_range (lo := 0) (n := (((ns.map V.str).length : Nat) : Int).toNat) (fun n σ H' => (∃ y4 y5 y6 y8 y9 y10 : Option V, σ = [some (.ref r), some (.ref a), some (.ref b), some (.ref D), y4, y5, y6, none, y8, y9, y10]) ∧ But r H H' ∧ ReelAt H' r ∧ WaysAt ns ss H' D n (3 * n))
      ⟨⟨none, none, none, none, none, none, rfl⟩, .new nD, hR.new nD, ⟨[], [], upd_same, .nil, fun w h => absurd h List.not_mem_nil, Nat.zero_le _, fun j x h => absurd h (Nat.not_lt_zero _)⟩⟩ ?_ ?_
    · rintro n σ H1 hi ⟨⟨y4, y5, y6, y8, y9, y10, rfl⟩, b1, R1, W1⟩
      have hin : n < ns.length := by omega
      obtain ⟨x, hx⟩ : ∃ x, ns[n]? = some x := ⟨_, List.getElem?_eq_getElem hin⟩
      have ha1 := b1 _ _ nar ha
      have hb1 := b1 _ _ nbr hb
      have en : (0 : Int) + (n : Int) = ((n : Nat) : Int) := by omega
      rw [en]
      refine ⟨_, rfl, _, rfl, _, _, rfl, rfl, _, rfl, a, _, rfl, SqL.of ha1, fun p1 np1 => ?_⟩
      have np1r : p1 ≠ r := (R1.ne np1).symm
      rw [show ((n : Nat) : Int) + 1 = ((n + 1 : Nat) : Int) by omega, cut_from (by omega)]
      have b2 : But r H1 (upd H1 p1 (.lst ((ns.map V.str).drop (n + 1)))) := .new np1
      have R2 : ReelAt (upd H1 p1 (.lst ((ns.map V.str).drop (n + 1)))) r := R1.new np1
      refine ⟨_, rfl, p1, b, _, _, rfl, rfl, upd_same, b2 _ _ nbr hb1, szM (by rw [List.length_drop]; omega), fun p2 np2 => ?_⟩
      have np2r : p2 ≠ r := (R2.ne np2).symm
      obtain ⟨lo, hlo⟩ : ∃ lo, lo = ns.drop (n + 1) ++ ss := ⟨_, rfl⟩
      have elo : (ns.map V.str).drop (n + 1) ++ ss.map V.str = lo.map V.str := by rw [hlo, List.map_append, List.map_drop]
      have llo : lo.length ≤ 20 ∧ 0 < lo.length := by
        rw [hlo, List.length_append, List.length_drop]
        omega
      have mlo : ∀ x ∈ lo, x ∈ ns ++ ss := fun x hx => by
        rw [hlo] at hx
        rcases List.mem_append.mp hx with hx | hx
        · exact List.mem_append_left _ (List.mem_of_mem_drop hx)
        · exact List.mem_append_right _ hx
      rw [elo]
      obtain ⟨H3, hH3⟩ : ∃ H3, H3 = upd (upd H1 p1 (.lst ((ns.map V.str).drop (n + 1)))) p2 (.lst (lo.map V.str)) := ⟨_, rfl⟩
      have b3 : But r H1 H3 := by rw [hH3]; exact b2.trans (.new np2)
      have R3 : ReelAt H3 r := by rw [hH3]; exact R2.new np2
      have hp2 : H3 p2 = some (.lst (lo.map V.str)) := by rw [hH3]; exact upd_same
      rw [← hH3]
      have W3 := W1.but b3 R1 nDr
      have lol : (lo.map V.str).length = lo.length := List.length_map ..
      refine ⟨_, rfl, r, 4, rfl, R3, by decide, fun v4 H4 v40 v41 b4 R4 => ?_⟩
      refine ⟨_, rfl, by omega, by omega, fun p5 np5 => ?_⟩
      have np5r : p5 ≠ r := (R4.ne np5).symm
      refine lc_range (lo := 0) (n := v4.toNat) (fun j H' => But r H4 H' ∧ ReelAt H' r ∧ ∃ sy : List Str, H' p5 = some (.lst (sy.map V.str)) ∧ sy.length = j ∧ ∀ x ∈ sy, x ∈ ns ++ ss) ⟨.new np5, R4.new np5, [], upd_same, rfl, fun x hx => absurd hx List.not_mem_nil⟩ ?_ ?_
      · rintro j H5 hj ⟨b5, R5, sy, hp5, lsy, msy⟩
        refine ⟨rfl, _, rfl, _, rfl, r, _, rfl, R5, .inr ⟨p2, _, rfl, np2r, SqL.of (b5 _ _ np2r (b4 _ _ np2r hp2)), by omega, fun m H6 hm b6 R6 => ?_⟩⟩
        obtain ⟨y, hy, rfl⟩ := List.mem_map.mp hm
        refine ⟨_, b6 _ _ np5r hp5, sz2 (by rw [List.length_map]; omega), (b5.trans b6).updN np5, R6.updN np5r, sy ++ [y], ?_, by rw [List.length_append, lsy]; rfl, fun x hx => ?_⟩
        · rw [upd_same, List.map_append]
          rfl
        · rcases List.mem_append.mp hx with h | h
          · exact msy x h
          · rw [List.mem_singleton.mp h]
            exact mlo y hy
      rintro H5 ⟨b5, R5, sy, hp5, lsy, msy⟩
      have lsy3 : sy.length ≤ 3 := by omega
      have W5 := (W3.but b4 R3 nDr).but b5 R4 nDr
      have b15 := (b3.trans b4).trans b5
      have hp25 := b5 _ _ np2r (b4 _ _ np2r hp2)
      have hDp2 : D ≠ p2 := fun z => by
        obtain ⟨us0, _, h0, _⟩ := (W1.but b2 R1 nDr).ex
        rw [← z, h0] at np2
        cases np2
      refine ⟨fun σ H' => (∃ (p6 : Addr) (sy2 : List Str) (y8 y9 y10 : Option V), σ = [some (.ref r), some (.ref a), some (.ref b), some (.ref D), some (.int ((n : Nat) : Int)), some (.ref p2), some (.ref p6), none, y8, y9, y10] ∧ p6 ≠ r ∧ H' p6 = some (.lst (sy2.map V.str)) ∧ sy2.length ≤ 4 ∧ ∀ x ∈ sy2, x ∈ ns ++ ss) ∧ But r H1 H' ∧ ReelAt H' r ∧ WaysAt ns ss H' D n (3 * n) ∧ H' p2 = some (.lst (lo.map V.str)), ?_, ?_⟩
      · have ha5 := b15 _ _ nar ha1
        have lsm : (sy.map V.str).length = sy.length := List.length_map ..
        refine ⟨_, rfl, _, _, rfl, rfl, _, rfl, a, _, rfl, .inl (SqL.of ha5), _, _, rfl, rfl, _, rfl, ite2 (fun hc => ?_) (fun _ => ?_)⟩
        · have hc := of_decide_eq_true hc
          rw [lns] at hc
          obtain ⟨z, hz⟩ : ∃ z, ns[n + 1]? = some z := ⟨_, List.getElem?_eq_getElem (by omega)⟩
          have hz2 : (ns.map V.str)[n + 1]? = some (.str z) := by
            rw [List.getElem?_map, hz]
            rfl
          refine ⟨_, rfl, _, rfl, p5, _, rfl, .inl (SqL.of hp5), _, _, rfl, rfl, r, _, rfl, R5, by omega, fun vA H6 vA0 vA1 b6 R6 => ?_⟩
          obtain ⟨m, rfl⟩ : ∃ m : Nat, vA = (m : Int) := ⟨vA.toNat, by omega⟩
          have lm : m ≤ sy.length := by omega
          have hp6 := b6 _ _ np5r hp5
          have ha6 := b6 _ _ nar ha5
          refine ⟨_, rfl, _, rfl, _, rfl, p5, _, rfl, SqL.of hp6, fun q1 nq1 => ?_⟩
          rw [cut_to (show m ≤ (sy.map V.str).length by omega)]
          have t1 := same_upd (o := .lst ((sy.map V.str).take m)) nq1
          refine ⟨_, rfl, _, rfl, _, _, rfl, rfl, a, _, _, .str z, rfl, rfl, SqL.of (t1 _ _ ha6), by rw [show ((n : Nat) : Int) + 1 = ((n + 1 : Nat) : Int) by omega]; exact atI_nat hz2, by show 1 ≤ sizeLine; decide, fun q2 nq2 => ?_⟩
          have u1 : Same (upd H6 q1 (.lst ((sy.map V.str).take m))) _ := same_upd (o := .lst [.str z]) nq2
          refine ⟨q1, q2, _, _, rfl, rfl, u1 _ _ upd_same, upd_same, szM (by rw [List.length_take]; show min m _ + 1 ≤ _; omega), fun q3 nq3 => ?_⟩
          have t3 := (t1.trans u1).trans (same_upd (o := .lst ((sy.map V.str).take m ++ [.str z])) nq3)
          refine ⟨_, rfl, _, rfl, _, rfl, p5, _, rfl, SqL.of (t3 _ _ hp6), fun q4 nq4 => ?_⟩
          rw [cut_from (show m ≤ (sy.map V.str).length by omega)]
          have u4 := same_upd (o := .lst ((sy.map V.str).drop m)) nq4
          refine ⟨q3, q4, _, _, rfl, rfl, u4 _ _ upd_same, upd_same, szM (by rw [List.length_append, List.length_take, List.length_drop]; show min m _ + 1 + _ ≤ _; omega), fun q5 nq5 => ?_⟩
          have t5 := (t3.trans u4).trans (same_upd (o := .lst ((sy.map V.str).take m ++ [.str z] ++ (sy.map V.str).drop m)) nq5)
          have R9 := R6.same t5
          have b9 : But r H6 _ := .of t5
          refine ⟨⟨q5, sy.take m ++ [z] ++ sy.drop m, _, _, _, rfl, (((((R6.new nq1).new nq2).new nq3).new nq4).ne nq5).symm, ?_, ?_, fun x hx => ?_⟩, (b15.trans b6).trans b9, R9, (W5.but b6 R5 nDr).but b9 R6 nDr, b9 _ _ np2r (b6 _ _ np2r hp25)⟩
          · rw [upd_same, List.map_append, List.map_append, List.map_take, List.map_drop]
            rfl
          · rw [List.length_append, List.length_append, List.length_take, List.length_drop, List.length_singleton]
            omega
          · rcases List.mem_append.mp hx with hx | hx
            · rcases List.mem_append.mp hx with hx | hx
              · exact msy x (List.mem_of_mem_take hx)
              · rw [List.mem_singleton.mp hx]
                exact List.mem_append_left _ (List.mem_of_getElem? hz)
            · exact msy x (List.mem_of_mem_drop hx)
        · exact ⟨⟨p5, sy, _, _, _, rfl, np5r, hp5, by omega, msy⟩, b15, R5, W5, hp25⟩
      · clear hp5 msy lsy lsy3 hp25 b5 R5 W5 b15 b4 R4 W3
        rintro σ H5 ⟨⟨p6, sy2, y8, y9, y10, rfl, np6r, hp6, ls2, ms2⟩, b5, R5, W5, hp25⟩
        have ha5 := b5 _ _ nar ha1
        have hx2 : (ns.map V.str)[n]? = some (.str x) := by
          rw [List.getElem?_map, hx]
          rfl
        obtain ⟨us5, _, hus5, _⟩ := W5.ex
        refine ⟨_, rfl, .inl ⟨rfl, _, SqL.of hus5⟩, _, rfl, _, rfl, _, rfl, a, _, _, .str x, rfl, rfl, SqL.of ha5, atI_nat hx2, _, rfl, r, p6, x, sy2, rfl, R5, hp6, np6r, by omega, fun v wy H6 hv e1 e2 e3 e4 b6 R6 => ?_⟩
        have W6 := W5.but b6 R5 nDr
        obtain ⟨us, hus, lus, _, W7⟩ := W6.add hv ⟨by rw [e1]; exact List.mem_of_getElem? hx, by rw [e2]; exact ms2, by rw [e2]; exact e3, by rw [e2]; omega, e4⟩
        have W7 := W7 (by rw [e1]; exact hx)
        refine ⟨D, _, _, rfl, rfl, hus, sz2 (by omega), ?_⟩
        have B7 : But r H (upd H6 D (.lst (us ++ [v]))) := ((b1.trans b5).trans b6).updN nD
        have R7 : ReelAt (upd H6 D (.lst (us ++ [v]))) r := R6.updN nDr
        have hp27 : (upd H6 D (.lst (us ++ [v]))) p2 = some (.lst (lo.map V.str)) := by
          rw [upd_ne hDp2.symm]
          exact b6 _ _ np2r hp25
        obtain ⟨H7, hH7⟩ : ∃ H7, H7 = upd H6 D (.lst (us ++ [v])) := ⟨_, rfl⟩
        rw [← hH7] at W7 B7 R7 hp27 ⊢
        clear hus hus5 W5 W6 hv b6 R6 b5 R5 hp25 hp6
        refine ⟨_, rfl, r, 3, rfl, R7, by decide, fun v8 H8 v80 v81 b8 R8 => ?_⟩
        refine ⟨_, rfl, by omega, by omega, ?_⟩
        refine for_range (lo := 0) (n := v8.toNat) (fun i σ H' => (∃ (y6 y8 y9 y10 : Option V), σ = [some (.ref r), some (.ref a), some (.ref b), some (.ref D), some (.int ((n : Nat) : Int)), some (.ref p2), y6, none, y8, y9, y10]) ∧ But r H H' ∧ ReelAt H' r ∧ WaysAt ns ss H' D (n + 1) (3 * n + 1 + i) ∧ H' p2 = some (.lst (lo.map V.str)))
          ⟨⟨_, _, _, _, rfl⟩, B7.trans b8, R8, W7.but b8 R7 nDr, b8 _ _ np2r hp27⟩ ?_ ?_
        · rintro i σ H9 hi9 ⟨⟨y6, y8, y9, y10, rfl⟩, b9, R9, W9, hp29⟩
          have en2 : V.int (0 + ((i : Nat) : Int)) = V.int ((i : Nat) : Int) := by rw [Int.zero_add]
          refine ⟨_, rfl, r, 4, rfl, R9, by decide, fun v4 H4 v40 v41 b4 R4 => ?_⟩
          refine ⟨_, rfl, by omega, by omega, fun p5 np5 => ?_⟩
          have np5r : p5 ≠ r := (R4.ne np5).symm
          refine lc_range (lo := 0) (n := v4.toNat) (fun j H' => But r H4 H' ∧ ReelAt H' r ∧ ∃ sy : List Str, H' p5 = some (.lst (sy.map V.str)) ∧ sy.length = j ∧ ∀ x ∈ sy, x ∈ ns ++ ss) ⟨.new np5, R4.new np5, [], upd_same, rfl, fun x hx => absurd hx List.not_mem_nil⟩ ?_ ?_
          · rintro j H5 hj ⟨b5, R5, sy, hp5, lsy, msy⟩
            refine ⟨rfl, _, rfl, _, rfl, r, _, rfl, R5, .inr ⟨p2, _, rfl, np2r, SqL.of (b5 _ _ np2r (b4 _ _ np2r hp29)), by omega, fun m H6 hm b6 R6 => ?_⟩⟩
            obtain ⟨y, hy, rfl⟩ := List.mem_map.mp hm
            refine ⟨_, b6 _ _ np5r hp5, sz2 (by rw [List.length_map]; omega), (b5.trans b6).updN np5, R6.updN np5r, sy ++ [y], ?_, by rw [List.length_append, lsy]; rfl, fun x hx => ?_⟩
            · rw [upd_same, List.map_append]
              rfl
            · rcases List.mem_append.mp hx with h | h
              · exact msy x h
              · rw [List.mem_singleton.mp h]
                exact mlo y hy
          rintro H5 ⟨b5, R5, sy, hp5, lsy, msy⟩
          have lsy3 : sy.length ≤ 3 := by omega
          have b95 := b4.trans b5
          refine ⟨_, rfl, r, 4, rfl, R5, by decide, fun f H6 f0 f1 b6 R6 => ?_⟩
          have b96 := b95.trans b6
          have hp6 := b6 _ _ np5r hp5
          have W6 := W9.but b96 R9 nDr
          have hp26 := b96 _ _ np2r hp29
          have B6 := b9.trans b96
          have hsx : (ns.map V.str)[n]? = some (.str x) := by
            rw [List.getElem?_map, hx]
            rfl
          have xin : x ∈ ns ++ ss := List.mem_append_left _ (List.mem_of_getElem? hx)
          clear b95 b96 b6 b5 b4 R4 R5 hp5 W9
          refine ⟨fun σ H' => ∃ (p6 : Addr) (sy2 : List Str) (y8 y9 : Option V), σ = [some (.ref r), some (.ref a), some (.ref b), some (.ref D), some (.int ((n : Nat) : Int)), some (.ref p2), some (.ref p6), none, y8, y9, some (.int f)] ∧ p6 ≠ r ∧ H' p6 = some (.lst (sy2.map V.str)) ∧ (sy2.length ≤ 3 ∨ f = 0 ∧ sy2.length ≤ 5) ∧ (∀ x ∈ sy2, x ∈ ns ++ ss) ∧ But r H H' ∧ ReelAt H' r ∧ WaysAt ns ss H' D (n + 1) (3 * n + 1 + i) ∧ H' p2 = some (.lst (lo.map V.str)), ?_, ?_⟩
          · refine ⟨_, rfl, rfl, _, rfl, ite2 (fun hc => ?_) (fun _ => ?_)⟩
            · have hc : f = 0 := by
                have := of_decide_eq_true hc
                injection this
              refine ⟨_, rfl, _, rfl, a, _, _, .str x, rfl, rfl, SqL.of (B6 _ _ nar ha), atI_nat hsx, _, rfl, _, rfl, r, _, rfl, R6, .inr ⟨b, _, rfl, nbr, SqL.of (B6 _ _ nbr hb), by omega, fun m H7 hm b7 R7 => ?_⟩⟩
              obtain ⟨y, hy, rfl⟩ := List.mem_map.mp hm
              refine ⟨by show 2 ≤ sizeLine; decide, fun q1 nq1 => ?_⟩
              have t1 := same_upd (o := .lst [.str x, .str y]) nq1
              have hp7 := t1 _ _ (b7 _ _ np5r hp6)
              refine ⟨_, rfl, q1, p5, _, _, rfl, rfl, upd_same, hp7, szM (by rw [List.length_map]; show 2 + _ ≤ _; omega), fun q2 nq2 => ?_⟩
              have t2 := t1.trans (same_upd (o := .lst ([.str x, .str y] ++ sy.map V.str)) nq2)
              have b8 : But r H6 _ := b7.trans (.of t2)
              exact ⟨q2, x :: y :: sy, _, _, rfl, ((R7.new nq1).ne nq2).symm, upd_same, .inr ⟨hc, by show sy.length + 2 ≤ 5; omega⟩, fun z hz => by
                rcases List.mem_cons.mp hz with rfl | hz
                · exact xin
                · rcases List.mem_cons.mp hz with rfl | hz
                  · exact List.mem_append_right _ hy
                  · exact msy z hz, B6.trans b8, R7.same t2, W6.but b8 R6 nDr, b8 _ _ np2r hp26⟩
            · exact ⟨p5, sy, _, _, rfl, np5r, hp6, .inl lsy3, msy, B6, R6, W6, hp26⟩
          clear hp6 hp26 W6 B6 R6 np5r np5 msy lsy lsy3
          rintro σ H6 ⟨p6, sy2, y8, y9, rfl, np6r, hp6, lsy2, ms2, B6, R6, W6, hp26⟩
          refine ⟨fun σ H' => ∃ (p6 : Addr) (sy2 : List Str) (y8 y9 y10 : Option V), σ = [some (.ref r), some (.ref a), some (.ref b), some (.ref D), some (.int ((n : Nat) : Int)), some (.ref p2), some (.ref p6), none, y8, y9, y10] ∧ p6 ≠ r ∧ H' p6 = some (.lst (sy2.map V.str)) ∧ sy2.length ≤ 5 ∧ (∀ x ∈ sy2, x ∈ ns ++ ss) ∧ But r H H' ∧ ReelAt H' r ∧ WaysAt ns ss H' D (n + 1) (3 * n + 1 + i) ∧ H' p2 = some (.lst (lo.map V.str)), ?_, ?_⟩
          · refine ⟨_, rfl, rfl, _, rfl, ite2 (fun hc => ?_) (fun _ => ?_)⟩
            · have hc : f = 1 := by
                have := of_decide_eq_true hc
                injection this
              refine ⟨_, rfl, _, rfl, _, rfl, r, _, rfl, R6, .inr ⟨b, _, rfl, nbr, SqL.of (B6 _ _ nbr hb), by omega, fun m H7 hm b7 R7 => ?_⟩⟩
              obtain ⟨y, hy, rfl⟩ := List.mem_map.mp hm
              refine ⟨_, rfl, _, rfl, a, _, _, .str x, rfl, rfl, SqL.of (b7 _ _ nar (B6 _ _ nar ha)), atI_nat hsx, by show 2 ≤ sizeLine; decide, fun q1 nq1 => ?_⟩
              have t1 := same_upd (o := .lst [.str y, .str x]) nq1
              have hp7 := t1 _ _ (b7 _ _ np6r hp6)
              refine ⟨p6, q1, _, _, rfl, rfl, hp7, upd_same, szM (by rw [List.length_map]; show _ + 2 ≤ _; omega), fun q2 nq2 => ?_⟩
              have t2 := t1.trans (same_upd (o := .lst (sy2.map V.str ++ [.str y, .str x])) nq2)
              have b8 : But r H6 _ := b7.trans (.of t2)
              refine ⟨q2, sy2 ++ [y, x], _, _, _, rfl, ((R7.new nq1).ne nq2).symm, by rw [upd_same, List.map_append]; rfl, by rw [List.length_append]; show _ + 2 ≤ 5; omega, fun z hz => ?_, B6.trans b8, R7.same t2, W6.but b8 R6 nDr, b8 _ _ np2r hp26⟩
              rcases List.mem_append.mp hz with hz | hz
              · exact ms2 z hz
              · rcases List.mem_cons.mp hz with rfl | hz
                · exact List.mem_append_right _ hy
                · rw [List.mem_singleton.mp hz]
                  exact xin
            · exact ⟨p6, sy2, _, _, _, rfl, np6r, hp6, by omega, ms2, B6, R6, W6, hp26⟩
          clear hp6 hp26 W6 B6 R6 np6r ms2 lsy2
          rintro σ H6 ⟨p6, sy2, y8, y9, y10, rfl, np6r, hp6, lsy2, ms2, B6, R6, W6, hp26⟩
          obtain ⟨us5, _, hus5, _⟩ := W6.ex
          refine ⟨_, rfl, .inl ⟨rfl, _, SqL.of hus5⟩, _, rfl, _, rfl, _, rfl, a, _, _, .str x, rfl, rfl, SqL.of (B6 _ _ nar ha), atI_nat hsx, _, rfl, r, p6, x, sy2, rfl, R6, hp6, np6r, by omega, fun v wy H7 hv e1 e2 e3 e4 b7 R7 => ?_⟩
          have W7 := W6.but b7 R6 nDr
          obtain ⟨us, hus, lus, W8, _⟩ := W7.add hv ⟨by rw [e1]; exact List.mem_of_getElem? hx, by rw [e2]; exact ms2, by rw [e2]; exact e3, by rw [e2]; exact lsy2, e4⟩
          refine ⟨D, _, _, rfl, rfl, hus, sz2 (by omega), ?_⟩
          exact ⟨⟨_, _, _, _, rfl⟩, (B6.trans b7).updN nD, R7.updN nDr, W8, by rw [upd_ne hDp2.symm]; exact b7 _ _ np2r hp26⟩
        · rintro σ H9 ⟨⟨y6, y8, y9, y10, rfl⟩, b9, R9, W9, _⟩
          exact ⟨⟨_, _, _, _, _, _, rfl⟩, b9, R9, W9.more (by omega)⟩
    · rintro σ H1 ⟨⟨y4, y5, y6, y8, y9, y10, rfl⟩, b1, R1, W1⟩
      rw [show (((ns.map V.str).length : Nat) : Int).toNat = ns.length by omega] at W1
      exact ⟨_, rfl, q D H1 W1 nD b1 R1⟩

/-! ### trees that grow from the left -/
def Fl (t : Tr) (l : Int) : List Rw := (t.ras l).map fun x => (x.1, x.2.1)
mutual
def GT (al : List Way) : Tr → Prop
  | .mk _ d ks => (0 ≤ d.alt → ∃ w, al[d.alt.toNat]? = some w ∧ w.lb.length = ks.length) ∧ (leafB d = true → ks = [] ∧ 0 ≤ d.wid) ∧ GTs al ks
def GTs (al : List Way) : List Tr → Prop
  | [] => True
  | t :: ts => GT al t ∧ GTs al ts
end
theorem GTs.of {al : List Way} : ∀ {ts : List Tr}, (∀ t ∈ ts, GT al t) → GTs al ts
  | [], _ => True.intro
  | _ :: _, h => ⟨h _ List.mem_cons_self, GTs.of fun t ht => h t (List.mem_cons_of_mem _ ht)⟩
mutual
theorem GT.alt {al : List Way} : ∀ {t : Tr}, GT al t → AltOk al t
  | .mk _ _ _, h => ⟨h.1, GTs.alt h.2.2⟩
theorem GTs.alt {al : List Way} : ∀ {ts : List Tr}, GTs al ts → AltsOk al ts
  | [], _ => True.intro
  | _ :: _, h => ⟨GT.alt h.1, GTs.alt h.2⟩
end
/-- what is still to do: level, symbol, label -/
abbrev Td := Int × Str × Str
def flE (es : List (Td × Tr)) : List Rw := (es.map fun e => Fl e.2 e.1.1).flatten
def lbE (al : List Way) (es : List (Td × Tr)) : List Str := (es.map fun e => labsT al e.2 e.1.2.2).flatten
theorem flE_app (a b : List (Td × Tr)) : flE (a ++ b) = flE a ++ flE b := by
  unfold flE
  rw [List.map_append, List.flatten_append]
theorem lbE_app (al : List Way) (a b : List (Td × Tr)) : lbE al (a ++ b) = lbE al a ++ lbE al b := by
  unfold lbE
  rw [List.map_append, List.flatten_append]
theorem flE_lev {l : Int} : ∀ {bs : List Td} {qs : List Tr}, qs.length = bs.length → (∀ b ∈ bs, b.1 = l) → flE (bs.zip qs) = (rasL l qs).map fun x => ((x.1, x.2.1) : Rw)
  | [], [], _, _ => rfl
  | b :: bs, q :: qs, h, hl => by
    have ih := flE_lev (l := l) (bs := bs) (qs := qs) (by simpa using h) fun x hx => hl x (List.mem_cons_of_mem _ hx)
    show Fl q b.1 ++ flE (bs.zip qs) = (q.ras l ++ rasL l qs).map _
    rw [ih, List.map_append, hl b List.mem_cons_self]
    rfl
theorem lbE_labs {al : List Way} : ∀ {bs : List Td} {qs : List Tr}, qs.length = bs.length → lbE al (bs.zip qs) = labsTs al qs (bs.map fun b => b.2.2)
  | [], [], _ => rfl
  | b :: bs, q :: qs, h => by
    have ih := lbE_labs (al := al) (bs := bs) (qs := qs) (by simpa using h)
    show labsT al q b.2.2 ++ lbE al (bs.zip qs) = _
    rw [ih, labsTs_cons]
    rfl
def Pend (al : List Way) (lv : Int) (ts : List Td) (rows : List Rw) (labs : List Str) : Prop := ∀ qs : List Tr, qs.length = ts.length → (∀ q ∈ qs, GT al q) → ∃ pt, GT al pt ∧ Fl pt lv = rows ++ flE (ts.zip qs) ∧ labsT al pt "" = labs ++ lbE al (ts.zip qs)
theorem Pend.start (al : List Way) (lv : Int) (s : Str) : Pend al lv [(lv, s, "")] [] [] := fun qs h hq => by
  match qs, h with
  | [q], _ =>
    refine ⟨q, hq q List.mem_cons_self, ?_, ?_⟩
    · show _ = Fl q lv ++ []
      rw [List.append_nil]
    · show _ = labsT al q "" ++ []
      rw [List.append_nil]
theorem Pend.step {al : List Way} {lv l : Int} {s lab : Str} {ts bs : List Td} {rows : List Rw} {labs : List Str} {d : Nd} (h : Pend al lv ((l, s, lab) :: ts) rows labs) (ha : 0 ≤ d.alt → ∃ w, al[d.alt.toNat]? = some w ∧ w.lb.length = bs.length) (hl : leafB d = true → bs = [] ∧ 0 ≤ d.wid)
    (hb : ∀ b ∈ bs, b.1 = l + 1) (hm : (bs.map fun b => b.2.2) = labsOf al d bs.length) : Pend al lv (bs ++ ts) (rows ++ [(l, d)]) (labs ++ [lab]) := fun qs hq hg => by
  rw [List.length_append] at hq
  have e := List.take_append_drop bs.length qs
  have l1 : (qs.take bs.length).length = bs.length := by rw [List.length_take]; omega
  have l2 : (qs.drop bs.length).length = ts.length := by rw [List.length_drop]; omega
  obtain ⟨pt, g, e1, e2⟩ := h (.mk (0 : Addr) d (qs.take bs.length) :: qs.drop bs.length) (by rw [List.length_cons, List.length_cons, l2]) (fun q hm => by
    rcases List.mem_cons.mp hm with rfl | hm
    · refine ⟨fun z => ?_, fun z => ?_, GTs.of fun t ht => hg t (List.mem_of_mem_take ht)⟩
      · rw [l1]
        exact ha z
      · obtain ⟨rfl, w⟩ := hl z
        exact ⟨rfl, w⟩
    · exact hg q (List.mem_of_mem_drop hm))
  refine ⟨pt, g, ?_, ?_⟩
  · rw [e1, ← e, List.zip_append l1.symm, flE_app, flE_lev l1 hb, List.append_assoc, e]
    rfl
  · have e3 : labsT al (.mk (0 : Addr) d (qs.take bs.length)) lab = lab :: labsTs al (qs.take bs.length) (labsOf al d bs.length) := by
      show lab :: labsTs al (qs.take bs.length) (labsOf al d (qs.take bs.length).length) = _
      rw [l1]
    rw [e2, ← e, List.zip_append l1.symm, lbE_app, lbE_labs l1, List.append_assoc, e, hm]
    show labs ++ (labsT al (.mk (0 : Addr) d (qs.take bs.length)) lab ++ lbE al (ts.zip (qs.drop bs.length))) = _
    rw [e3]
    rfl
theorem Pend.done {al : List Way} {lv : Int} {rows : List Rw} {labs : List Str} (h : Pend al lv [] rows labs) : ∃ pt, GT al pt ∧ Fl pt lv = rows ∧ labsT al pt "" = labs := by
  obtain ⟨pt, g, e1, e2⟩ := h [] rfl fun q hq => absurd hq List.not_mem_nil
  refine ⟨pt, g, ?_, ?_⟩
  · rw [e1]
    exact List.append_nil _
  · rw [e2]
    exact List.append_nil _

/-! ### grown rows -/
def TdAt (H : Hp) (v : V) (e : Td) : Prop := ∃ g, v = .ref g ∧ H g = some (.tup [.int e.1, .str e.2.1, .str e.2.2])
theorem TdAt.tups {H H' : Hp} {v : V} {e : Td} (h : TdAt H v e) (t : Tups H H') : TdAt H' v e := by
  obtain ⟨g, e1, h⟩ := h
  exact ⟨g, e1, t _ _ h⟩
theorem or_any {i : Nat} {x : Str} {t2 : L2.TE} {σ : L2.St} {H : Hp} {Q : VK} (hi : σ[i]? = some (some (.str x))) (hx : x.length ≤ 100) (h1 : x = "" → t2 σ H Q) (h2 : x ≠ "" → Q (.str x) H) : tOrT K (tVar i) t2 σ H Q := by
  refine ⟨_, hi, _, ⟨Nat.le_trans hx (by decide), rfl⟩, ?_⟩
  by_cases e : x = ""
  · have z : ((x.length : Int) != 0) = false := by
      rw [len_zero.mpr e]
      rfl
    rw [z]
    exact iteF (h1 e)
  · have z : ((x.length : Int) != 0) = true := by
      have := fun h => e (len_zero.mp h)
      simp
      omega
    rw [z]
    exact iteT (h2 e)
theorem if_ev2 {tt : L2.TT} {a b : L2.TS} {D : L2.Ends} {σ : L2.St} {H : Hp} (R : Hp → Prop) (P : Prop) (h : ∀ Qb : Bool → Hp → Prop, (∀ H2, R H2 → Qb true H2) → (∀ H2, R H2 → P → Qb false H2) → tt σ H Qb) (ha : ∀ H2, R H2 → a D σ H2) (hb : ∀ H2, R H2 → P → b D σ H2) : tIfS tt a b D σ H :=
  h _ (fun H2 r => iteT (ha H2 r)) (fun H2 r p => iteF (hb H2 r p))
theorem at_state {tt : L2.TT} {a b : L2.TS} {D : L2.Ends} {σ σ2 : L2.St} {H : Hp} (e : σ = σ2) (h : tIfS tt a b D σ2 H) : tIfS tt a b D σ H := by
  rw [e]
  exact h
theorem flat_rep {α : Type} (x : α) : ∀ n : Nat, (List.replicate n [x]).flatten = List.replicate n x
  | 0 => rfl
  | n + 1 => by
    rw [List.replicate_succ, List.replicate_succ, List.flatten_cons, flat_rep x n]
    rfl
theorem paired_rep {α β : Type} {F : α → β → Prop} {x : α} {y : β} (h : F x y) : ∀ n : Nat, Paired F (List.replicate n x) (List.replicate n y)
  | 0 => .nil
  | n + 1 => .cons h (paired_rep h n)
theorem pop_last_td {F : V → Td → Prop} {p : Td} : ∀ (qs : List Td) (vs : List V), Paired F vs (qs ++ [p]) → ∃ ws' x, vs = ws' ++ [x] ∧ Paired F ws' qs ∧ F x p := fun qs => by
  induction qs with
  | nil =>
    intro vs h
    cases h with
    | cons r t =>
      cases t
      exact ⟨[], _, rfl, .nil, r⟩
  | cons q0 qs ih =>
    intro vs h
    cases h with
    | cons r t =>
      obtain ⟨ws', x, rfl, h1, h2⟩ := ih _ t
      exact ⟨_ :: ws', x, rfl, .cons r h1, h2⟩
theorem tups_new {H : Hp} {p : Addr} {o : HO} (h : H p = none) : Tups H (upd H p o) := fun c xs e => by
  rw [upd_ne (ne_of_none e h)]
  exact e
def First (start : Str) (x : Rw) : Prop := x.2.sym = start ∧ 0 ≤ x.2.st ∧ x.2.kind ≠ "root"
structure GrownAt (al : List Way) (start : Str) (depth : Int) (H : Hp) (G : Addr) : Prop where
  ex : ∃ R L us rows labs pt, H G = some (.lst [.ref R, .ref L]) ∧ H R = some (.lst us) ∧ Paired (RwAt H) us rows ∧ H L = some (.lst (labs.map V.str)) ∧ GT al pt ∧ Fl pt depth = rows ∧ labsT al pt "" = labs ∧ rows.length ≤ 100 ∧ ∃ x, rows[0]? = some x ∧ First start x
structure GrSt (al : List Way) (ns ss : List Str) (start : Str) (depth : Int) (r R L T : Addr) (H0 : Hp) (n : Nat) (H : Hp) (ts : List Td) : Prop where
  but : But r H0 H
  reel : ReelAt H r
  nT : H0 T = none
  neR : T ≠ R
  neL : T ≠ L
  tds : ∃ vs, H T = some (.lst vs) ∧ Paired (TdAt H) vs ts.reverse
  few : n + ts.length ≤ 42
  ok : ∀ e ∈ ts, e.2.1 ∈ ns ++ ss ∨ e.2.1 = ""
  ex : ∃ us rows labs, H R = some (.lst us) ∧ Paired (RwAt H) us rows ∧ rows.length = n ∧ H L = some (.lst (labs.map V.str)) ∧ labs.length = n ∧ Pend al depth ts rows labs ∧ (∀ x, rows[0]? = some x → First start x) ∧ (n = 0 → ts = [((depth, start, "") : Td)])
def spGrown : Sp := fun vs H Q _ => ∃ (r a b wl : Addr) (ns ss : List Str) (wus : List V) (al : List Way) (start : Str) (depth : Int), vs = [.ref r, .ref a, .ref b, .ref wl, .str start, .int depth] ∧ ReelAt H r ∧ H a = some (.lst (ns.map V.str)) ∧ H b = some (.lst (ss.map V.str)) ∧ H wl = some (.lst wus) ∧ Paired (WayAt H) wus al ∧
  a ≠ r ∧ b ≠ r ∧ wl ≠ r ∧ (∀ x ∈ ns ++ ss, x ≠ "error" ∧ x ≠ "root" ∧ x ≠ "" ∧ x.length ≤ 100) ∧ (∀ w ∈ al, WayOk ns ss w) ∧ (∀ x ∈ ns, ∃ w ∈ al, w.hd = x) ∧ (∀ x ∈ ns, x ∉ ss) ∧ start ∈ ns ∧ ns.length ≤ 10 ∧ 0 < ss.length ∧ ss.length ≤ 10 ∧ al.length ≤ 30 ∧
  ∀ G H', GrownAt al start depth H' G → But r H H' → ReelAt H' r → H G = none → Q (.ref G) H'
theorem ok_grown (T : Txt K mg) : FnOk P w K mg base CX0 4 T.a_law_grown T.fd_law_grown ["reel", "names", "sorts", "ways", "start", "depth"] spGrown := by
  have G_law_draw : FnOk P w K mg base CX0 1 T.a_law_draw T.fd_law_draw ["reel", "size"] spDraw := ok_draw T
  have G_law_pick : FnOk P w K mg base CX0 2 T.a_law_pick T.fd_law_pick ["reel", "row"] (spPick K) := ok_pick T
  have G_law_leaf_row : FnOk P w K mg base CX0 3 T.a_law_leaf_row T.fd_law_leaf_row ["reel", "level", "symbol", "skipped"] spLeafRow := ok_leaf_row T
  refine T.F_law_grown.ok sc_law_grown (fun vs H Q E h => ?_) (fun cdv A outer s H vs Q E hr h => ?_)
  · obtain ⟨r, a, b, wl, ns, ss, wus, al, start, depth, rfl, _⟩ := h
    rfl
  · have hr_law_draw : Room 1 _ := hr.mono (by decide)
    have hr_law_pick : Room 2 _ := hr.mono (by decide)
    have hr_law_leaf_row : Room 3 _ := hr
    obtain ⟨r, a, b, wl, ns, ss, wus, al, start, depth, rfl, hR, ha, hb, hw, pw, nar, nbr, nwr, kinds, wok, hdw, dis, hst, lns, ls0, lss, lal, q⟩ := h
    refine ⟨_, (pss_cons (ps_set (i := 6) sc_law_grown.nd rfl (.inl rfl) (pe_lst pa_nil))
      (pss_cons (ps_set (i := 7) sc_law_grown.nd rfl (.inl rfl) (pe_lst pa_nil))
      (pss_cons (ps_set (i := 8) sc_law_grown.nd rfl (.inl rfl) (pe_lst (pa_cons (pe_tup (pa_cons (pv 5) (pa_cons (pv 4) (pa_cons pe_str pa_nil)))) pa_nil)))
      (pss_cons (ps_for PassesOwn.never rfl (pi_range1 (by rfl) T.m_range (pa_cons pe_int pa_nil)) (pg_name (i := 9) sc_law_grown.nd rfl (.inl rfl)) (pss_cons (ps_if (pt_not (pt_truth (pv 8) (by intro _; rfl))) (pss_one ps_break) pss_nil)
      (pss_cons (ps_asg (pe_bm0 PySem.F.plainAttrs_list PySem.F.slot_list_pop PySem.F.type_list_pop mt_pop (pv 8)) (pg_tup (by rfl) (pgs_cons (pg_name (i := 10) sc_law_grown.nd rfl (.inr rfl)) (pgs_cons (pg_name (i := 11) sc_law_grown.nd rfl (.inr rfl)) (pgs_cons (pg_name (i := 12) sc_law_grown.nd rfl (.inl rfl)) pgs_nil)))))
      (pss_cons (ps_expr (pe_bm PySem.F.plainAttrs_list PySem.F.slot_list_append PySem.F.type_list_append mt_append (pv 7) (pa_cons (pv 12) pa_nil)))
      (pss_cons (ps_set (i := 13) sc_law_grown.nd rfl (.inl rfl) (pe_lst pa_nil))
      (pss_cons (ps_set (i := 14) sc_law_grown.nd rfl (.inl rfl) (pe_call G_law_draw hr_law_draw (by rfl) T.g_law_draw T.F_law_draw.kp T.b_law_draw .nil pass0 (pa_cons (pv 0) (pa_cons pe_int pa_nil))))
      (pss_cons (ps_set (i := 15) sc_law_grown.nd rfl (.inl rfl) (pe_cmpR op_le (pe_op op_add (pe_callB call_len_seq (by rfl) T.m_len PySem.boot_len (pa_cons (pv 6) pa_nil)) (pe_callB call_len_seq (by rfl) T.m_len PySem.boot_len (pa_cons (pv 8) pa_nil))) pe_int (nomark _)))
      (C8.pss_cut (ps_if (PW.pt (pw_or (pt_cmpR op_in_seq (pv 11) (pv 2) rfl) (pw_or1 (pt_cmpR op_eq (pv 11) pe_str (nomark _))))) (pss_one (ps_expr (pe_bm PySem.F.plainAttrs_list PySem.F.slot_list_append PySem.F.type_list_append mt_append (pv 6) (pa_cons (pe_call G_law_leaf_row hr_law_leaf_row (by rfl) T.g_law_leaf_row T.F_law_leaf_row.kp T.b_law_leaf_row .nil pass0 (pa_cons (pv 0) (pa_cons (pv 10) (pa_cons (pe_orT (pv 11) (pe_one (pe_call G_law_pick hr_law_pick (by rfl) T.g_law_pick T.F_law_pick.kp T.b_law_pick .nil pass0 (pa_cons (pv 0) (pa_cons (pv 2) pa_nil))))) (pa_cons (pe_cmpR op_eq (pv 11) pe_str (nomark _)) pa_nil))))) pa_nil)))) (pss_one (ps_if (PW.pt (pw_or (pt_not (pt_val (pv 15))) (pw_or1 (pt_cmpR op_eq (pe_call G_law_draw hr_law_draw (by rfl) T.g_law_draw T.F_law_draw.kp T.b_law_draw .nil pass0 (pa_cons (pv 0) (pa_cons pe_int pa_nil))) pe_int (nomark _))))) (C8.pss_cut (ps_if (pt_val (pv 15)) (pss_one (ps_setLc (i := 13) (own := [("k", 16)]) (g := gName 16) (by rfl) sc_law_grown.nd rfl rfl (sw_true rfl rfl rfl (by decide +kernel)) (pi_range1 (by rfl) T.m_range (pa_cons (pe_call G_law_draw hr_law_draw (by rfl) T.g_law_draw T.F_law_draw.kp T.b_law_draw .nil pass0 (pa_cons (pv 0) (pa_cons pe_int pa_nil))) pa_nil)) (blkOk_by (own := [("k", 16)]) (N := ["reel", "names", "sorts", "ways", "start", "depth", "rows", "labels", "todo", "turn", "level", "symbol", "label", "below", "number", "room", "k", "at"]) (sc := defScope s_law_grown) (by decide +kernel)) (fun _ _ _ _ _ => pg_name (i := 16) sc_law_grown.nd rfl (Or.inl rfl)) (fun _ _ _ _ _ => pts_nil) (fun _ _ _ _ _ => (pe_tup (pa_cons (pe_op op_add (pv 10) pe_int) (pa_cons (pe_call G_law_pick hr_law_pick (by rfl) T.g_law_pick T.F_law_pick.kp T.b_law_pick .nil pass0 (pa_cons (pv 0) (pa_cons (pe_op op_cat (pv 1) (pv 2)) pa_nil))) (pa_cons pe_str pa_nil))))))) pss_nil)
      (pss_cons (ps_expr (pe_bm PySem.F.plainAttrs_list PySem.F.slot_list_append PySem.F.type_list_append mt_append (pv 6) (pa_cons (pe_tup (pa_cons (pv 10) (pa_cons pe_str (pa_cons (pv 11) (pa_cons (pv 14) (pa_cons pe_int (pa_cons pe_int (pa_cons pe_int (pa_cons (pe_un un_neg pe_int) (pa_cons (pe_callB call_len_seq (by rfl) T.m_len PySem.boot_len (pa_cons (pv 13) pa_nil)) pa_nil)))))))))) pa_nil)))
      (pss_one (ps_if (pt_val (pv 15)) (pss_one (ps_set (i := 13) sc_law_grown.nd rfl (.inl rfl) (pe_op op_cat (pv 13) (pe_op op_rep (pe_lst (pa_cons (pe_tup (pa_cons (pe_op op_add (pv 10) pe_int) (pa_cons pe_str (pa_cons pe_str pa_nil)))) pa_nil)) (pe_call G_law_draw hr_law_draw (by rfl) T.g_law_draw T.F_law_draw.kp T.b_law_draw .nil pass0 (pa_cons (pv 0) (pa_cons pe_int pa_nil))))))) pss_nil)))) (pss_cons (ps_set (i := 17) sc_law_grown.nd rfl (.inr rfl) (pe_call G_law_pick hr_law_pick (by rfl) T.g_law_pick T.F_law_pick.kp T.b_law_pick .nil pass0 (pa_cons (pv 0) (pa_cons (pe_lc (own := [("k", 16)]) (g := gName 16) (by rfl) sc_law_grown.nd (pi_range1 (by rfl) T.m_range (pa_cons (pe_callB call_len_seq (by rfl) T.m_len PySem.boot_len (pa_cons (pv 3) pa_nil)) pa_nil)) (blkOk_by (own := [("k", 16)]) (N := ["reel", "names", "sorts", "ways", "start", "depth", "rows", "labels", "todo", "turn", "level", "symbol", "label", "below", "number", "room", "k", "at"]) (sc := defScope s_law_grown) (by decide +kernel)) (fun _ _ _ _ _ => pg_name (i := 16) sc_law_grown.nd rfl (Or.inl rfl)) (fun _ _ _ _ _ => (pts_one (pt_cmpR op_eq (pe_ix (ix_tupK (K := K) rfl) (pe_ix (ix_listK (K := K) rfl) (pv 3) (pv 16) (fun _ _ => rfl)) pe_int (fun _ _ => rfl)) (pv 11) (nomark _)))) (fun _ _ _ _ _ => (pv 16))) pa_nil))))
      (pss_cons (ps_expr (pe_bm PySem.F.plainAttrs_list PySem.F.slot_list_append PySem.F.type_list_append mt_append (pv 6) (pa_cons (pe_tup (pa_cons (pv 10) (pa_cons (pv 11) (pa_cons (pv 11) (pa_cons (pv 14) (pa_cons pe_int (pa_cons pe_int (pa_cons pe_int (pa_cons (pv 17) (pa_cons pe_int pa_nil)))))))))) pa_nil)))
      (pss_one (ps_setLc (i := 13) (own := [("k", 16)]) (g := gName 16) (by rfl) sc_law_grown.nd rfl rfl (sw_true rfl rfl rfl (by decide +kernel)) (pi_range1 (by rfl) T.m_range (pa_cons (pe_callB call_len_seq (by rfl) T.m_len PySem.boot_len (pa_cons (pe_ix ix_tup (pe_ix ix_list (pv 3) (pv 17) (fun _ _ => rfl)) pe_int (fun _ _ => rfl)) pa_nil)) pa_nil)) (blkOk_by (own := [("k", 16)]) (N := ["reel", "names", "sorts", "ways", "start", "depth", "rows", "labels", "todo", "turn", "level", "symbol", "label", "below", "number", "room", "k", "at"]) (sc := defScope s_law_grown) (by decide +kernel)) (fun _ _ _ _ _ => pg_name (i := 16) sc_law_grown.nd rfl (Or.inl rfl)) (fun _ _ _ _ _ => pts_nil) (fun _ _ _ _ _ => (pe_tup (pa_cons (pe_op op_add (pv 10) pe_int) (pa_cons (pe_ix (ix_tupK (K := K) rfl) (pe_ix (ix_tupK (K := K) rfl) (pe_ix (ix_listK (K := K) rfl) (pv 3) (pv 17) (fun _ _ => rfl)) pe_int (fun _ _ => rfl)) (pv 16) (fun _ _ => rfl)) (pa_cons (pe_ix (ix_tupK (K := K) rfl) (pe_ix (ix_tupK (K := K) rfl) (pe_ix (ix_listK (K := K) rfl) (pv 3) (pv 17) (fun _ _ => rfl)) pe_int (fun _ _ => rfl)) (pv 16) (fun _ _ => rfl)) pa_nil))))))))))))
      (pss_cons (ps_expr (pe_bm0 PySem.F.plainAttrs_list PySem.F.slot_list_reverse PySem.F.type_list_reverse mt_reverse (pv 13)))
      (pss_one (ps_set (i := 8) sc_law_grown.nd rfl (.inl rfl) (pe_op op_cat (pv 8) (pv 13)))))))))))))
      (pss_one (ps_ret (pe_lst (pa_cons (pv 6) (pa_cons (pv 7) pa_nil))))))))), ?_⟩
    have lnm : (ns.map V.str).length = ns.length := List.length_map ..
    have lsm : (ss.map V.str).length = ss.length := List.length_map ..
    refine ⟨by show 0 ≤ sizeLine; decide, fun R nR => ⟨by show 0 ≤ sizeLine; decide, fun L nL => ?_⟩⟩
    have s1 := same_upd (o := .lst []) nR
    have s2 := s1.trans (same_upd (o := .lst []) nL)
    have nL0 : H L = none := s1.free nL
    have nRL : R ≠ L := ne_of_none (show (upd H R (.lst [])) R = some (.lst []) from upd_same) nL
    refine ⟨_, rfl, _, rfl, by show 3 ≤ sizeLine; decide, fun g0 ng0 => ⟨by show 1 ≤ sizeLine; decide, fun T0 nT0 => ?_⟩⟩
    have s3 := s2.trans (same_upd (o := .tup [.int depth, .str start, .str ""]) ng0)
    have s4 := s3.trans (same_upd (o := .lst [.ref g0]) nT0)
    have nRr : R ≠ r := (hR.ne nR).symm
    have nLr : L ≠ r := (hR.ne nL0).symm
    have hR3 : (upd (upd (upd H R (.lst [])) L (.lst [])) g0 (.tup [.int depth, .str start, .str ""])) R = some (.lst []) := by
      rw [upd_ne (fun z => by rw [← z, upd_ne nRL, upd_same] at ng0; cases ng0), upd_ne nRL, upd_same]
    have hL3 : (upd (upd (upd H R (.lst [])) L (.lst [])) g0 (.tup [.int depth, .str start, .str ""])) L = some (.lst []) := by
      rw [upd_ne (fun z => by rw [← z, upd_same] at ng0; cases ng0), upd_same]
    have nTR : T0 ≠ R := fun z => by rw [z, hR3] at nT0; cases nT0
    have nTL : T0 ≠ L := fun z => by rw [z, hL3] at nT0; cases nT0
    refine ⟨_, rfl, by decide, by decide, ?_⟩
    refine for_range (lo := 0) (n := (100 : Int).toNat) (fun n σ H' => ∃ (T1 : Addr) (ts : List Td) (y9 y10 y11 y12 y13 y14 y15 y17 : Option V), σ = [some (.ref r), some (.ref a), some (.ref b), some (.ref wl), some (.str start), some (.int depth), some (.ref R), some (.ref L), some (.ref T1), y9, y10, y11, y12, y13, y14, y15, none, y17] ∧ GrSt al ns ss start depth r R L T1 H n H' ts)
      ⟨T0, [(depth, start, "")], none, none, none, none, none, none, none, none, rfl, ⟨.of s4, hR.same s4, s3.free nT0, nTR, nTL, ⟨_, upd_same, .cons ⟨g0, rfl, ?_⟩ .nil⟩, by show 0 + 1 ≤ 42; decide, fun e he => .inl ?_, [], [], [], ?_, .nil, rfl, ?_, rfl, Pend.start al depth start, fun x hx => (by cases hx), fun _ => rfl⟩⟩ ?_ ?_
    · exact tups_new nT0 _ _ upd_same
    · rw [List.mem_singleton.mp he]
      exact List.mem_append_left _ hst
    · rw [upd_ne nTR.symm]
      exact hR3
    · rw [upd_ne nTL.symm]
      exact hL3
    · rintro n σ H1 hi ⟨T1, ts, y9, y10, y11, y12, y13, y14, y15, y17, rfl, S⟩
      obtain ⟨vs, hT, pv⟩ := S.tds
      have lpv := paired_len pv
      rw [List.length_reverse] at lpv
      obtain ⟨us, rows, labs, hR1, pr, lrw, hL1, llb, PD, fst, zr⟩ := S.ex
      cases ts with
      | nil =>
        obtain rfl : vs = [] := List.eq_nil_of_length_eq_zero (by rw [lpv]; rfl)
        refine ts_if (A := True) (fun Q q => ⟨_, rfl, false, .inl ⟨_, SqL.of hT, rfl⟩, q _ (by simp)⟩) (fun _ => ?_) (fun z => absurd True.intro z)
        refine ⟨_, rfl, _, rfl, by show 2 ≤ sizeLine; decide, fun G nG => ?_⟩
        have sG := same_upd (o := .lst [.ref R, .ref L]) nG
        obtain ⟨pt, g1, g2, g3⟩ := PD.done
        have few := S.few
        have n0 : 0 < rows.length := by
          rw [lrw]
          refine Nat.pos_of_ne_zero fun z => ?_
          have := zr z
          cases this
        refine q G _ ⟨R, L, us, rows, labs, pt, upd_same, sG _ _ hR1, Paired.mapP pr fun _ _ x => x.tups fun b xs e => sG b _ e, sG _ _ hL1, g1, g2, g3, ?_, rows[0], List.getElem?_eq_getElem n0, fst _ (List.getElem?_eq_getElem n0)⟩ (S.but.trans (.of sG)) (S.reel.same sG) (S.but.free ?_ nG)
        · have : n + 0 ≤ 42 := few
          omega
        · exact (S.reel.ne nG).symm
      | cons e ts =>
        obtain ⟨lv, sy, lab⟩ := e
        have few := S.few
        rw [List.length_cons] at few
        have b1 := S.but
        have R1 := S.reel
        have nTr : T1 ≠ r := (hR.ne S.nT).symm
        refine ts_if (A := False) (fun Q q => ⟨_, rfl, true, .inl ⟨_, SqL.of hT, ?_⟩, q _ (by simp)⟩) (fun z => z.elim) (fun _ => ?_)
        · cases vs with
          | nil =>
            rw [List.length_cons] at lpv
            cases lpv
          | cons v vs => rfl
        rw [List.reverse_cons] at pv
        obtain ⟨vs', v, rfl, pv', gx, rfl, hgx⟩ := pop_last_td _ _ pv
        refine ⟨_, rfl, .inl ⟨rfl, _, SqL.of hT⟩, T1, _, .ref gx, rfl, rfl, hT, last_of _ _, ?_⟩
        rw [List.dropLast_concat]
        have lus := paired_len pr
        have lvs' := paired_len pv'
        rw [List.length_reverse] at lvs'
        have t2 := tups_lst (o := .lst vs') hT
        have hgx2 := t2 _ _ hgx
        have hL2 : (upd H1 T1 (.lst vs')) L = some (.lst (labs.map V.str)) := by rw [upd_ne S.neL.symm]; exact hL1
        have hR2 : (upd H1 T1 (.lst vs')) R = some (.lst us) := by rw [upd_ne S.neR.symm]; exact hR1
        refine ⟨gx, _, rfl, SqT.of hgx2, rfl, _, _, rfl, _, _, rfl, _, _, rfl, rfl, ?_⟩
        refine ⟨_, rfl, .inl ⟨rfl, _, SqL.of hL2⟩, _, rfl, L, _, _, rfl, rfl, hL2, sz2 (by rw [List.length_map]; omega), ?_⟩
        have t3 := t2.trans (tups_lst (o := .lst (labs.map V.str ++ [.str lab])) hL2)
        have b3 : But r H (upd (upd H1 T1 (.lst vs')) L (.lst (labs.map V.str ++ [.str lab]))) := (b1.updN S.nT).updN nL0
        have R3 : ReelAt (upd (upd H1 T1 (.lst vs')) L (.lst (labs.map V.str ++ [.str lab]))) r := (R1.updN nTr).updN nLr
        have hT3 : (upd (upd H1 T1 (.lst vs')) L (.lst (labs.map V.str ++ [.str lab]))) T1 = some (.lst vs') := by rw [upd_ne S.neL, upd_same]
        have hR3 : (upd (upd H1 T1 (.lst vs')) L (.lst (labs.map V.str ++ [.str lab]))) R = some (.lst us) := by rw [upd_ne nRL]; exact hR2
        have hL3 : (upd (upd H1 T1 (.lst vs')) L (.lst (labs.map V.str ++ [.str lab]))) L = some (.lst ((labs ++ [lab]).map V.str)) := by
          rw [upd_same, List.map_append]
          rfl
        obtain ⟨H3, hH3⟩ : ∃ H3, H3 = upd (upd H1 T1 (.lst vs')) L (.lst (labs.map V.str ++ [.str lab])) := ⟨_, rfl⟩
        rw [← hH3] at t3 b3 R3 hT3 hR3 hL3 ⊢
        refine ⟨by show 0 ≤ sizeLine; decide, fun bl nbl => ?_⟩
        have nblr : bl ≠ r := (R3.ne nbl).symm
        have nblT : bl ≠ T1 := fun z => by rw [z, hT3] at nbl; cases nbl
        have nblR : bl ≠ R := fun z => by rw [z, hR3] at nbl; cases nbl
        have nblL : bl ≠ L := fun z => by rw [z, hL3] at nbl; cases nbl
        have nbl0 : H bl = none := b3.free nblr nbl
        refine ⟨_, rfl, r, 40, rfl, R3.new nbl, by decide, fun num H5 num0 num1 b5 R5 => ?_⟩
        have b35 : But r H3 H5 := (But.new nbl).trans b5
        have hbl5 := b5 _ _ nblr upd_same
        have hT5 := b35 _ _ nTr hT3
        have hR5 := b35 _ _ nRr hR3
        have hL5 := b35 _ _ nLr hL3
        have B5 := b3.trans b35
        have t5 := t3.trans (b35.tups R3)
        have pr5 : Paired (RwAt H5) us rows := Paired.mapP pr fun _ _ x => x.tups t5
        have pv5 : Paired (TdAt H5) vs' ts.reverse := Paired.mapP pv' fun _ _ x => x.tups t5
        have oks : ∀ e ∈ ts, e.2.1 ∈ ns ++ ss ∨ e.2.1 = "" := fun e he => S.ok e (List.mem_cons_of_mem _ he)
        have oky : sy ∈ ns ++ ss ∨ sy = "" := S.ok _ List.mem_cons_self
        have z0 : n = 0 → lv = depth ∧ sy = start ∧ ts = [] := fun z => by
          have := zr z
          injection this with h1 h2
          injection h1 with h1 h3
          injection h3 with h3 _
          exact ⟨h1, h3, h2⟩
        have nT0 := S.nT
        have nTR := S.neR
        have nTL := S.neL
        refine ⟨_, rfl, R, _, rfl, .inl (SqL.of hR5), _, rfl, T1, _, rfl, .inl (SqL.of hT5), _, _, rfl, rfl, _, _, rfl, rfl, ?_⟩
        rw [lus, lrw, lvs']
        clear t2 t3 hgx2 hL2 hR2 b3 R3 hT3 hR3 hL3 b35 b5 hgx pv pv' S hH3 hT hR1 hL1 pr b1 R1 zr lpv nbl
        refine ⟨fun σ H' => ∃ (bl : Addr) (bs : List Td) (d : Nd) (us2 bv : List V) (y14 y15 y17 : Option V), σ = [some (.ref r), some (.ref a), some (.ref b), some (.ref wl), some (.str start), some (.int depth), some (.ref R), some (.ref L), some (.ref T1), some (.int (0 + (n : Int))), some (.int lv), some (.str sy), some (.str lab), some (.ref bl), y14, y15, none, y17] ∧
            But r H H' ∧ ReelAt H' r ∧ H' T1 = some (.lst vs') ∧ Paired (TdAt H') vs' ts.reverse ∧ H' R = some (.lst us2) ∧ Paired (RwAt H') us2 (rows ++ [(lv, d)]) ∧ H' L = some (.lst ((labs ++ [lab]).map V.str)) ∧ (H bl = none ∧ bl ≠ r ∧ bl ≠ T1 ∧ bl ≠ R ∧ bl ≠ L) ∧ H' bl = some (.lst bv) ∧ Paired (TdAt H') bv bs ∧ n + 1 + (bs.length + ts.length) ≤ 42 ∧
            (∀ e ∈ bs, e.2.1 ∈ ns ++ ss ∨ e.2.1 = "") ∧ (0 ≤ d.alt → ∃ w, al[d.alt.toNat]? = some w ∧ w.lb.length = bs.length) ∧ (leafB d = true → bs = [] ∧ 0 ≤ d.wid) ∧ (∀ b ∈ bs, b.1 = lv + 1) ∧ (bs.map fun b => b.2.2) = labsOf al d bs.length ∧ (n = 0 → First start (lv, d)), ?_, ?_⟩
        · refine ts_ite (A := sy ∈ ss ∨ sy = "") (Ts.or (fun Q q => ⟨_, rfl, _, rfl, b, _, rfl, .inl (SqL.of (B5 _ _ nbr hb)), rfl, flat_strs _, _, rfl, q _ (by show inV (.str sy) (ss.map V.str) = true ↔ _; rw [inV_strs, decide_eq_true_eq])⟩) fun _ Q q => ⟨_, rfl, rfl, _, rfl, q _ (by rw [decS, decide_eq_true_eq])⟩) (fun hc => ?_) (fun hc => ?_)
          · have n0 : n ≠ 0 := fun z => by
              obtain ⟨_, e, _⟩ := z0 z
              rw [e] at hc
              rcases hc with hc | hc
              · exact dis _ hst hc
              · exact (kinds _ (List.mem_append_left _ hst)).2.2.1 hc
            have fin : ∀ (v : V) (d : Nd) (H6 : Hp), RwAt H6 v (lv, d) → leafB d = true → 0 ≤ d.wid → d.alt = -1 → But r H5 H6 → ReelAt H6 r → ∀ σ : L2.St, (∃ y14 y15 y17 : Option V, σ = [some (.ref r), some (.ref a), some (.ref b), some (.ref wl), some (.str start), some (.int depth), some (.ref R), some (.ref L), some (.ref T1), some (.int (0 + (n : Int))), some (.int lv), some (.str sy), some (.str lab), some (.ref bl), y14, y15, none, y17]) → ∃ (bl : Addr) (bs : List Td) (d : Nd) (us2 bv : List V) (y14 y15 y17 : Option V), σ = [some (.ref r), some (.ref a), some (.ref b), some (.ref wl), some (.str start), some (.int depth), some (.ref R), some (.ref L), some (.ref T1), some (.int (0 + (n : Int))), some (.int lv), some (.str sy), some (.str lab), some (.ref bl), y14, y15, none, y17] ∧
            But r H (upd H6 R (.lst (us ++ [v]))) ∧ ReelAt (upd H6 R (.lst (us ++ [v]))) r ∧ (upd H6 R (.lst (us ++ [v]))) T1 = some (.lst vs') ∧ Paired (TdAt (upd H6 R (.lst (us ++ [v])))) vs' ts.reverse ∧ (upd H6 R (.lst (us ++ [v]))) R = some (.lst us2) ∧ Paired (RwAt (upd H6 R (.lst (us ++ [v])))) us2 (rows ++ [(lv, d)]) ∧ (upd H6 R (.lst (us ++ [v]))) L = some (.lst ((labs ++ [lab]).map V.str)) ∧ (H bl = none ∧ bl ≠ r ∧ bl ≠ T1 ∧ bl ≠ R ∧ bl ≠ L) ∧ (upd H6 R (.lst (us ++ [v]))) bl = some (.lst bv) ∧ Paired (TdAt (upd H6 R (.lst (us ++ [v])))) bv bs ∧ n + 1 + (bs.length + ts.length) ≤ 42 ∧
            (∀ e ∈ bs, e.2.1 ∈ ns ++ ss ∨ e.2.1 = "") ∧ (0 ≤ d.alt → ∃ w, al[d.alt.toNat]? = some w ∧ w.lb.length = bs.length) ∧ (leafB d = true → bs = [] ∧ 0 ≤ d.wid) ∧ (∀ b ∈ bs, b.1 = lv + 1) ∧ (bs.map fun b => b.2.2) = labsOf al d bs.length ∧ (n = 0 → First start (lv, d)) := fun v d H6 hv h1 h2 h3 b6 R6 σ ⟨y14, y15, y17, e⟩ => by
              have hR6 := b6 _ _ nRr hR5
              have t6 := (b6.tups R5).trans (tups_lst (o := .lst (us ++ [v])) hR6)
              refine ⟨bl, [], d, us ++ [v], [], y14, y15, y17, e, (B5.trans b6).updN nR, R6.updN nRr, by rw [upd_ne nTR]; exact b6 _ _ nTr hT5, Paired.mapP pv5 fun _ _ x => x.tups t6, upd_same, paired_app (Paired.mapP pr5 fun _ _ x => x.tups t6) (.cons (hv.tups (tups_lst hR6)) .nil), by rw [upd_ne nRL.symm]; exact b6 _ _ nLr hL5, ⟨nbl0, nblr, nblT, nblR, nblL⟩, by rw [upd_ne nblR]; exact b6 _ _ nblr hbl5, .nil, by show n + 1 + (0 + _) ≤ 42; omega, fun e he => absurd he List.not_mem_nil, fun z => (by omega), fun _ => ⟨rfl, h2⟩, fun b hb => absurd hb List.not_mem_nil, ?_, fun z => absurd z n0⟩
              unfold labsOf
              rw [if_neg (by omega)]
              rfl
            refine ⟨_, rfl, .inl ⟨rfl, _, SqL.of hR5⟩, _, rfl, _, rfl, ?_⟩
            have lsy : sy.length ≤ 100 := by
              rcases oky with h | h
              · exact (kinds _ h).2.2.2
              · rw [h]
                exact Nat.zero_le _
            refine or_any rfl lsy (fun e => ?_) (fun e => ?_)
            · refine ⟨_, rfl, _, rfl, r, _, rfl, R5, .inr ⟨b, _, rfl, nbr, SqL.of (B5 _ _ nbr hb), by omega, fun m H6 hm b6 R6 => ?_⟩⟩
              obtain ⟨x, hx, rfl⟩ := List.mem_map.mp hm
              have kx := kinds x (List.mem_append_right _ hx)
              refine ⟨_, rfl, rfl, r, lv, x, _, rfl, R6, kx.1, kx.2.1, fun v d H7 hv h1 h2 _ h3 b7 R7 => ?_⟩
              exact ⟨R, _, _, rfl, rfl, b7 _ _ nRr (b6 _ _ nRr hR5), sz2 (by omega), fin v d H7 hv h1 h2 h3 (b6.trans b7) R7 _ ⟨_, _, _, rfl⟩⟩
            · have kx := kinds sy (oky.resolve_right e)
              refine ⟨_, rfl, rfl, r, lv, sy, _, rfl, R5, kx.1, kx.2.1, fun v d H7 hv h1 h2 _ h3 b7 R7 => ?_⟩
              exact ⟨R, _, _, rfl, rfl, b7 _ _ nRr hR5, sz2 (by omega), fin v d H7 hv h1 h2 h3 b7 R7 _ ⟨_, _, _, rfl⟩⟩
          · have hsy : sy ∈ ns ++ ss := oky.resolve_right fun z => hc (.inr z)
            obtain ⟨rm, hrm⟩ : ∃ rm, rm = decide ((n : Int) + (ts.length : Int) ≤ 36) := ⟨_, rfl⟩
            refine at_state (σ2 := [some (.ref r), some (.ref a), some (.ref b), some (.ref wl), some (.str start), some (.int depth), some (.ref R), some (.ref L), some (.ref T1), some (.int (0 + (n : Int))), some (.int lv), some (.str sy), some (.str lab), some (.ref bl), some (.int num), some (.bl rm), none, y17]) (by rw [hrm]; rfl) ?_
            refine if_ev2 (fun H' => But r H5 H' ∧ ReelAt H' r) (rm = true) (fun Qb qt qf => ?_) (fun H6 ⟨b6, R6⟩ => ?_) (fun H6 ⟨b6, R6⟩ hrt => ?_)
            · refine ⟨_, rfl, rm, rfl, ?_⟩
              cases rm with
              | false => exact iteT (qt _ ⟨.refl _ _, R5⟩)
              | true =>
                refine iteF ⟨_, rfl, r, 7, rfl, R5, by decide, fun f H6 f0 f1 b6 R6 => ⟨rfl, _, rfl, ?_⟩⟩
                cases decide (V.int f = V.int 0) with
                | true => exact qt _ ⟨b6, R6⟩
                | false => exact qf _ ⟨b6, R6⟩ rfl
            · have B6 := B5.trans b6
              refine ⟨fun σ H' => ∃ (bl : Addr) (bs : List Td) (bv : List V), σ = [some (.ref r), some (.ref a), some (.ref b), some (.ref wl), some (.str start), some (.int depth), some (.ref R), some (.ref L), some (.ref T1), some (.int (0 + (n : Int))), some (.int lv), some (.str sy), some (.str lab), some (.ref bl), some (.int num), some (.bl rm), none, y17] ∧ But r H6 H' ∧ ReelAt H' r ∧ (H bl = none ∧ bl ≠ r ∧ bl ≠ T1 ∧ bl ≠ R ∧ bl ≠ L) ∧ H' bl = some (.lst bv) ∧ Paired (TdAt H') bv bs ∧ bs.length ≤ (if rm = true then 2 else 0) ∧ ∀ e ∈ bs, e.1 = lv + 1 ∧ e.2.1 ∈ ns ++ ss ∧ e.2.2 = "", ?_, ?_⟩
              · refine ⟨_, rfl, rm, rfl, ?_⟩
                cases rm with
                | false => exact iteF ⟨bl, [], [], rfl, .refl _ _, R6, ⟨nbl0, nblr, nblT, nblR, nblL⟩, b6 _ _ nblr hbl5, .nil, Nat.le_refl _, fun e he => absurd he List.not_mem_nil⟩
                | true =>
                  refine iteT ⟨_, rfl, r, 3, rfl, R6, by decide, fun v H7 v0 v1 b7 R7 => ⟨_, rfl, by omega, by omega, fun p np => ?_⟩⟩
                  have npr : p ≠ r := (R7.ne np).symm
                  have B7 := B6.trans b7
                  have b57 := b6.trans b7
                  refine lc_range (lo := 0) (n := v.toNat) (fun j H' => But r H7 H' ∧ ReelAt H' r ∧ ∃ (bv : List V) (bs : List Td), H' p = some (.lst bv) ∧ Paired (TdAt H') bv bs ∧ bs.length = j ∧ ∀ e ∈ bs, e.1 = lv + 1 ∧ e.2.1 ∈ ns ++ ss ∧ e.2.2 = "") ⟨.new np, R7.new np, [], [], upd_same, .nil, rfl, fun e he => absurd he List.not_mem_nil⟩ ?_ ?_
                  · rintro j H8 hj ⟨b8, R8, bv, bs, hp, pb, lbs, ob⟩
                    have B8 := B7.trans b8
                    have lbv := paired_len pb
                    refine ⟨rfl, _, rfl, _, _, rfl, rfl, _, rfl, _, rfl, _, rfl, a, b, _, _, rfl, rfl, B8 _ _ nar ha, B8 _ _ nbr hb, szM (by omega), fun c nc => ⟨r, .ref c, rfl, R8.new nc, .inr ⟨c, _, rfl, (R8.ne nc).symm, SqL.of upd_same, by rw [List.length_append]; omega, fun m H9 hm b9 R9 => ⟨by show 3 ≤ sizeLine; decide, fun g ng => ?_⟩⟩⟩⟩
                    rw [← List.map_append] at hm
                    obtain ⟨x, hx, rfl⟩ := List.mem_map.mp hm
                    have b89 : But r H8 H9 := (But.new nc).trans b9
                    have hp9 := b89 _ _ npr hp
                    have sg := same_upd (o := .tup [.int (lv + 1), .str x, .str ""]) ng
                    have t9 := ((b89.tups R8).trans (tups_new (o := .tup [.int (lv + 1), .str x, .str ""]) ng)).trans (tups_lst (o := .lst (bv ++ [.ref g])) (sg _ _ hp9))
                    refine ⟨_, sg _ _ hp9, sz2 (by omega), ((b8.trans b89).trans (.of sg)).updN np, (R9.same sg).updN npr, bv ++ [.ref g], bs ++ [((lv + 1, x, "") : Td)], upd_same, paired_app (Paired.mapP pb fun _ _ z => z.tups t9) (.cons ⟨g, rfl, tups_lst (sg _ _ hp9) _ _ upd_same⟩ .nil), by rw [List.length_append, lbs]; rfl, fun e he => ?_⟩
                    rcases List.mem_append.mp he with h | h
                    · exact ob e h
                    · rw [List.mem_singleton.mp h]
                      exact ⟨rfl, hx, rfl⟩
                  rintro H8 ⟨b8, R8, bv, bs, hp, pb, lbs, ob⟩
                  exact ⟨p, bs, bv, rfl, b7.trans b8, R8, ⟨B7.free npr np, npr, fun z => (by rw [z, b57 _ _ nTr hT5] at np; cases np), fun z => (by rw [z, b57 _ _ nRr hR5] at np; cases np), fun z => (by rw [z, b57 _ _ nLr hL5] at np; cases np)⟩, hp, pb, by show bs.length ≤ 2; omega, ob⟩
              · rintro σ H7 ⟨bl, bs, bv, rfl, b7, R7, ⟨nbl0, nblr, nblT, nblR, nblL⟩, hbl7, pb7, lbs, obs⟩
                have b57 := b6.trans b7
                have B7 := B5.trans b57
                have hR7 := b57 _ _ nRr hR5
                have hT7 := b57 _ _ nTr hT5
                have hL7 := b57 _ _ nLr hL5
                have t57 := b57.tups R5
                have lbv := paired_len pb7
                have lb2 : bs.length ≤ 2 := by
                  refine Nat.le_trans lbs ?_
                  split <;> omega
                refine ⟨_, rfl, .inl ⟨rfl, _, SqL.of hR7⟩, _, rfl, _, rfl, _, rfl, 1, rfl, _, rfl, bl, _, rfl, .inl (SqL.of hbl7), by show 9 ≤ sizeLine; decide, fun g ng => ?_⟩
                obtain ⟨d, hd⟩ : ∃ d : Nd, d = ⟨"error", sy, num, 0, 0, 9, -1, (bv.length : Int)⟩ := ⟨_, rfl⟩
                have hrow : (HO.tup [V.int lv, V.str "error", V.str sy, V.int num, V.int 0, V.int 0, V.int 9, (fun i => V.int (-i)) 1, V.int (bv.length : Int)]) = HO.tup (rwV (lv, d)) := by
                  rw [hd]
                  rfl
                rw [hrow]
                have s8 := same_upd (o := .tup (rwV (lv, d))) ng
                have hR8 := s8 _ _ hR7
                refine ⟨R, _, _, rfl, rfl, hR8, sz2 (by omega), ?_⟩
                have t79 : Tups H7 (upd (upd H7 g (.tup (rwV (lv, d)))) R (.lst (us ++ [.ref g]))) := (tups_new ng).trans (tups_lst hR8)
                have hg9 : (upd (upd H7 g (.tup (rwV (lv, d)))) R (.lst (us ++ [.ref g]))) g = some (.tup (rwV (lv, d))) := tups_lst hR8 _ _ upd_same
                have hT9 : (upd (upd H7 g (.tup (rwV (lv, d)))) R (.lst (us ++ [.ref g]))) T1 = some (.lst vs') := by rw [upd_ne nTR]; exact s8 _ _ hT7
                have hL9 : (upd (upd H7 g (.tup (rwV (lv, d)))) R (.lst (us ++ [.ref g]))) L = some (.lst ((labs ++ [lab]).map V.str)) := by rw [upd_ne nRL.symm]; exact s8 _ _ hL7
                have hb9 : (upd (upd H7 g (.tup (rwV (lv, d)))) R (.lst (us ++ [.ref g]))) bl = some (.lst bv) := by rw [upd_ne nblR]; exact s8 _ _ hbl7
                have hR9 : (upd (upd H7 g (.tup (rwV (lv, d)))) R (.lst (us ++ [.ref g]))) R = some (.lst (us ++ [.ref g])) := upd_same
                have B9 : But r H (upd (upd H7 g (.tup (rwV (lv, d)))) R (.lst (us ++ [.ref g]))) := (B7.trans (.of s8)).updN nR
                have R9 : ReelAt (upd (upd H7 g (.tup (rwV (lv, d)))) R (.lst (us ++ [.ref g]))) r := (R7.same s8).updN nRr
                obtain ⟨H9, hH9⟩ : ∃ H9, H9 = upd (upd H7 g (.tup (rwV (lv, d)))) R (.lst (us ++ [.ref g])) := ⟨_, rfl⟩
                rw [← hH9] at t79 hg9 hT9 hL9 hb9 hR9 B9 R9 ⊢
                have t59 := t57.trans t79
                have pr9 : Paired (RwAt H9) (us ++ [.ref g]) (rows ++ [(lv, d)]) := paired_app (Paired.mapP pr5 fun _ _ x => x.tups t59) (.cons ⟨g, rfl, hg9⟩ .nil)
                have pv9 : Paired (TdAt H9) vs' ts.reverse := Paired.mapP pv5 fun _ _ x => x.tups t59
                have pb9 : Paired (TdAt H9) bv bs := Paired.mapP pb7 fun _ _ x => x.tups t79
                have hal : d.alt = -1 := by rw [hd]
                have hlf : leafB d = false := by
                  rw [hd]
                  unfold leafB
                  simp
                have hfst : n = 0 → First start (lv, d) := fun z => by
                  obtain ⟨_, e, _⟩ := z0 z
                  rw [hd]
                  exact ⟨e, num0, show ("error" : Str) ≠ "root" by decide +kernel⟩
                have lbl : ∀ bs' : List Td, (∀ e ∈ bs', e.2.2 = "") → (bs'.map fun b => b.2.2) = labsOf al d bs'.length := fun bs' h => by
                  unfold labsOf
                  rw [if_neg (by omega)]
                  refine List.eq_replicate_iff.mpr ⟨List.length_map .., fun x hx => ?_⟩
                  obtain ⟨e, he, rfl⟩ := List.mem_map.mp hx
                  exact h e he
                refine ⟨_, rfl, rm, rfl, ?_⟩
                cases rm with
                | false =>
                  have lb0 : bs.length = 0 := Nat.le_zero.mp lbs
                  exact iteF ⟨bl, bs, d, _, bv, _, _, _, rfl, B9, R9, hT9, pv9, hR9, pr9, hL9, ⟨nbl0, nblr, nblT, nblR, nblL⟩, hb9, pb9, by omega, fun e he => .inl (obs e he).2.1, fun z => (by omega), fun z => (by rw [hlf] at z; cases z), fun e he => (obs e he).1, lbl bs fun e he => (obs e he).2.2, hfst⟩
                | true =>
                  have hroom : (n : Int) + (ts.length : Int) ≤ 36 := of_decide_eq_true hrm.symm
                  refine iteT ⟨_, rfl, _, rfl, _, _, rfl, rfl, by show 3 ≤ sizeLine; decide, fun g2 ng2 => ⟨by show 1 ≤ sizeLine; decide, fun p2 np2 => ?_⟩⟩
                  have s10 := same_upd (o := .tup [.int (lv + 1), .str "", .str ""]) ng2
                  have s11 := s10.trans (same_upd (o := .lst [.ref g2]) np2)
                  have np2r : p2 ≠ r := ((R9.new ng2).ne np2).symm
                  have hg11 : (upd (upd H9 g2 (.tup [.int (lv + 1), .str "", .str ""])) p2 (.lst [.ref g2])) g2 = some (.tup [.int (lv + 1), .str "", .str ""]) := (same_upd (o := .lst [.ref g2]) np2) _ _ upd_same
                  have hp11 : (upd (upd H9 g2 (.tup [.int (lv + 1), .str "", .str ""])) p2 (.lst [.ref g2])) p2 = some (.lst [.ref g2]) := upd_same
                  obtain ⟨H11, hH11⟩ : ∃ H11, H11 = upd (upd H9 g2 (.tup [.int (lv + 1), .str "", .str ""])) p2 (.lst [.ref g2]) := ⟨_, rfl⟩
                  rw [← hH11] at s11 hg11 hp11 ⊢
                  have R11 := R9.same s11
                  refine ⟨_, rfl, r, 3, rfl, R11, by decide, fun v H12 v0 v1 b12 R12 => ?_⟩
                  have b92 : But r H9 H12 := (But.of s11).trans b12
                  have hp12 := b12 _ _ np2r hp11
                  refine ⟨p2, _, _, rfl, rfl, hp12, by omega, by omega, szM (by show 1 * v.toNat ≤ _; omega), fun q1 nq1 => ?_⟩
                  rw [flat_rep]
                  have s13 := same_upd (o := .lst (List.replicate v.toNat (V.ref g2))) nq1
                  have hb12 := b92 _ _ nblr hb9
                  refine ⟨bl, q1, _, _, rfl, rfl, s13 _ _ hb12, upd_same, szM (by rw [List.length_replicate]; omega), fun z nz => ?_⟩
                  have s14 := s13.trans (same_upd (o := .lst (bv ++ List.replicate v.toNat (V.ref g2))) nz)
                  have b914 : But r H9 _ := b92.trans (.of s14)
                  have R14 := R12.same s14
                  have t914 := b914.tups R9
                  have tg : Tups H11 _ := (b12.tups R11).trans fun b xs e => s14 b _ e
                  have nzr : z ≠ r := ((R12.new nq1).ne nz).symm
                  have bz : But r H9 _ := b92.trans (.of s13)
                  have hzn : ∀ {x : Addr} {o : HO}, x ≠ r → H9 x = some o → z ≠ x := fun {x o} hx ho e => by
                    rw [e, bz _ _ hx ho] at nz
                    cases nz
                  refine ⟨z, bs ++ List.replicate v.toNat ((lv + 1, "", "") : Td), d, _, _, _, _, _, rfl, B9.trans b914, R14, b914 _ _ nTr hT9, Paired.mapP pv9 fun _ _ x => x.tups t914, b914 _ _ nRr hR9, Paired.mapP pr9 fun _ _ x => x.tups t914, b914 _ _ nLr hL9, ⟨(B9.trans bz).free nzr nz, nzr, hzn nTr hT9, hzn nRr hR9, hzn nLr hL9⟩, upd_same,
                    paired_app (Paired.mapP pb9 fun _ _ x => x.tups t914) (paired_rep ⟨g2, rfl, tg _ _ hg11⟩ _), ?_, fun e he => ?_, fun z => (by omega), fun z => (by rw [hlf] at z; cases z), fun e he => ?_, lbl _ fun e he => ?_, hfst⟩
                  · rw [List.length_append, List.length_replicate]
                    omega
                  · rcases List.mem_append.mp he with h | h
                    · exact .inl (obs e h).2.1
                    · rw [(List.mem_replicate.mp h).2]
                      exact .inr rfl
                  · rcases List.mem_append.mp he with h | h
                    · exact (obs e h).1
                    · rw [(List.mem_replicate.mp h).2]
                  · rcases List.mem_append.mp he with h | h
                    · exact (obs e h).2.2
                    · rw [(List.mem_replicate.mp h).2]
            · have B6 := B5.trans b6
              have hns : sy ∈ ns := by
                rcases List.mem_append.mp hsy with h | h
                · exact h
                · exact absurd (.inl h) hc
              have hw6 := B6 _ _ nwr hw
              have pw6 : Paired (WayAt H6) wus al := Paired.mapP pw fun _ _ x => x.tups (B6.tups hR)
              have lw := paired_len pw
              have hroom : (n : Int) + (ts.length : Int) ≤ 36 := of_decide_eq_true (hrm.symm.trans hrt)
              refine ⟨_, rfl, _, rfl, wl, _, rfl, .inl (SqL.of hw6), _, rfl, by omega, by omega, fun p np => ?_⟩
              have npr : p ≠ r := (R6.ne np).symm
              refine lc_range (lo := 0) (n := ((wus.length : Nat) : Int).toNat) (fun j H' => Same H6 H' ∧ ∃ ks : List Nat, H' p = some (.lst ((natsZ ks).map V.int)) ∧ ks.length ≤ j ∧ (∀ k ∈ ks, ∃ w, al[k]? = some w ∧ w.hd = sy) ∧ ∀ k w, k < j → al[k]? = some w → w.hd = sy → k ∈ ks) ⟨same_upd np, [], upd_same, Nat.le_refl _, fun k hk => absurd hk List.not_mem_nil, fun k w hk => absurd hk (Nat.not_lt_zero _)⟩ ?_ ?_
              · rintro j H7 hj ⟨s7, ks, hp, lks, hks, cks⟩
                have hja : j < al.length := by omega
                obtain ⟨w, hwj⟩ : ∃ w, al[j]? = some w := ⟨_, List.getElem?_eq_getElem hja⟩
                obtain ⟨v, hv, gw, sw, lw2, rfl, h1, h2, h3⟩ := paired_get pw6 hwj
                have ej : (0 : Int) + (j : Int) = ((j : Nat) : Int) := by omega
                rw [ej]
                refine ⟨rfl, _, rfl, _, rfl, wl, _, _, .ref gw, rfl, rfl, SqL.of (s7 _ _ hw6), atI_nat hv, gw, _, 0, .str w.hd, rfl, rfl, SqT.of (s7 _ _ h1), rfl, _, rfl, rfl, _, rfl, ?_⟩
                rw [decS]
                refine ite2 (fun c => ?_) (fun c => ?_)
                · have c := of_decide_eq_true c
                  refine ⟨_, rfl, _, hp, sz2 (by rw [List.length_map, natsZ_len]; omega), same_mut s7 np, ks ++ [j], ?_, by rw [List.length_append]; show _ + 1 ≤ _; omega, fun k hk => ?_, fun k w' hk hw' e => ?_⟩
                  · rw [upd_same]
                    unfold natsZ
                    rw [List.map_append, List.map_append]
                    rfl
                  · rcases List.mem_append.mp hk with h | h
                    · exact hks k h
                    · rw [List.mem_singleton.mp h]
                      exact ⟨w, hwj, c⟩
                  · by_cases hkj : k = j
                    · exact List.mem_append_right _ (List.mem_singleton.mpr hkj)
                    · exact List.mem_append_left _ (cks k w' (by omega) hw' e)
                · have c : ¬ w.hd = sy := fun z => c (decide_eq_true z)
                  refine ⟨s7, ks, hp, by omega, hks, fun k w' hk hw' e => ?_⟩
                  by_cases hkj : k = j
                  · subst hkj
                    rw [hwj] at hw'
                    injection hw' with hw'
                    rw [← hw'] at e
                    exact absurd e c
                  · exact cks k w' (by omega) hw' e
              rintro H7 ⟨s7, ks, hp, lks, hks, cks⟩
              have ksn : 0 < ks.length := by
                obtain ⟨w, hwm, e⟩ := hdw sy hns
                obtain ⟨k, hk⟩ := List.getElem?_of_mem hwm
                exact List.length_pos_of_mem (cks k w (by have := (List.getElem?_eq_some_iff.mp hk).1; omega) hk e)
              have R7 := R6.same s7
              refine ⟨r, _, rfl, R7, .inr ⟨p, _, rfl, npr, SqL.of hp, by rw [List.length_map, natsZ_len]; exact ksn, fun m H8 hm b8 R8 => ?_⟩⟩
              obtain ⟨k, hk, rfl⟩ : ∃ k ∈ ks, m = V.int ((k : Nat) : Int) := by
                unfold natsZ at hm
                rw [List.map_map] at hm
                obtain ⟨k, hk, e⟩ := List.mem_map.mp hm
                exact ⟨k, hk, e.symm⟩
              obtain ⟨w, hwk, ehd⟩ := hks k hk
              have wk := wok w (List.mem_of_getElem? hwk)
              have b68 : But r H6 H8 := (But.of s7).trans b8
              have B8 := B6.trans b68
              have hR8 := (b6.trans b68) _ _ nRr hR5
              refine ⟨_, rfl, .inl ⟨rfl, _, SqL.of hR8⟩, _, rfl, _, rfl, _, rfl, _, rfl, _, rfl, by show 9 ≤ sizeLine; decide, fun g ng => ?_⟩
              obtain ⟨d, hd⟩ : ∃ d : Nd, d = ⟨sy, sy, num, 0, 0, 9, (k : Int), 0⟩ := ⟨_, rfl⟩
              have hrow : (HO.tup [V.int lv, V.str sy, V.str sy, V.int num, V.int 0, V.int 0, V.int 9, V.int (k : Int), V.int 0]) = HO.tup (rwV (lv, d)) := by
                rw [hd]
                rfl
              rw [hrow]
              have s9 := same_upd (o := .tup (rwV (lv, d))) ng
              have hR9 := s9 _ _ hR8
              refine ⟨R, _, _, rfl, rfl, hR9, sz2 (by omega), ?_⟩
              have t89 : Tups H8 (upd (upd H8 g (.tup (rwV (lv, d)))) R (.lst (us ++ [.ref g]))) := (tups_new ng).trans (tups_lst hR9)
              have hg9 : (upd (upd H8 g (.tup (rwV (lv, d)))) R (.lst (us ++ [.ref g]))) g = some (.tup (rwV (lv, d))) := tups_lst hR9 _ _ upd_same
              have hT9 : (upd (upd H8 g (.tup (rwV (lv, d)))) R (.lst (us ++ [.ref g]))) T1 = some (.lst vs') := by rw [upd_ne nTR]; exact s9 _ _ ((b6.trans b68) _ _ nTr hT5)
              have hL9 : (upd (upd H8 g (.tup (rwV (lv, d)))) R (.lst (us ++ [.ref g]))) L = some (.lst ((labs ++ [lab]).map V.str)) := by rw [upd_ne nRL.symm]; exact s9 _ _ ((b6.trans b68) _ _ nLr hL5)
              have hw9 : (upd (upd H8 g (.tup (rwV (lv, d)))) R (.lst (us ++ [.ref g]))) wl = some (.lst wus) := by
                rw [upd_ne (fun z => by rw [← z, hw] at nR; cases nR)]
                exact s9 _ _ (B8 _ _ nwr hw)
              have hRR : (upd (upd H8 g (.tup (rwV (lv, d)))) R (.lst (us ++ [.ref g]))) R = some (.lst (us ++ [.ref g])) := upd_same
              have B9 : But r H (upd (upd H8 g (.tup (rwV (lv, d)))) R (.lst (us ++ [.ref g]))) := (B8.trans (.of s9)).updN nR
              have R9 : ReelAt (upd (upd H8 g (.tup (rwV (lv, d)))) R (.lst (us ++ [.ref g]))) r := (R8.same s9).updN nRr
              have t59 := ((b6.trans b68).tups R5).trans t89
              obtain ⟨H9, hH9⟩ : ∃ H9, H9 = upd (upd H8 g (.tup (rwV (lv, d)))) R (.lst (us ++ [.ref g])) := ⟨_, rfl⟩
              rw [← hH9] at t89 hg9 hT9 hL9 hw9 hRR B9 R9 t59 ⊢
              have pw9 : Paired (WayAt H9) wus al := Paired.mapP pw6 fun _ _ x => (x.tups (b68.tups R6)).tups t89
              obtain ⟨v, hv, gw, sw, lw2, rfl, h1, h2, h3⟩ := paired_get pw9 hwk
              obtain ⟨bs, hbs⟩ : ∃ bs : List Td, bs = (w.sy.zip w.lb).map fun z => ((lv + 1, z.1, z.2) : Td) := ⟨_, rfl⟩
              have lbs : bs.length = w.sy.length := by rw [hbs, List.length_map, List.length_zip, wk.len, Nat.min_self]
              have few5 := wk.few
              have lsy5 : (w.sy.map V.str).length = w.sy.length := List.length_map ..
              refine ⟨_, rfl, _, rfl, wl, _, _, .ref gw, rfl, rfl, SqL.of hw9, atI_nat hv, gw, _, 1, .ref sw, rfl, rfl, SqT.of h1, rfl, sw, _, rfl, .inr (SqT.of h2), _, rfl, by omega, by omega, fun q1 nq1 => ?_⟩
              refine lc_range (lo := 0) (n := (((w.sy.map V.str).length : Nat) : Int).toNat) (fun j H' => Same H9 H' ∧ ∃ bv, H' q1 = some (.lst bv) ∧ bv.length = j ∧ Paired (TdAt H') bv (bs.take j)) ⟨same_upd nq1, [], upd_same, rfl, .nil⟩ ?_ ?_
              · rintro j H10 hj ⟨s10, bv, hq, lbv, pbv⟩
                have hjs : j < w.sy.length := by omega
                have hjl : j < w.lb.length := by rw [wk.len]; exact hjs
                obtain ⟨x, hx⟩ : ∃ x, w.sy[j]? = some x := ⟨_, List.getElem?_eq_getElem hjs⟩
                obtain ⟨l, hl⟩ : ∃ l, w.lb[j]? = some l := ⟨_, List.getElem?_eq_getElem hjl⟩
                have hbj : bs[j]? = some (lv + 1, x, l) := by
                  rw [hbs, List.getElem?_map, show (w.sy.zip w.lb)[j]? = some (x, l) from List.getElem?_zip_eq_some.mpr ⟨hx, hl⟩]
                  rfl
                have hx2 : (w.sy.map V.str)[j]? = some (.str x) := by rw [List.getElem?_map, hx]; rfl
                have hl2 : (w.lb.map V.str)[j]? = some (.str l) := by rw [List.getElem?_map, hl]; rfl
                have ej : (0 : Int) + (j : Int) = ((j : Nat) : Int) := by omega
                rw [ej]
                have hw10 := SqL.of (K := K) (s10 _ _ hw9)
                have h110 := SqT.of (K := K) (s10 _ _ h1)
                refine ⟨rfl, _, rfl, _, _, rfl, rfl, ?_⟩
                refine ⟨_, rfl, _, rfl, wl, _, _, .ref gw, rfl, rfl, hw10, atI_nat hv, gw, _, 1, .ref sw, rfl, rfl, h110, rfl, _, rfl, sw, _, _, .str x, rfl, rfl, SqT.of (s10 _ _ h2), atI_nat hx2, ?_⟩
                refine ⟨_, rfl, _, rfl, wl, _, _, .ref gw, rfl, rfl, hw10, atI_nat hv, gw, _, 2, .ref lw2, rfl, rfl, h110, rfl, _, rfl, lw2, _, _, .str l, rfl, rfl, SqT.of (s10 _ _ h3), atI_nat hl2, by show 3 ≤ sizeLine; decide, fun g2 ng2 => ?_⟩
                have sg := same_upd (o := .tup [.int (lv + 1), .str x, .str l]) ng2
                have t10 : Tups H10 _ := (tups_new (o := .tup [.int (lv + 1), .str x, .str l]) ng2).trans (tups_lst (o := .lst (bv ++ [.ref g2])) (sg _ _ hq))
                refine ⟨_, sg _ _ hq, sz2 (by omega), same_mut (s10.trans sg) nq1, bv ++ [.ref g2], upd_same, by rw [List.length_append, lbv]; rfl, ?_⟩
                rw [takeN hbj]
                exact paired_app (Paired.mapP pbv fun _ _ z => z.tups t10) (.cons ⟨g2, rfl, tups_lst (sg _ _ hq) _ _ upd_same⟩ .nil)
              rintro H10 ⟨s10, bv, hq, lbv, pbv⟩
              rw [List.take_of_length_le (by omega)] at pbv
              have t510 : Tups H5 H10 := t59.trans fun b xs e => s10 b _ e
              have nq1r : q1 ≠ r := (R9.ne nq1).symm
              refine ⟨q1, bs, d, us ++ [.ref g], bv, _, _, _, rfl, B9.trans (.of s10), R9.same s10, s10 _ _ hT9, Paired.mapP pv5 fun _ _ x => x.tups t510, s10 _ _ hRR, paired_app (Paired.mapP pr5 fun _ _ x => x.tups t510) (.cons ⟨g, rfl, s10 _ _ hg9⟩ .nil), s10 _ _ hL9, ⟨B9.free nq1r nq1, nq1r, fun z => (by rw [z, hT9] at nq1; cases nq1), fun z => (by rw [z, hRR] at nq1; cases nq1), fun z => (by rw [z, hL9] at nq1; cases nq1)⟩, hq, pbv, by omega, fun e he => ?_, fun z => ⟨w, ?_, ?_⟩, fun z => ?_, fun e he => ?_, ?_, fun z => ?_⟩
              · rw [hbs] at he
                obtain ⟨z, hz, rfl⟩ := List.mem_map.mp he
                exact .inl (wk.sy _ (List.of_mem_zip hz).1)
              · rw [hd]
                exact hwk
              · rw [lbs, wk.len]
              · have : leafB d = false := by
                  rw [hd]
                  unfold leafB
                  rw [decide_eq_false (show ¬ (k : Int) = -1 by omega)]
                  rfl
                rw [this] at z
                cases z
              · rw [hbs] at he
                obtain ⟨z, hz, rfl⟩ := List.mem_map.mp he
                rfl
              · have e1 : (bs.map fun b => b.2.2) = w.lb := by
                  rw [hbs, List.map_map]
                  exact List.map_snd_zip (by rw [wk.len]; exact Nat.le_refl _)
                rw [e1]
                unfold labsOf
                rw [hd]
                show w.lb = if (0 : Int) ≤ (k : Int) then (match al[((k : Nat) : Int).toNat]? with | some w => w.lb | none => []) else _
                rw [if_pos (by omega), show ((k : Nat) : Int).toNat = k by omega, hwk]
              · obtain ⟨_, e, _⟩ := z0 z
                rw [hd]
                exact ⟨e, num0, (kinds sy hsy).2.1⟩
        · rintro σ H6 ⟨bl, bs, d, us2, bv, y14, y15, y17, rfl, B6, R6, hT6, pT6, hR6, pR6, hL6, ⟨nbl0, nblr, nblT, nblR, nblL⟩, hbl6, pb6, few6, okb, c1, c2, c3, c4, c5⟩
          refine ⟨_, rfl, .inl ⟨rfl, _, SqL.of hbl6⟩, bl, _, rfl, rfl, hbl6, ?_⟩
          have t7 := tups_lst (o := .lst bv.reverse) hbl6
          have hT7 : (upd H6 bl (.lst bv.reverse)) T1 = some (.lst vs') := by rw [upd_ne nblT.symm]; exact hT6
          have hR7 : (upd H6 bl (.lst bv.reverse)) R = some (.lst us2) := by rw [upd_ne nblR.symm]; exact hR6
          have hL7 : (upd H6 bl (.lst bv.reverse)) L = some (.lst ((labs ++ [lab]).map V.str)) := by rw [upd_ne nblL.symm]; exact hL6
          have lbv := paired_len pb6
          refine ⟨_, rfl, _, rfl, T1, bl, _, _, rfl, rfl, hT7, upd_same, szM (by rw [List.length_reverse]; omega), fun T2 nT2 => ?_⟩
          have s8 := same_upd (o := .lst (vs' ++ bv.reverse)) nT2
          have B7 := B6.updN (o := .lst bv.reverse) nbl0
          have R7 := R6.updN (o := .lst bv.reverse) nblr
          have t8 := t7.trans (tups_new (o := .lst (vs' ++ bv.reverse)) nT2)
          refine ⟨T2, bs ++ ts, _, _, _, _, _, _, _, _, rfl, ⟨B7.trans (.of s8), R7.same s8, B7.free (R7.ne nT2).symm nT2, fun z => (by rw [z, hR7] at nT2; cases nT2), fun z => (by rw [z, hL7] at nT2; cases nT2), ⟨_, upd_same, ?_⟩, ?_, fun e he => ?_, us2, rows ++ [(lv, d)], labs ++ [lab], s8 _ _ hR7, Paired.mapP pR6 fun _ _ x => x.tups t8, ?_, s8 _ _ hL7, ?_, PD.step c1 c2 c3 c4, fun x hx => ?_, fun z => absurd z (Nat.succ_ne_zero n)⟩⟩
          · rw [List.reverse_append]
            exact paired_app (Paired.mapP pT6 fun _ _ x => x.tups t8) (paired_rev (Paired.mapP pb6 fun _ _ x => x.tups t8))
          · rw [List.length_append]
            exact few6
          · rcases List.mem_append.mp he with h | h
            · exact okb e h
            · exact oks e h
          · rw [List.length_append, lrw]
            rfl
          · rw [List.length_append, llb]
            rfl
          · cases rows with
            | nil =>
              obtain rfl : (lv, d) = x := Option.some.inj hx
              exact c5 lrw.symm
            | cons y rows =>
              obtain rfl : y = x := Option.some.inj hx
              exact fst y rfl
    · rintro σ H1 ⟨T1, ts, y9, y10, y11, y12, y13, y14, y15, y17, rfl, S⟩
      have := S.few
      have : (100 : Int).toNat = 100 := rfl
      omega

/-! ### a root above the rows -/
structure GrownX (al : List Way) (start : Str) (skip lim : Nat) (H : Hp) (G : Addr) : Prop where
  ex : ∃ R L us rows labs pt, H G = some (.lst [.ref R, .ref L]) ∧ H R = some (.lst us) ∧ Paired (RwAt H) us rows ∧ H L = some (.lst (labs.map V.str)) ∧ GT al pt ∧ Fl pt 0 = rows ∧ labsT al pt "" = labs ∧ rows.length ≤ lim ∧ 2 * skip + 1 ≤ rows.length ∧
    (∃ x, rows[skip]? = some x ∧ First start x) ∧ (skip = 1 → ∃ x, rows[0]? = some x ∧ x.2.kind = ("root" : Str))
theorem GrownAt.x {al : List Way} {start : Str} {H : Hp} {G : Addr} (h : GrownAt al start 0 H G) : GrownX al start 0 110 H G := by
  obtain ⟨R, L, us, rows, labs, pt, h1, h2, h3, h4, h5, h6, h7, h8, x, h9, h10⟩ := h.ex
  have := (List.getElem?_eq_some_iff.mp h9).1
  exact ⟨R, L, us, rows, labs, pt, h1, h2, h3, h4, h5, h6, h7, by omega, by omega, ⟨x, h9, h10⟩, fun z => absurd z (by decide)⟩
theorem not_reel {H : Hp} {r X : Addr} {us : List V} {v : V} (hR : ReelAt H r) (h : H X = some (.lst us)) (hv : us[0]? = some v) (hn : ∀ i, v ≠ .int i) : X ≠ r := fun e => by
  obtain ⟨z, c, h1, _⟩ := hR
  rw [e, h1] at h
  injection h with h
  injection h with h
  rw [← h] at hv
  exact hn z (Option.some.inj hv).symm
def spRooted (al : List Way) (start : Str) : Sp := fun vs H Q _ => ∃ (r G : Addr), vs = [.ref r, .ref G] ∧ ReelAt H r ∧ GrownAt al start 1 H G ∧ G ≠ r ∧
  ∀ G2 H', GrownX al start 1 110 H' G2 → But r H H' → ReelAt H' r → H G2 = none → Q (.ref G2) H'
theorem ok_rooted (T : Txt K mg) (al : List Way) (start : Str) : FnOk P w K mg base CX0 2 T.a_law_rooted T.fd_law_rooted ["reel", "grown"] (spRooted al start) := by
  have G_law_draw : FnOk P w K mg base CX0 1 T.a_law_draw T.fd_law_draw ["reel", "size"] spDraw := ok_draw T
  refine T.F_law_rooted.ok sc_law_rooted (fun vs H Q E h => ?_) (fun cdv A outer s H vs Q E hr h => ?_)
  · obtain ⟨r, G, rfl, _⟩ := h
    rfl
  · have hr_law_draw : Room 1 _ := hr
    obtain ⟨r, G, rfl, hR, hg, nGr, q⟩ := h
    obtain ⟨R, L, us, rows, labs, pt, hG, hRR, pr, hL, gt, ef, el, lr, x0, hx0, hf0⟩ := hg.ex
    refine ⟨_, (pss_cons (ps_set (i := 2) sc_law_rooted.nd rfl (.inl rfl) (pe_callB (call_max2 rfl) (by rfl) T.m_max (by decide +kernel) (pa_cons pe_int (pa_cons (pe_op op_sub (pe_call G_law_draw hr_law_draw (by rfl) T.g_law_draw T.F_law_draw.kp T.b_law_draw .nil pass0 (pa_cons (pv 0) (pa_cons pe_int pa_nil))) pe_int) pa_nil))))
      (pss_cons (ps_set (i := 3) sc_law_rooted.nd rfl (.inl rfl) (pe_tup (pa_cons pe_int (pa_cons pe_str (pa_cons pe_str (pa_cons pe_int (pa_cons (pv 2) (pa_cons (pv 2) (pa_cons (pe_op op_add (pv 2) pe_int) (pa_cons (pe_un un_neg pe_int) (pa_cons pe_int pa_nil)))))))))))
      (pss_one (ps_ret (pe_lst (pa_cons (pe_op op_cat (pe_op op_cat (pe_lst (pa_cons (pe_tup (pa_cons pe_int (pa_cons pe_str (pa_cons pe_str (pa_cons pe_int (pa_cons pe_int (pa_cons pe_int (pa_cons pe_int (pa_cons (pe_un un_neg pe_int) (pa_cons pe_int pa_nil)))))))))) pa_nil)) (pe_ix ix_list (pv 1) pe_int (fun _ _ => rfl))) (pe_lst (pa_cons (pv 3) pa_nil))) (pa_cons (pe_op op_cat (pe_op op_cat (pe_lst (pa_cons pe_str pa_nil)) (pe_ix ix_list (pv 1) pe_int (fun _ _ => rfl))) (pe_lst (pa_cons pe_str pa_nil))) pa_nil))))))), ?_⟩
    have lus := paired_len pr
    have llb : labs.length = rows.length := by
      rw [← el, ← ef, labsT_len]
      unfold Fl
      rw [List.length_map, ras_len]
    have nRr : R ≠ r := by
      obtain ⟨v, hv, g, rfl, _⟩ := paired_get pr hx0
      exact not_reel hR hRR hv fun i z => by cases z
    have r0 : 0 < rows.length := (List.getElem?_eq_some_iff.mp hx0).1
    have nLr : L ≠ r := by
      obtain ⟨l, hl⟩ : ∃ l, labs[0]? = some l := ⟨_, List.getElem?_eq_getElem (by omega)⟩
      exact not_reel hR hL (v := .str l) (by rw [List.getElem?_map, hl]; rfl) fun i z => by cases z
    refine ⟨_, rfl, r, 6, rfl, hR, by decide, fun v H1 v0 v1 b1 R1 => ?_⟩
    refine ⟨_, _, rfl, rfl, _, _, rfl, ?_⟩
    obtain ⟨g, hgp⟩ : ∃ g : Int, g = (if v - 3 > 0 then v - 3 else 0) := ⟨_, rfl⟩
    rw [← hgp]
    have g0 : 0 ≤ g := by
      rw [hgp]
      split <;> omega
    have hG1 := b1 _ _ nGr hG
    have hR1 := b1 _ _ nRr hRR
    have hL1 := b1 _ _ nLr hL
    refine ⟨_, rfl, _, rfl, _, rfl, _, _, rfl, rfl, 1, rfl, by show 9 ≤ sizeLine; decide, fun g1 ng1 => ?_⟩
    have u1 := same_upd (o := .tup [.int 1, .str "end", .str "end", .int 4, .int g, .int g, .int (g + 1), .int (-1), .int 0]) ng1
    refine ⟨1, rfl, by show 9 ≤ sizeLine; decide, fun g2 ng2 => ⟨by show 1 ≤ sizeLine; decide, fun p2 np2 => ?_⟩⟩
    obtain ⟨o1, ho1⟩ : ∃ o, o = HO.tup [V.int 1, V.str "end", V.str "end", V.int 4, V.int g, V.int g, V.int (g + 1), V.int (-1), V.int 0] := ⟨_, rfl⟩
    obtain ⟨o2, ho2⟩ : ∃ o, o = HO.tup [V.int 0, V.str "root", V.str "root", V.int 0, V.int 0, V.int 0, V.int 9, V.int (-1), V.int 0] := ⟨_, rfl⟩
    have u2 : Same H1 _ := u1.trans (same_upd (o := .tup [V.int 0, V.str "root", V.str "root", V.int 0, V.int 0, V.int 0, V.int 9, V.int (-1), V.int 0]) ng2)
    have u3 : Same H1 _ := u2.trans (same_upd (o := .lst [.ref g2]) np2)
    have lU : us.length ≤ 2200 := by omega
    refine ⟨_, rfl, G, _, 0, .ref R, rfl, rfl, SqL.of (u3 _ _ hG1), rfl, p2, R, _, _, rfl, rfl, upd_same, u3 _ _ hR1, szM (by show 1 + us.length ≤ _; omega), fun p3 np3 => ?_⟩
    have u4 : Same H1 _ := u3.trans (same_upd (o := .lst ([.ref g2] ++ us)) np3)
    refine ⟨_, rfl, by show 1 ≤ sizeLine; decide, fun p4 np4 => ?_⟩
    have v4 := same_upd (o := .lst [.ref g1]) np4
    refine ⟨p3, p4, _, _, rfl, rfl, v4 _ _ upd_same, upd_same, szM (by rw [List.length_append]; show 1 + us.length + 1 ≤ _; omega), fun p5 np5 => ?_⟩
    have v5 := same_upd (o := .lst ([.ref g2] ++ us ++ [.ref g1])) np5
    have u5 : Same H1 _ := (u4.trans v4).trans v5
    refine ⟨by show 1 ≤ sizeLine; decide, fun p6 np6 => ?_⟩
    have v6 := same_upd (o := .lst [.str ""]) np6
    have u6 : Same H1 _ := u5.trans v6
    refine ⟨_, rfl, G, _, 1, .ref L, rfl, rfl, SqL.of (u6 _ _ hG1), rfl, p6, L, _, _, rfl, rfl, upd_same, u6 _ _ hL1, szM (by rw [List.length_map]; show 1 + labs.length ≤ _; omega), fun p7 np7 => ?_⟩
    have v7 := same_upd (o := .lst ([.str ""] ++ labs.map V.str)) np7
    refine ⟨by show 1 ≤ sizeLine; decide, fun p8 np8 => ?_⟩
    have v8 := same_upd (o := .lst [.str ""]) np8
    refine ⟨p7, p8, _, _, rfl, rfl, v8 _ _ upd_same, upd_same, szM (by rw [List.length_append, List.length_map]; show 1 + labs.length + 1 ≤ _; omega), fun p9 np9 => ?_⟩
    have v9 := same_upd (o := .lst ([.str ""] ++ labs.map V.str ++ [.str ""])) np9
    refine ⟨by show 2 ≤ sizeLine; decide, fun G2 nG2 => ?_⟩
    have v10 := same_upd (o := .lst [.ref p5, .ref p9]) nG2
    have w5 : Same _ _ := (((v6.trans v7).trans v8).trans v9).trans v10
    have uF : Same H1 _ := u5.trans w5
    have hp5 := w5 _ _ upd_same
    have hg1 := (((same_upd (o := .tup [V.int 0, V.str "root", V.str "root", V.int 0, V.int 0, V.int 0, V.int 9, V.int (-1), V.int 0]) ng2).trans (same_upd (o := .lst [.ref g2]) np2)).trans (same_upd (o := .lst ([.ref g2] ++ us)) np3)).trans ((v4.trans v5).trans w5) _ _ (upd_same (o := .tup [V.int 1, V.str "end", V.str "end", V.int 4, V.int g, V.int g, V.int (g + 1), V.int (-1), V.int 0]))
    have hg2 := ((same_upd (o := .lst [.ref g2]) np2).trans (same_upd (o := .lst ([.ref g2] ++ us)) np3)).trans ((v4.trans v5).trans w5) _ _ (upd_same (o := .tup [V.int 0, V.str "root", V.str "root", V.int 0, V.int 0, V.int 0, V.int 9, V.int (-1), V.int 0]))
    obtain ⟨dr, hdr⟩ : ∃ d : Nd, d = ⟨"root", "root", 0, 0, 0, 9, -1, 0⟩ := ⟨_, rfl⟩
    obtain ⟨de, hde⟩ : ∃ d : Nd, d = ⟨"end", "end", 4, g, g, g + 1, -1, 0⟩ := ⟨_, rfl⟩
    have le : leafB de = true := by
      rw [hde]
      exact leaf_of rfl (show ("end" : Str) ≠ "error" by decide +kernel) (show ("end" : Str) ≠ "root" by decide +kernel)
    have lr2 : leafB dr = false := by
      rw [hdr]
      unfold leafB
      simp
    have ae : de.alt = -1 := by rw [hde]
    have ar : dr.alt = -1 := by rw [hdr]
    have tF : Tups H1 _ := fun b xs e => uF b _ e
    refine q G2 _ ⟨p5, p9, _, (0, dr) :: (rows ++ [(1, de)]), ("" : Str) :: (labs ++ [("" : Str)]), .mk (0 : Addr) dr [pt, .mk (0 : Addr) de []], upd_same, hp5, ?_, ?_, ?_, ?_, ?_, ?_, ?_, ?_, fun _ => ⟨(0, dr), rfl, by rw [hdr]⟩⟩ (b1.trans (.of uF)) (R1.same uF) ?_
    · refine .cons ⟨g2, rfl, by rw [hg2, hdr]; rfl⟩ (paired_app (Paired.mapP pr fun _ _ x => (x.tups (b1.tups hR)).tups tF) (.cons ⟨g1, rfl, by rw [hg1, hde]; rfl⟩ .nil))
    · rw [v10 _ _ upd_same, List.map_cons, List.map_append]
      rfl
    · refine ⟨fun z => (by omega), fun z => (by rw [lr2] at z; cases z), gt, ⟨fun z => (by omega), fun _ => ⟨rfl, ?_⟩, True.intro⟩, True.intro⟩
      rw [hde]
      exact g0
    · rw [← ef]
      show (0, dr) :: (pt.ras (0 + 1) ++ ((((0 + 1 : Int), de, (0 : Addr)) :: ([] : List Ra)) ++ ([] : List Ra))).map (fun x : Ra => ((x.1, x.2.1) : Rw)) = _
      rw [List.map_append]
      rfl
    · rw [← el]
      show ("" : Str) :: labsTs al [pt, .mk (0 : Addr) de []] (labsOf al dr 2) = _
      have e2 : labsOf al dr 2 = [("" : Str), ("" : Str)] := by
        unfold labsOf
        rw [if_neg (by omega)]
        rfl
      rw [e2, labsTs_cons]
      rfl
    · show (rows ++ [(1, de)]).length + 1 ≤ 110
      rw [List.length_append]
      show rows.length + 1 + 1 ≤ 110
      omega
    · show 2 * 1 + 1 ≤ (rows ++ [(1, de)]).length + 1
      rw [List.length_append]
      show 3 ≤ rows.length + 1 + 1
      omega
    · exact ⟨x0, by show (rows ++ [(1, de)])[0]? = _; rw [List.getElem?_append_left r0]; exact hx0, hf0⟩
    · exact (b1.trans (.of (u5.trans ((((v6.trans v7).trans v8).trans v9))))).free ((((((((((R1.new ng1).new ng2).new np2).new np3).new np4).new np5).new np6).new np7).new np8).new np9 |>.ne nG2).symm nG2

/-! ### grown rows are a tree's rows -/
mutual
theorem ras_ge : ∀ {t : Tr} {l : Int} {x : Ra}, x ∈ t.ras l → l ≤ x.1
  | .mk p d ks, l, x, h => by
    rcases List.mem_cons.mp h with rfl | h
    · exact Int.le_refl _
    · have := rasL_ge (ts := ks) h
      omega
theorem rasL_ge : ∀ {ts : List Tr} {l : Int} {x : Ra}, x ∈ rasL l ts → l ≤ x.1
  | [], _, _, h => absurd h List.not_mem_nil
  | t :: ts, l, x, h => by
    rcases List.mem_append.mp h with h | h
    · exact ras_ge h
    · exact rasL_ge h
end
theorem rasL_head {x : Ra} : ∀ {ts : List Tr} {l : Int}, (rasL l ts).head? = some x → x.1 = l
  | [], _, h => by cases h
  | .mk p d ks :: ts, l, h => by
    obtain rfl : ((l, d, p) : Ra) = x := Option.some.inj h
    rfl
theorem Alone.nil : Alone [] := fun k x h => by cases h
theorem Alone.cons {x : Rw} {ys : List Rw} (h : Alone ys) (hx : leafB x.2 = true → 0 ≤ x.2.wid ∧ ∀ y, ys.head? = some y → y.1 ≤ x.1) : Alone (x :: ys) := fun k z hz hl => by
  cases k with
  | zero =>
    obtain rfl : x = z := Option.some.inj hz
    refine ⟨(hx hl).1, fun y hy => (hx hl).2 y ?_⟩
    cases ys with
    | nil => cases hy
    | cons a ys => exact hy
  | succ k => exact h k z hz hl
theorem Alone.app {lv : Int} : ∀ {xs ys : List Rw}, Alone xs → Alone ys → (∀ x ∈ xs, lv ≤ x.1) → (∀ y, ys.head? = some y → y.1 = lv) → Alone (xs ++ ys)
  | [], ys, _, h, _, _ => h
  | x :: xs, ys, h1, h2, hx, hy => by
    have h1' : Alone xs := fun k z hz => h1 (k + 1) z hz
    refine Alone.cons (Alone.app h1' h2 (fun z hz => hx z (List.mem_cons_of_mem _ hz)) hy) fun hl => ?_
    obtain ⟨a, b⟩ := h1 0 x rfl hl
    refine ⟨a, fun y e => ?_⟩
    cases xs with
    | nil =>
      have := hy y e
      have := hx x List.mem_cons_self
      omega
    | cons c xs =>
      obtain rfl : c = y := Option.some.inj e
      exact b c rfl
def rwsL (l : Int) (ts : List Tr) : List Rw := (rasL l ts).map fun x => (x.1, x.2.1)
mutual
theorem GT.alone {al : List Way} : ∀ {t : Tr} {l : Int}, GT al t → Alone (Fl t l)
  | .mk p d ks, l, h => by
    refine Alone.cons (x := (l, d)) (ys := rwsL (l + 1) ks) (GTs.alone h.2.2) fun hl => ?_
    obtain ⟨rfl, w⟩ := h.2.1 hl
    exact ⟨w, fun y e => by cases e⟩
theorem GTs.alone {al : List Way} : ∀ {ts : List Tr} {l : Int}, GTs al ts → Alone (rwsL l ts)
  | [], _, _ => Alone.nil
  | t :: ts, l, h => by
    show Alone ((t.ras l ++ rasL l ts).map fun x => (x.1, x.2.1))
    rw [List.map_append]
    refine Alone.app (lv := l) (GT.alone h.1) (GTs.alone h.2) (fun x hx => ?_) (fun y hy => ?_)
    · obtain ⟨z, hz, rfl⟩ := List.mem_map.mp hx
      exact ras_ge hz
    · rw [List.head?_map] at hy
      cases e : (rasL l ts).head? with
      | none =>
        rw [e] at hy
        cases hy
      | some z =>
        rw [e] at hy
        obtain rfl : (z.1, z.2.1) = y := Option.some.inj hy
        exact rasL_head e
end
theorem Lad.app {lv : Int} : ∀ {xs ys : List Int}, Lad xs → Lad ys → (∀ x ∈ xs, lv ≤ x) → (∀ y, ys.head? = some y → y = lv) → Lad (xs ++ ys)
  | [], ys, _, h, _, _ => h
  | [x], [], h, _, _, _ => h
  | [x], y :: ys, _, h, hx, hy => by
    have := hy y rfl
    have := hx x List.mem_cons_self
    exact ⟨by omega, h⟩
  | x :: x2 :: xs, ys, h1, h2, hx, hy => ⟨h1.1, Lad.app (xs := x2 :: xs) h1.2 h2 (fun z hz => hx z (List.mem_cons_of_mem _ hz)) hy⟩
theorem Lad.cons {l : Int} {ys : List Int} (h : Lad ys) (hy : ∀ y, ys.head? = some y → y = l + 1) : Lad (l :: ys) := by
  cases ys with
  | nil => exact True.intro
  | cons y ys => exact ⟨by rw [hy y rfl]; exact Int.le_refl _, h⟩
mutual
theorem ras_lad : ∀ {t : Tr} {l : Int}, Lad ((t.ras l).map Prod.fst)
  | .mk p d ks, l => by
    refine Lad.cons (ys := (rasL (l + 1) ks).map Prod.fst) rasL_lad fun y hy => ?_
    rw [List.head?_map] at hy
    cases e : (rasL (l + 1) ks).head? with
    | none =>
      rw [e] at hy
      cases hy
    | some z =>
      rw [e] at hy
      obtain rfl : z.1 = y := Option.some.inj hy
      exact rasL_head e
theorem rasL_lad : ∀ {ts : List Tr} {l : Int}, Lad ((rasL l ts).map Prod.fst)
  | [], _ => True.intro
  | t :: ts, l => by
    show Lad ((t.ras l ++ rasL l ts).map Prod.fst)
    rw [List.map_append]
    refine Lad.app (lv := l) ras_lad rasL_lad (fun x hx => ?_) (fun y hy => ?_)
    · obtain ⟨z, hz, rfl⟩ := List.mem_map.mp hx
      exact ras_ge hz
    · rw [List.head?_map] at hy
      cases e : (rasL l ts).head? with
      | none =>
        rw [e] at hy
        cases hy
      | some z =>
        rw [e] at hy
        obtain rfl : z.1 = y := Option.some.inj hy
        exact rasL_head e
end
theorem Fl_lev (t : Tr) : Lev ((Fl t 0).map Prod.fst) := by
  have e : (Fl t 0).map Prod.fst = (t.ras 0).map Prod.fst := by
    unfold Fl
    rw [List.map_map]
    rfl
  rw [e]
  have h := ras_lad (t := t) (l := 0)
  cases t with
  | mk p d ks =>
    refine ⟨(rasL (0 + 1) ks).map Prod.fst, rfl, fun x hx => ?_, h⟩
    obtain ⟨z, hz, rfl⟩ := List.mem_map.mp hx
    exact rasL_ge hz

/-! ### the made tree is the grown one, fitted -/
theorem rasOf_map : ∀ {rows : List Rw} {as : List Addr}, as.length = rows.length → (rasOf rows as).map (fun x : Ra => ((x.1, x.2.1) : Rw)) = rows
  | [], [], _ => rfl
  | r :: rows, a :: as, h => by
    have ih := rasOf_map (rows := rows) (as := as) (by simpa using h)
    show (r.1, r.2) :: (rasOf rows as).map _ = _
    rw [ih]
theorem paired_maps : ∀ {xs ys : List Ra}, Paired FitE (xs.map fun x : Ra => ((x.1, x.2.1) : Rw)) (ys.map fun x : Ra => ((x.1, x.2.1) : Rw)) → Paired (relR FitN) xs ys
  | [], [], _ => .nil
  | [], _ :: _, h => by cases h
  | _ :: _, [], h => by cases h
  | x :: xs, y :: ys, h => by
    cases h with
    | cons a b => exact .cons a (paired_maps b)
mutual
theorem LikeT.imp {R S : Nd → Nd → Prop} (i : ∀ x y, R x y → S x y) : ∀ {t t' : Tr}, LikeT R t t' → LikeT S t t'
  | .mk _ _ _, .mk _ _ _, h => ⟨i _ _ h.1, LikeTs.imp i h.2⟩
theorem LikeTs.imp {R S : Nd → Nd → Prop} (i : ∀ x y, R x y → S x y) : ∀ {ts ts' : List Tr}, LikeTs R ts ts' → LikeTs S ts ts'
  | [], [], _ => True.intro
  | _ :: _, _ :: _, h => ⟨LikeT.imp i h.1, LikeTs.imp i h.2⟩
end
theorem grown_tree {al : List Way} {pt t : Tr} {rows : List Rw} {as : List Addr} {ws : List Wt} (g : GT al pt) (hp : Paired FitE (Fl pt 0) rows) (hf : FitOk rows ws) (hl : as.length = rows.length) (hr : t.ras 0 = rasOf rows as) :
    AltOk al t ∧ labsT al t "" = labsT al pt "" ∧ FOk t ∧ LabOk al t (labsT al pt "") := by
  have e : (t.ras 0).map (fun x : Ra => ((x.1, x.2.1) : Rw)) = rows := by rw [hr, rasOf_map hl]
  rw [← e] at hp
  have k := like_of (paired_maps hp)
  have ka : LikeT AltEq pt t := k.imp fun x y h => h.alt
  have el := like_labs (al := al) (l := "") ka
  exact ⟨like_alt ka g.alt, el, fit_fok hf hl hr, by rw [← el]; exact LabOk.of al t ""⟩
/-- alternatives more, behind the others -/
theorem labsOf_more {al : List Way} {d : Nd} {n : Nat} {w : Way} (h : 0 ≤ d.alt → ∃ v, al[d.alt.toNat]? = some v) : labsOf (al ++ [w]) d n = labsOf al d n := by
  unfold labsOf
  by_cases c : 0 ≤ d.alt
  · obtain ⟨v, hv⟩ := h c
    rw [if_pos c, if_pos c, List.getElem?_append_left (List.getElem?_eq_some_iff.mp hv).1]
  · rw [if_neg c, if_neg c]
mutual
theorem AltOk.more {al : List Way} {w : Way} : ∀ {t : Tr}, AltOk al t → AltOk (al ++ [w]) t
  | .mk _ d ks, h => ⟨fun c => by
    obtain ⟨v, hv, e⟩ := h.1 c
    exact ⟨v, by rw [List.getElem?_append_left (List.getElem?_eq_some_iff.mp hv).1]; exact hv, e⟩, AltsOk.more h.2⟩
theorem AltsOk.more {al : List Way} {w : Way} : ∀ {ts : List Tr}, AltsOk al ts → AltsOk (al ++ [w]) ts
  | [], _ => True.intro
  | _ :: _, h => ⟨AltOk.more h.1, AltsOk.more h.2⟩
end
mutual
theorem labsT_more {al : List Way} {w : Way} : ∀ {t : Tr} {l : Str}, AltOk al t → labsT (al ++ [w]) t l = labsT al t l
  | .mk _ d ks, l, h => by
    show l :: labsTs (al ++ [w]) ks (labsOf (al ++ [w]) d ks.length) = l :: labsTs al ks (labsOf al d ks.length)
    rw [labsOf_more fun c => (h.1 c).imp fun v hv => hv.1, labsTs_more h.2]
theorem labsTs_more {al : List Way} {w : Way} : ∀ {ts : List Tr} {ls : List Str}, AltsOk al ts → labsTs (al ++ [w]) ts ls = labsTs al ts ls
  | [], _, _ => rfl
  | t :: ts, ls, h => by
    rw [labsTs_cons, labsTs_cons, labsT_more h.1, labsTs_more h.2]
end

/-! ### the deepest trees -/
structure DeepW (al : List Way) (sort : Str) : Prop where
  h0 : ∃ w l, al[0]? = some w ∧ w.lb = [l]
  h1 : ∃ w, al[1]? = some w ∧ w.lb = []
  hk : ∀ t, 2 ≤ t → t < 6 → ∃ w a b, al[t]? = some w ∧ w.lb = [a, b] ∧ (w.sy = [("h" : Str), sort] ∨ w.sy = [sort, ("h" : Str)])
def pendOf (al : List Way) (sort : Str) (turns : List Nat) : Nat → List Td
  | 0 => []
  | k + 1 => match al[turns.getD k 0]? with
    | some w => if w.sy.head? = some ("h" : Str) then (((k : Nat) : Int) + 2, sort, w.lb.getD 1 "") :: pendOf al sort turns k else pendOf al sort turns k
    | none => pendOf al sort turns k
def hNd (t : Int) : Nd := ⟨"h", "h", t, 0, 0, 9, t, 0⟩
def leafNd (sort : Str) : Nd := ⟨sort, sort, 7, 0, 1, 2, -1, 0⟩
theorem labsOf_at {al : List Way} {d : Nd} {n t : Nat} {w : Way} (h : al[t]? = some w) (e : d.alt = (t : Int)) : labsOf al d n = w.lb := by
  unfold labsOf
  rw [e, if_pos (by omega), show ((t : Nat) : Int).toNat = t by omega, h]
theorem labsOf_none {al : List Way} {d : Nd} {n : Nat} (e : d.alt = -1) : labsOf al d n = List.replicate n ("" : Str) := by
  unfold labsOf
  rw [e, if_neg (by decide)]
theorem leaf_not {d : Nd} {t : Nat} (e : d.alt = (t : Int)) : leafB d = true → False := fun z => by
  unfold leafB at z
  rw [decide_eq_false (show ¬ d.alt = -1 by omega)] at z
  cases z
theorem Pend.leaf {al : List Way} {lv l : Int} {s lab : Str} {ts : List Td} {rows : List Rw} {labs : List Str} {d : Nd} (h : Pend al lv ((l, s, lab) :: ts) rows labs) (ha : d.alt = -1) (hw : 0 ≤ d.wid) : Pend al lv ts (rows ++ [(l, d)]) (labs ++ [lab]) :=
  h.step (bs := []) (fun z => by omega) (fun _ => ⟨rfl, hw⟩) (fun b hb => absurd hb List.not_mem_nil) (by rw [labsOf_none ha]; rfl)
theorem Pend.inner {al : List Way} {lv l : Int} {s lab : Str} {ts bs : List Td} {rows : List Rw} {labs : List Str} {d : Nd} {t : Nat} {w : Way} (h : Pend al lv ((l, s, lab) :: ts) rows labs) (ha : d.alt = (t : Int)) (hw : al[t]? = some w) (hb : ∀ b ∈ bs, b.1 = l + 1) (hl : (bs.map fun b => b.2.2) = w.lb) :
    Pend al lv (bs ++ ts) (rows ++ [(l, d)]) (labs ++ [lab]) :=
  h.step (bs := bs) (fun _ => ⟨w, by rw [ha, show ((t : Nat) : Int).toNat = t by omega]; exact hw, by rw [← hl, List.length_map]⟩) (fun z => (leaf_not ha z).elim) hb (by rw [labsOf_at hw ha]; exact hl)
/-- one turn down: the next node stands before its leaf, or behind it -/
theorem Pend.turn {al : List Way} {sort lab : Str} {turns : List Nat} {k t : Nat} {w : Way} {a b : Str} {rows : List Rw} {labs : List Str} (h : Pend al 0 ((((k : Nat) : Int) + 1, ("h" : Str), lab) :: pendOf al sort turns k) rows labs) (ht : turns[k]? = some t) (hw : al[t]? = some w) (hl : w.lb = [a, b]) :
    (w.sy.head? = some ("h" : Str) → Pend al 0 ((((k + 1 : Nat) : Int) + 1, ("h" : Str), a) :: pendOf al sort turns (k + 1)) (rows ++ [(((k : Nat) : Int) + 1, hNd t)]) (labs ++ [lab])) ∧
    (w.sy.head? ≠ some ("h" : Str) → Pend al 0 ((((k + 1 : Nat) : Int) + 1, ("h" : Str), b) :: pendOf al sort turns (k + 1)) (rows ++ [(((k : Nat) : Int) + 1, hNd t)] ++ [(((k : Nat) : Int) + 2, leafNd sort)]) (labs ++ [lab] ++ [a])) := by
  have e : turns.getD k 0 = t := by
    rw [List.getD_eq_getElem?_getD, ht]
    rfl
  have e2 : ((k + 1 : Nat) : Int) + 1 = ((k : Nat) : Int) + 2 := by omega
  refine ⟨fun c => ?_, fun c => ?_⟩
  · have ep : pendOf al sort turns (k + 1) = (((k : Nat) : Int) + 2, sort, b) :: pendOf al sort turns k := by
      show (match al[turns.getD k 0]? with | some w => _ | none => _) = _
      rw [e, hw]
      show (if w.sy.head? = some ("h" : Str) then _ else _) = _
      rw [if_pos c, hl]
      rfl
    rw [ep, e2]
    refine h.inner (bs := [(((k : Nat) : Int) + 2, ("h" : Str), a), (((k : Nat) : Int) + 2, sort, b)]) (t := t) rfl hw (fun x hx => ?_) (by rw [hl]; rfl)
    rcases List.mem_cons.mp hx with rfl | hx
    · show ((k : Nat) : Int) + 2 = ((k : Nat) : Int) + 1 + 1
      omega
    · rw [List.mem_singleton.mp hx]
      show ((k : Nat) : Int) + 2 = ((k : Nat) : Int) + 1 + 1
      omega
  · have ep : pendOf al sort turns (k + 1) = pendOf al sort turns k := by
      show (match al[turns.getD k 0]? with | some w => _ | none => _) = _
      rw [e, hw]
      show (if w.sy.head? = some ("h" : Str) then _ else _) = _
      rw [if_neg c]
    rw [ep, e2]
    have h2 := h.inner (bs := [(((k : Nat) : Int) + 2, sort, a), (((k : Nat) : Int) + 2, ("h" : Str), b)]) (d := hNd t) (t := t) rfl hw (fun x hx => by
      rcases List.mem_cons.mp hx with rfl | hx
      · show ((k : Nat) : Int) + 2 = ((k : Nat) : Int) + 1 + 1
        omega
      · rw [List.mem_singleton.mp hx]
        show ((k : Nat) : Int) + 2 = ((k : Nat) : Int) + 1 + 1
        omega) (by rw [hl]; rfl)
    exact Pend.leaf (d := leafNd sort) h2 rfl (show (0 : Int) ≤ 1 by decide)

def lastNd : Nd := ⟨"h", "h", 8, 0, 0, 9, 1, 0⟩
theorem pend_pop {al : List Way} {sort : Str} {turns : List Nat} {k t : Nat} {w : Way} {a b : Str} (ht : turns[k]? = some t) (hw : al[t]? = some w) (hl : w.lb = [a, b]) :
    (w.sy.head? = some ("h" : Str) → pendOf al sort turns (k + 1) = (((k : Nat) : Int) + 2, sort, b) :: pendOf al sort turns k) ∧ (w.sy.head? ≠ some ("h" : Str) → pendOf al sort turns (k + 1) = pendOf al sort turns k) := by
  have e : turns.getD k 0 = t := by
    rw [List.getD_eq_getElem?_getD, ht]
    rfl
  refine ⟨fun c => ?_, fun c => ?_⟩
  · show (match al[turns.getD k 0]? with | some w => _ | none => _) = _
    rw [e, hw]
    show (if w.sy.head? = some ("h" : Str) then _ else _) = _
    rw [if_pos c, hl]
    rfl
  · show (match al[turns.getD k 0]? with | some w => _ | none => _) = _
    rw [e, hw]
    show (if w.sy.head? = some ("h" : Str) then _ else _) = _
    rw [if_neg c]
def spDeep : Sp := fun vs H Q _ => ∃ (r wl : Addr) (sort : Str) (m : Nat) (wus : List V) (al : List Way), vs = [.ref r, .ref wl, .str sort, .int (m : Int)] ∧ ReelAt H r ∧ H wl = some (.lst wus) ∧ Paired (WayAt H) wus al ∧ wl ≠ r ∧ DeepW al sort ∧ sort ≠ "h" ∧ m ≤ 1060 ∧
  ∀ G H', GrownX al "s" 0 2210 H' G → (∃ R L us, H' G = some (.lst [.ref R, .ref L]) ∧ H' R = some (.lst us) ∧ m + 2 ≤ us.length) → But r H H' → ReelAt H' r → H G = none → Q (.ref G) H'
theorem ok_deep (T : Txt K mg) : FnOk P w K mg base CX0 2 T.a_law_deep T.fd_law_deep ["reel", "ways", "sort", "deep"] spDeep := by
  have G_law_draw : FnOk P w K mg base CX0 1 T.a_law_draw T.fd_law_draw ["reel", "size"] spDraw := ok_draw T
  refine T.F_law_deep.ok sc_law_deep (fun vs H Q E h => ?_) (fun cdv A outer s H vs Q E hr h => ?_)
  · obtain ⟨r, wl, sort, m, wus, al, rfl, _⟩ := h
    rfl
  · have hr_law_draw : Room 1 _ := hr
    obtain ⟨r, wl, sort, m, wus, al, rfl, hR, hw, pw, nwr, DW, nsh, lm, q⟩ := h
    refine ⟨_, (pss_cons (ps_set (i := 4) sc_law_deep.nd rfl (.inl rfl) (pe_lst (pa_cons (pe_tup (pa_cons pe_int (pa_cons pe_str (pa_cons pe_str (pa_cons pe_int (pa_cons pe_int (pa_cons pe_int (pa_cons pe_int (pa_cons pe_int (pa_cons pe_int pa_nil)))))))))) pa_nil)))
      (pss_cons (ps_set (i := 5) sc_law_deep.nd rfl (.inl rfl) (pe_lst (pa_cons pe_str pa_nil)))
      (pss_cons (ps_setLc (i := 6) (own := [("k", 7)]) (g := gName 7) (by rfl) sc_law_deep.nd rfl rfl (sw_true rfl rfl rfl (by decide +kernel)) (pi_range1 (by rfl) T.m_range (pa_cons (pv 3) pa_nil)) (blkOk_by (own := [("k", 7)]) (N := ["reel", "ways", "sort", "deep", "rows", "labels", "turns", "k", "label", "way"]) (sc := defScope s_law_deep) (by decide +kernel)) (fun _ _ _ _ _ => pg_name (i := 7) sc_law_deep.nd rfl (Or.inl rfl)) (fun _ _ _ _ _ => pts_nil) (fun _ _ _ _ _ => (pe_op op_add pe_int (pe_call G_law_draw hr_law_draw (by rfl) T.g_law_draw T.F_law_draw.kp T.b_law_draw .nil pass0 (pa_cons (pv 0) (pa_cons pe_int pa_nil))))))
      (pss_cons (ps_set (i := 8) sc_law_deep.nd rfl (.inl rfl) (pe_ix ix_tup (pe_ix ix_tup (pe_ix ix_list (pv 1) pe_int (fun _ _ => rfl)) pe_int (fun _ _ => rfl)) pe_int (fun _ _ => rfl)))
      (pss_cons (ps_for PassesOwn.never rfl (pi_range1 (by rfl) T.m_range (pa_cons (pv 3) pa_nil)) (pg_name (i := 7) sc_law_deep.nd rfl (.inl rfl)) (pss_cons (ps_set (i := 9) sc_law_deep.nd rfl (.inl rfl) (pe_ix ix_list (pv 1) (pe_ix ix_list (pv 6) (pv 7) (fun _ _ => rfl)) (fun _ _ => rfl)))
      (pss_cons (ps_expr (pe_bm PySem.F.plainAttrs_list PySem.F.slot_list_append PySem.F.type_list_append mt_append (pv 4) (pa_cons (pe_tup (pa_cons (pe_op op_add (pv 7) pe_int) (pa_cons pe_str (pa_cons pe_str (pa_cons (pe_ix ix_list (pv 6) (pv 7) (fun _ _ => rfl)) (pa_cons pe_int (pa_cons pe_int (pa_cons pe_int (pa_cons (pe_ix ix_list (pv 6) (pv 7) (fun _ _ => rfl)) (pa_cons pe_int pa_nil)))))))))) pa_nil)))
      (pss_cons (ps_expr (pe_bm PySem.F.plainAttrs_list PySem.F.slot_list_append PySem.F.type_list_append mt_append (pv 5) (pa_cons (pv 8) pa_nil)))
      (pss_cons (ps_set (i := 8) sc_law_deep.nd rfl (.inl rfl) (pe_ix ix_tup (pe_ix ix_tup (pv 9) pe_int (fun _ _ => rfl)) pe_int (fun _ _ => rfl)))
      (pss_one (ps_if (pt_cmpR op_ne (pe_ix ix_tup (pe_ix ix_tup (pv 9) pe_int (fun _ _ => rfl)) pe_int (fun _ _ => rfl)) pe_str (nomark _)) (pss_cons (ps_expr (pe_bm PySem.F.plainAttrs_list PySem.F.slot_list_append PySem.F.type_list_append mt_append (pv 4) (pa_cons (pe_tup (pa_cons (pe_op op_add (pv 7) pe_int) (pa_cons (pv 2) (pa_cons (pv 2) (pa_cons pe_int (pa_cons pe_int (pa_cons pe_int (pa_cons pe_int (pa_cons (pe_un un_neg pe_int) (pa_cons pe_int pa_nil)))))))))) pa_nil)))
      (pss_cons (ps_expr (pe_bm PySem.F.plainAttrs_list PySem.F.slot_list_append PySem.F.type_list_append mt_append (pv 5) (pa_cons (pv 8) pa_nil)))
      (pss_one (ps_set (i := 8) sc_law_deep.nd rfl (.inl rfl) (pe_ix ix_tup (pe_ix ix_tup (pv 9) pe_int (fun _ _ => rfl)) pe_int (fun _ _ => rfl)))))) pss_nil)))))))
      (pss_cons (ps_expr (pe_bm PySem.F.plainAttrs_list PySem.F.slot_list_append PySem.F.type_list_append mt_append (pv 4) (pa_cons (pe_tup (pa_cons (pe_op op_add (pv 3) pe_int) (pa_cons pe_str (pa_cons pe_str (pa_cons pe_int (pa_cons pe_int (pa_cons pe_int (pa_cons pe_int (pa_cons pe_int (pa_cons pe_int pa_nil)))))))))) pa_nil)))
      (pss_cons (ps_expr (pe_bm PySem.F.plainAttrs_list PySem.F.slot_list_append PySem.F.type_list_append mt_append (pv 5) (pa_cons (pv 8) pa_nil)))
      (pss_cons (ps_for PassesOwn.never rfl (pi_range3 (by rfl) T.m_range (pa_cons (pe_op op_sub (pv 3) pe_int) (pa_cons (pe_un un_neg pe_int) (pa_cons (pe_un un_neg pe_int) pa_nil)))) (pg_name (i := 7) sc_law_deep.nd rfl (.inl rfl)) (pss_cons (ps_set (i := 9) sc_law_deep.nd rfl (.inl rfl) (pe_ix ix_list (pv 1) (pe_ix ix_list (pv 6) (pv 7) (fun _ _ => rfl)) (fun _ _ => rfl)))
      (pss_one (ps_if (pt_cmpR op_eq (pe_ix ix_tup (pe_ix ix_tup (pv 9) pe_int (fun _ _ => rfl)) pe_int (fun _ _ => rfl)) pe_str (nomark _)) (pss_cons (ps_expr (pe_bm PySem.F.plainAttrs_list PySem.F.slot_list_append PySem.F.type_list_append mt_append (pv 4) (pa_cons (pe_tup (pa_cons (pe_op op_add (pv 7) pe_int) (pa_cons (pv 2) (pa_cons (pv 2) (pa_cons pe_int (pa_cons pe_int (pa_cons pe_int (pa_cons pe_int (pa_cons (pe_un un_neg pe_int) (pa_cons pe_int pa_nil)))))))))) pa_nil)))
      (pss_one (ps_expr (pe_bm PySem.F.plainAttrs_list PySem.F.slot_list_append PySem.F.type_list_append mt_append (pv 5) (pa_cons (pe_ix ix_tup (pe_ix ix_tup (pv 9) pe_int (fun _ _ => rfl)) pe_int (fun _ _ => rfl)) pa_nil))))) pss_nil))))
      (pss_one (ps_ret (pe_lst (pa_cons (pv 4) (pa_cons (pv 5) pa_nil))))))))))))), ?_⟩
    refine ⟨by show 9 ≤ sizeLine; decide, fun g0 ng0 => ⟨by show 1 ≤ sizeLine; decide, fun R nR => ⟨by show 1 ≤ sizeLine; decide, fun L nL => ?_⟩⟩⟩
    have u1 : Same H _ := same_upd (o := .tup [.int 0, .str "s", .str "s", .int 0, .int 0, .int 0, .int 9, .int 0, .int 0]) ng0
    have u2 : Same H _ := u1.trans (same_upd (o := .lst [.ref g0]) nR)
    have u3 : Same H _ := u2.trans (same_upd (o := .lst [.str ""]) nL)
    have nR0 : H R = none := u1.free nR
    have nL0 : H L = none := u2.free nL
    have nRr : R ≠ r := (hR.ne nR0).symm
    have nLr : L ≠ r := (hR.ne nL0).symm
    have hR2 := (same_upd (o := .lst [.str ""]) nL) _ _ (upd_same (a := R) (o := .lst [.ref g0]))
    have nRL : R ≠ L := fun z => by
      rw [← z, upd_same] at nL
      cases nL
    have hL3 : (upd (upd (upd H g0 (.tup [.int 0, .str "s", .str "s", .int 0, .int 0, .int 0, .int 9, .int 0, .int 0])) R (.lst [.ref g0])) L (.lst [.str ""])) L = some (.lst [.str ""]) := upd_same
    have hg3 := ((same_upd (o := .lst [.ref g0]) nR).trans (same_upd (o := .lst [.str ""]) nL)) _ _ (upd_same (a := g0) (o := .tup [.int 0, .str "s", .str "s", .int 0, .int 0, .int 0, .int 9, .int 0, .int 0]))
    obtain ⟨H3, hH3⟩ : ∃ H3, H3 = upd (upd (upd H g0 (.tup [.int 0, .str "s", .str "s", .int 0, .int 0, .int 0, .int 9, .int 0, .int 0])) R (.lst [.ref g0])) L (.lst [.str ""]) := ⟨_, rfl⟩
    have u3 : Same H H3 := by rw [hH3]; exact u3
    rw [← hH3] at hR2 hL3 hg3 ⊢
    have R3 := hR.same u3
    refine ⟨_, rfl, _, rfl, by omega, by omega, fun T1 nT => ?_⟩
    have nTr : T1 ≠ r := (R3.ne nT).symm
    refine lc_range (lo := 0) (n := (m : Int).toNat) (fun j H' => But r H3 H' ∧ ReelAt H' r ∧ ∃ ts : List Nat, H' T1 = some (.lst ((natsZ ts).map V.int)) ∧ ts.length = j ∧ ∀ t ∈ ts, 2 ≤ t ∧ t < 6) ⟨.new nT, R3.new nT, [], upd_same, rfl, fun t ht => absurd ht List.not_mem_nil⟩ ?_ ?_
    · rintro j H4 hj ⟨b4, R4, ts, hT, lts, ot⟩
      refine ⟨rfl, _, rfl, r, 4, rfl, R4, by decide, fun v H5 v0 v1 b5 R5 => ?_⟩
      refine ⟨_, _, rfl, rfl, _, b5 _ _ nTr hT, sz2 (by rw [List.length_map, natsZ_len]; omega), (b4.trans b5).updN nT, R5.updN nTr, ts ++ [(2 + v).toNat], ?_, by rw [List.length_append, lts]; rfl, fun t ht => ?_⟩
      · rw [upd_same]
        unfold natsZ
        rw [List.map_append, List.map_append]
        show _ = some (HO.lst (_ ++ [V.int (((2 + v).toNat : Nat) : Int)]))
        rw [show (((2 + v).toNat : Nat) : Int) = 2 + v by omega]
      · rcases List.mem_append.mp ht with h | h
        · exact ot t h
        · rw [List.mem_singleton.mp h]
          omega
    rintro H4 ⟨b4, R4, ts, hT, lts, ot⟩
    rw [show (m : Int).toNat = m by omega] at lts
    obtain ⟨w0, l0, hw0, hl0⟩ := DW.h0
    have B4 : But r H H4 := (But.of u3).trans b4
    have hR4 := b4 _ _ nRr hR2
    have hL4 := b4 _ _ nLr hL3
    have hg4 := b4.tups R3 _ _ hg3
    have pwn : ∀ {H' : Hp}, But r H H' → Paired (WayAt H') wus al := fun b => Paired.mapP pw fun _ _ x => x.tups (b.tups hR)
    obtain ⟨v0, hv0, gw0, sw0, lw0, rfl, i1, i2, i3⟩ := paired_get (pwn B4) hw0
    refine ⟨_, rfl, wl, _, 0, .ref gw0, rfl, rfl, SqL.of (B4 _ _ nwr hw), atI_nat hv0, gw0, _, 2, .ref lw0, rfl, rfl, SqT.of i1, rfl, lw0, _, 0, .str l0, rfl, rfl, SqT.of i3, by rw [hl0]; rfl, ?_⟩
    have P0 : Pend al 0 ((((0 : Nat) : Int) + 1, ("h" : Str), l0) :: pendOf al sort ts 0) [(0, (⟨"s", "s", 0, 0, 0, 9, 0, 0⟩ : Nd))] [("" : Str)] := (Pend.start al 0 "s").inner (bs := [(1, ("h" : Str), l0)]) (t := 0) rfl hw0 (fun b hb => by rw [List.mem_singleton.mp hb]; rfl) (by rw [hl0]; rfl)
    refine ⟨_, rfl, _, rfl, by omega, by omega, ?_⟩
    refine for_range (lo := 0) (n := ((m : Nat) : Int).toNat) (fun n σ H' => ∃ (y7 y9 : Option V) (lab : Str) (us : List V) (rows : List Rw) (labs : List Str), σ = [some (.ref r), some (.ref wl), some (.str sort), some (.int (m : Int)), some (.ref R), some (.ref L), some (.ref T1), y7, some (.str lab), y9] ∧ But r H H' ∧ ReelAt H' r ∧ H' T1 = some (.lst ((natsZ ts).map V.int)) ∧
        H' R = some (.lst us) ∧ Paired (RwAt H') us rows ∧ H' L = some (.lst (labs.map V.str)) ∧ labs.length = rows.length ∧ rows.length + (pendOf al sort ts n).length ≤ 2 * n + 1 ∧ n + 1 ≤ rows.length ∧ rows[0]? = some (0, (⟨"s", "s", 0, 0, 0, 9, 0, 0⟩ : Nd)) ∧ Pend al 0 ((((n : Nat) : Int) + 1, ("h" : Str), lab) :: pendOf al sort ts n) rows labs)
      ⟨none, none, l0, _, [(0, (⟨"s", "s", 0, 0, 0, 9, 0, 0⟩ : Nd))], [("" : Str)], rfl, B4, R4, hT, hR4, .cons ⟨g0, rfl, hg4⟩ .nil, hL4, rfl, Nat.le_refl _, Nat.le_refl _, rfl, P0⟩ ?_ ?_
    · rintro n σ H5 hn ⟨y7, y9, lab, us, rows, labs, rfl, B5, R5, hT5, hR5, pr, hL5, llb, lrw, lrl, h00, PD⟩
      have lus := paired_len pr
      obtain ⟨t, ht⟩ : ∃ t, ts[n]? = some t := ⟨_, List.getElem?_eq_getElem (by omega)⟩
      obtain ⟨t2, t6⟩ := ot t (List.mem_of_getElem? ht)
      obtain ⟨w, a, b, hwt, hlt, hst⟩ := DW.hk t t2 t6
      have pt := PD.turn ht hwt hlt
      obtain ⟨v1, hv1, gw, sw, lw2, rfl, j1, j2, j3⟩ := paired_get (pwn B5) hwt
      have hTi : ((natsZ ts).map V.int)[n]? = some (.int (t : Int)) := by
        unfold natsZ
        rw [List.map_map, List.getElem?_map, ht]
        rfl
      have en : (0 : Int) + (n : Int) = ((n : Nat) : Int) := by omega
      rw [en]
      refine ⟨_, rfl, _, rfl, _, rfl, T1, _, _, .int (t : Int), rfl, rfl, SqL.of hT5, atI_nat hTi, wl, _, _, .ref gw, rfl, rfl, SqL.of (B5 _ _ nwr hw), atI_nat hv1, ?_⟩
      refine ⟨_, rfl, .inl ⟨rfl, _, SqL.of hR5⟩, _, rfl, _, _, rfl, rfl, _, rfl, _, rfl, T1, _, _, .int (t : Int), rfl, rfl, SqL.of hT5, atI_nat hTi, _, rfl, _, rfl, T1, _, _, .int (t : Int), rfl, rfl, SqL.of hT5, atI_nat hTi, by show 9 ≤ sizeLine; decide, fun g ng => ?_⟩
      have hrow : HO.tup [(fun i j : Int => V.int (i + j)) ((n : Nat) : Int) 1, V.str "h", V.str "h", V.int (t : Int), V.int 0, V.int 0, V.int 9, V.int (t : Int), V.int 0] = HO.tup (rwV (((n : Nat) : Int) + 1, hNd (t : Int))) := rfl
      rw [hrow]
      have v6 := same_upd (o := .tup (rwV (((n : Nat) : Int) + 1, hNd (t : Int)))) ng
      have hR6 := v6 _ _ hR5
      refine ⟨R, _, _, rfl, rfl, hR6, sz2 (by omega), ?_⟩
      have t6 : Tups H5 (upd (upd H5 g (.tup (rwV (((n : Nat) : Int) + 1, hNd (t : Int))))) R (.lst (us ++ [.ref g]))) := (tups_new ng).trans (tups_lst hR6)
      have hg6 : (upd (upd H5 g (.tup (rwV (((n : Nat) : Int) + 1, hNd (t : Int))))) R (.lst (us ++ [.ref g]))) g = some (.tup (rwV (((n : Nat) : Int) + 1, hNd (t : Int)))) := tups_lst hR6 _ _ upd_same
      have hL6 : (upd (upd H5 g (.tup (rwV (((n : Nat) : Int) + 1, hNd (t : Int))))) R (.lst (us ++ [.ref g]))) L = some (.lst (labs.map V.str)) := by rw [upd_ne nRL.symm]; exact v6 _ _ hL5
      have hRR6 : (upd (upd H5 g (.tup (rwV (((n : Nat) : Int) + 1, hNd (t : Int))))) R (.lst (us ++ [.ref g]))) R = some (.lst (us ++ [.ref g])) := upd_same
      have nTR : T1 ≠ R := fun z => by
        rw [z, hR2] at nT
        cases nT
      have nTL : T1 ≠ L := fun z => by
        rw [z, hL3] at nT
        cases nT
      have hT6 : (upd (upd H5 g (.tup (rwV (((n : Nat) : Int) + 1, hNd (t : Int))))) R (.lst (us ++ [.ref g]))) T1 = some (.lst ((natsZ ts).map V.int)) := by rw [upd_ne nTR]; exact v6 _ _ hT5
      have B6 : But r H (upd (upd H5 g (.tup (rwV (((n : Nat) : Int) + 1, hNd (t : Int))))) R (.lst (us ++ [.ref g]))) := (B5.trans (.of v6)).updN nR0
      have R6 : ReelAt (upd (upd H5 g (.tup (rwV (((n : Nat) : Int) + 1, hNd (t : Int))))) R (.lst (us ++ [.ref g]))) r := (R5.same v6).updN nRr
      obtain ⟨H6, hH6⟩ : ∃ H6, H6 = upd (upd H5 g (.tup (rwV (((n : Nat) : Int) + 1, hNd (t : Int))))) R (.lst (us ++ [.ref g])) := ⟨_, rfl⟩
      rw [← hH6] at t6 hg6 hL6 hRR6 hT6 B6 R6 ⊢
      have pr6 : Paired (RwAt H6) (us ++ [.ref g]) (rows ++ [(((n : Nat) : Int) + 1, hNd (t : Int))]) := paired_app (Paired.mapP pr fun _ _ x => x.tups t6) (.cons ⟨g, rfl, hg6⟩ .nil)
      have k1 := t6 _ _ j1
      have k2 := t6 _ _ j2
      have k3 := t6 _ _ j3
      refine ⟨_, rfl, .inl ⟨rfl, _, SqL.of hL6⟩, _, rfl, L, _, _, rfl, rfl, hL6, sz2 (by rw [List.length_map]; omega), ?_⟩
      have t7 := tups_lst (o := .lst (labs.map V.str ++ [.str lab])) hL6
      refine ⟨_, rfl, gw, _, 2, .ref lw2, rfl, rfl, SqT.of (t7 _ _ k1), rfl, lw2, _, 0, .str a, rfl, rfl, SqT.of (t7 _ _ k3), by rw [hlt]; rfl, ?_⟩
      have hL7 : (upd H6 L (.lst (labs.map V.str ++ [.str lab]))) L = some (.lst ((labs ++ [lab]).map V.str)) := by
        rw [upd_same, List.map_append]
        rfl
      have hR7 : (upd H6 L (.lst (labs.map V.str ++ [.str lab]))) R = some (.lst (us ++ [.ref g])) := by rw [upd_ne nRL]; exact hRR6
      have hT7 : (upd H6 L (.lst (labs.map V.str ++ [.str lab]))) T1 = some (.lst ((natsZ ts).map V.int)) := by rw [upd_ne nTL]; exact hT6
      have B7 := B6.updN (o := .lst (labs.map V.str ++ [.str lab])) nL0
      have R7 := R6.updN (o := .lst (labs.map V.str ++ [.str lab])) nLr
      have pr7 : Paired (RwAt (upd H6 L (.lst (labs.map V.str ++ [.str lab])))) (us ++ [.ref g]) (rows ++ [(((n : Nat) : Int) + 1, hNd (t : Int))]) := Paired.mapP pr6 fun _ _ x => x.tups t7
      obtain ⟨H7, hH7⟩ : ∃ H7, H7 = upd H6 L (.lst (labs.map V.str ++ [.str lab])) := ⟨_, rfl⟩
      rw [← hH7] at t7 hL7 hR7 hT7 B7 R7 pr7 ⊢
      have n0 : 0 < rows.length := (List.getElem?_eq_some_iff.mp h00).1
      obtain ⟨x0, x1, hsy⟩ : ∃ x0 x1, w.sy = [x0, x1] := by
        rcases hst with h | h
        · exact ⟨_, _, h⟩
        · exact ⟨_, _, h⟩
      refine if_nx ?_
      refine ts_ite (A := x0 ≠ "h") (fun Q q => ⟨_, rfl, gw, _, 1, .ref sw, rfl, rfl, SqT.of (t7 _ _ k1), rfl, sw, _, 0, .str x0, rfl, rfl, SqT.of (t7 _ _ k2), by rw [hsy]; rfl, rfl, _, rfl, q _ (by rw [decS]; simp)⟩) (fun hc => ?_) (fun hc => ?_)
      · refine ⟨_, rfl, .inl ⟨rfl, _, SqL.of hR7⟩, _, rfl, _, _, rfl, rfl, _, rfl, _, rfl, 1, rfl, by show 9 ≤ sizeLine; decide, fun g2 ng2 => ?_⟩
        have hrow2 : HO.tup [(fun i j : Int => V.int (i + j)) ((n : Nat) : Int) 2, V.str sort, V.str sort, V.int 7, V.int 0, V.int 1, V.int 2, (fun i : Int => V.int (-i)) 1, V.int 0] = HO.tup (rwV (((n : Nat) : Int) + 2, leafNd sort)) := rfl
        rw [hrow2]
        have v8 := same_upd (o := .tup (rwV (((n : Nat) : Int) + 2, leafNd sort))) ng2
        have hR8 := v8 _ _ hR7
        refine ⟨R, _, _, rfl, rfl, hR8, sz2 (by rw [List.length_append]; show us.length + 1 < _; omega), ?_⟩
        have t9 : Tups H7 (upd (upd H7 g2 (.tup (rwV (((n : Nat) : Int) + 2, leafNd sort)))) R (.lst (us ++ [.ref g] ++ [.ref g2]))) := (tups_new ng2).trans (tups_lst hR8)
        have hg9 := tups_lst (o := .lst (us ++ [.ref g] ++ [.ref g2])) hR8 _ _ upd_same
        have hL9 : (upd (upd H7 g2 (.tup (rwV (((n : Nat) : Int) + 2, leafNd sort)))) R (.lst (us ++ [.ref g] ++ [.ref g2]))) L = some (.lst ((labs ++ [lab]).map V.str)) := by rw [upd_ne nRL.symm]; exact v8 _ _ hL7
        refine ⟨_, rfl, .inl ⟨rfl, _, SqL.of hL9⟩, _, rfl, L, _, _, rfl, rfl, hL9, sz2 (by rw [List.length_map, List.length_append]; show labs.length + 1 < _; omega), ?_⟩
        have t10 := t9.trans (tups_lst (o := .lst ((labs ++ [lab]).map V.str ++ [.str a])) hL9)
        refine ⟨_, rfl, gw, _, 2, .ref lw2, rfl, rfl, SqT.of (t10 _ _ (t7 _ _ k1)), rfl, lw2, _, 1, .str b, rfl, rfl, SqT.of (t10 _ _ (t7 _ _ k3)), by rw [hlt]; rfl, ?_⟩
        refine ⟨_, _, b, us ++ [.ref g] ++ [.ref g2], rows ++ [(((n : Nat) : Int) + 1, hNd (t : Int))] ++ [(((n : Nat) : Int) + 2, leafNd sort)], labs ++ [lab] ++ [a], rfl, ((B7.trans (.of v8)).updN nR0).updN nL0, ((R7.same v8).updN nRr).updN nLr, by rw [upd_ne nTL, upd_ne nTR]; exact v8 _ _ hT7, by rw [upd_ne nRL, upd_same], paired_app (Paired.mapP pr7 fun _ _ x => x.tups t10) (.cons ⟨g2, rfl, (tups_lst hL9) _ _ hg9⟩ .nil), ?_, ?_, ?_, by rw [List.length_append, List.length_append]; show _ ≤ rows.length + 1 + 1; omega, ?_, pt.2 ?_⟩
        · rw [upd_same, List.map_append (l₂ := [a])]
          rfl
        · rw [List.length_append, List.length_append, List.length_append, List.length_append, llb]
          rfl
        · rw [List.length_append, List.length_append, (pend_pop ht hwt hlt).2 (by rw [hsy]; exact fun z => hc (Option.some.inj z))]
          show rows.length + 1 + 1 + _ ≤ _
          omega
        · rw [List.append_assoc, List.getElem?_append_left n0]
          exact h00
        · rw [hsy]
          intro z
          exact hc (Option.some.inj z)
      · have hc : x0 = "h" := Classical.byContradiction hc
        refine ⟨_, _, a, _, _, _, rfl, B7, R7, hT7, hR7, pr7, hL7, by rw [List.length_append, List.length_append, llb]; rfl, by rw [List.length_append, (pend_pop ht hwt hlt).1 (by rw [hsy, hc]; rfl)]; show rows.length + 1 + ((pendOf al sort ts n).length + 1) ≤ _; omega, by rw [List.length_append]; show _ ≤ rows.length + 1; omega, by rw [List.getElem?_append_left n0]; exact h00, pt.1 (by rw [hsy, hc]; rfl)⟩
    · rintro σ H5 ⟨y7, y9, lab, us, rows, labs, rfl, B5, R5, hT5, hR5, pr, hL5, llb, lrw, lrl, h00, PD⟩
      rw [show ((m : Nat) : Int).toNat = m by omega] at lrw lrl PD
      have lus := paired_len pr
      obtain ⟨w1, hw1, hl1⟩ := DW.h1
      refine ⟨_, rfl, .inl ⟨rfl, _, SqL.of hR5⟩, _, rfl, _, _, rfl, rfl, by show 9 ≤ sizeLine; decide, fun g ng => ?_⟩
      have hrow : HO.tup [(fun i j : Int => V.int (i + j)) ((m : Nat) : Int) 1, V.str "h", V.str "h", V.int 8, V.int 0, V.int 0, V.int 9, V.int 1, V.int 0] = HO.tup (rwV (((m : Nat) : Int) + 1, lastNd)) := rfl
      rw [hrow]
      have v6 := same_upd (o := .tup (rwV (((m : Nat) : Int) + 1, lastNd))) ng
      have hR6 := v6 _ _ hR5
      refine ⟨R, _, _, rfl, rfl, hR6, sz2 (by omega), ?_⟩
      have t6 : Tups H5 (upd (upd H5 g (.tup (rwV (((m : Nat) : Int) + 1, lastNd)))) R (.lst (us ++ [.ref g]))) := (tups_new ng).trans (tups_lst hR6)
      have hg6 : (upd (upd H5 g (.tup (rwV (((m : Nat) : Int) + 1, lastNd)))) R (.lst (us ++ [.ref g]))) g = some (.tup (rwV (((m : Nat) : Int) + 1, lastNd))) := tups_lst hR6 _ _ upd_same
      have hL6 : (upd (upd H5 g (.tup (rwV (((m : Nat) : Int) + 1, lastNd)))) R (.lst (us ++ [.ref g]))) L = some (.lst (labs.map V.str)) := by rw [upd_ne nRL.symm]; exact v6 _ _ hL5
      have hRR6 : (upd (upd H5 g (.tup (rwV (((m : Nat) : Int) + 1, lastNd)))) R (.lst (us ++ [.ref g]))) R = some (.lst (us ++ [.ref g])) := upd_same
      have nTR : T1 ≠ R := fun z => by
        rw [z, hR2] at nT
        cases nT
      have nTL : T1 ≠ L := fun z => by
        rw [z, hL3] at nT
        cases nT
      have hT6 : (upd (upd H5 g (.tup (rwV (((m : Nat) : Int) + 1, lastNd)))) R (.lst (us ++ [.ref g]))) T1 = some (.lst ((natsZ ts).map V.int)) := by rw [upd_ne nTR]; exact v6 _ _ hT5
      have B6 : But r H (upd (upd H5 g (.tup (rwV (((m : Nat) : Int) + 1, lastNd)))) R (.lst (us ++ [.ref g]))) := (B5.trans (.of v6)).updN nR0
      have R6 : ReelAt (upd (upd H5 g (.tup (rwV (((m : Nat) : Int) + 1, lastNd)))) R (.lst (us ++ [.ref g]))) r := (R5.same v6).updN nRr
      obtain ⟨H6, hH6⟩ : ∃ H6, H6 = upd (upd H5 g (.tup (rwV (((m : Nat) : Int) + 1, lastNd)))) R (.lst (us ++ [.ref g])) := ⟨_, rfl⟩
      rw [← hH6] at t6 hg6 hL6 hRR6 hT6 B6 R6 ⊢
      have pr6 : Paired (RwAt H6) (us ++ [.ref g]) (rows ++ [(((m : Nat) : Int) + 1, lastNd)]) := paired_app (Paired.mapP pr fun _ _ x => x.tups t6) (.cons ⟨g, rfl, hg6⟩ .nil)
      refine ⟨_, rfl, .inl ⟨rfl, _, SqL.of hL6⟩, _, rfl, L, _, _, rfl, rfl, hL6, sz2 (by rw [List.length_map]; omega), ?_⟩
      have hL7 : (upd H6 L (.lst (labs.map V.str ++ [.str lab]))) L = some (.lst ((labs ++ [lab]).map V.str)) := by
        rw [upd_same, List.map_append]
        rfl
      have hR7 : (upd H6 L (.lst (labs.map V.str ++ [.str lab]))) R = some (.lst (us ++ [.ref g])) := by rw [upd_ne nRL]; exact hRR6
      have hT7 : (upd H6 L (.lst (labs.map V.str ++ [.str lab]))) T1 = some (.lst ((natsZ ts).map V.int)) := by rw [upd_ne nTL]; exact hT6
      have B7 := B6.updN (o := .lst (labs.map V.str ++ [.str lab])) nL0
      have R7 := R6.updN (o := .lst (labs.map V.str ++ [.str lab])) nLr
      have pr7 : Paired (RwAt (upd H6 L (.lst (labs.map V.str ++ [.str lab])))) (us ++ [.ref g]) (rows ++ [(((m : Nat) : Int) + 1, lastNd)]) := Paired.mapP pr6 fun _ _ x => x.tups (tups_lst hL6)
      have PD7 : Pend al 0 (pendOf al sort ts m) (rows ++ [(((m : Nat) : Int) + 1, lastNd)]) (labs ++ [lab]) := PD.inner (bs := []) (t := 1) rfl hw1 (fun b hb => absurd hb List.not_mem_nil) hl1.symm
      have n0 : 0 < rows.length := (List.getElem?_eq_some_iff.mp h00).1
      obtain ⟨H7, hH7⟩ : ∃ H7, H7 = upd H6 L (.lst (labs.map V.str ++ [.str lab])) := ⟨_, rfl⟩
      rw [← hH7] at hL7 hR7 hT7 B7 R7 pr7 ⊢
      have h07 : (rows ++ [(((m : Nat) : Int) + 1, lastNd)])[0]? = some (0, (⟨"s", "s", 0, 0, 0, 9, 0, 0⟩ : Nd)) := by rw [List.getElem?_append_left n0]; exact h00
      have lb7 : (labs ++ [lab]).length = (rows ++ [(((m : Nat) : Int) + 1, lastNd)]).length := by rw [List.length_append, List.length_append, llb]; rfl
      have lr7 : (rows ++ [(((m : Nat) : Int) + 1, lastNd)]).length + (pendOf al sort ts m).length ≤ 2 * m + 2 := by
        rw [List.length_append]
        show rows.length + 1 + _ ≤ _
        omega
      have ll7 : m + 2 ≤ (rows ++ [(((m : Nat) : Int) + 1, lastNd)]).length := by
        rw [List.length_append]
        show _ ≤ rows.length + 1
        omega
      refine ⟨_, rfl, _, _, rfl, rfl, 1, rfl, 1, rfl, _, _, _, m, rfl, rg_down (by omega), ?_⟩
      refine for_it (walk_rangeC (lo := ((m : Nat) : Int) - 1) (c := -1) (n := m)) (fun i σ H' => i ≤ m ∧ ∃ (y7 y8 y9 : Option V) (us : List V) (rows : List Rw) (labs : List Str), σ = [some (.ref r), some (.ref wl), some (.str sort), some (.int (m : Int)), some (.ref R), some (.ref L), some (.ref T1), y7, y8, y9] ∧ But r H H' ∧ ReelAt H' r ∧ H' T1 = some (.lst ((natsZ ts).map V.int)) ∧
        H' R = some (.lst us) ∧ Paired (RwAt H') us rows ∧ H' L = some (.lst (labs.map V.str)) ∧ labs.length = rows.length ∧ rows.length + (pendOf al sort ts (m - i)).length ≤ 2 * m + 2 ∧ m + 2 ≤ rows.length ∧ rows[0]? = some (0, (⟨"s", "s", 0, 0, 0, 9, 0, 0⟩ : Nd)) ∧ Pend al 0 (pendOf al sort ts (m - i)) rows labs)
        ⟨Nat.zero_le _, _, _, _, _, _, _, rfl, B7, R7, hT7, hR7, pr7, hL7, lb7, lr7, ll7, h07, PD7⟩ (fun _ _ _ _ _ => True.intro) ?_ ?_
      · clear PD7 lr7 lb7 h07 pr7 hR7 hL7 hT7 B7 R7 PD lrw h00 llb pr
        rintro i x σ H9 H8 hi ⟨_, y7, y8, y9, us, rows, labs, rfl, B8, R8, hT8, hR8, pr, hL8, llb, lrw, lrl, h00, PD⟩ ⟨rfl, hxe⟩
        obtain ⟨k, hk⟩ : ∃ k, k = m - 1 - i := ⟨_, rfl⟩
        have ek : ((m : Nat) : Int) - 1 + ((i : Nat) : Int) * -1 = (k : Int) := by omega
        have ekn : m - i = k + 1 := by omega
        have ekn2 : m - (i + 1) = k := by omega
        obtain rfl : x = V.int (k : Int) := hxe.trans (congrArg V.int ek)
        rw [ekn] at lrw PD
        have lus := paired_len pr
        obtain ⟨t, ht⟩ : ∃ t, ts[k]? = some t := ⟨_, List.getElem?_eq_getElem (by omega)⟩
        obtain ⟨t2, t6⟩ := ot t (List.mem_of_getElem? ht)
        obtain ⟨w, a, b, hwt, hlt, hst⟩ := DW.hk t t2 t6
        have pp := pend_pop (sort := sort) ht hwt hlt
        obtain ⟨v1, hv1, gw, sw, lw2, rfl, j1, j2, j3⟩ := paired_get (pwn B8) hwt
        have hTi : ((natsZ ts).map V.int)[k]? = some (.int (t : Int)) := by
          unfold natsZ
          rw [List.map_map, List.getElem?_map, ht]
          rfl
        have n0 : 0 < rows.length := (List.getElem?_eq_some_iff.mp h00).1
        obtain ⟨x0, x1, hsy⟩ : ∃ x0 x1, w.sy = [x0, x1] := by
          rcases hst with h | h
          · exact ⟨_, _, h⟩
          · exact ⟨_, _, h⟩
        refine ⟨_, rfl, _, rfl, _, rfl, T1, _, _, .int (t : Int), rfl, rfl, SqL.of hT8, atI_nat hTi, wl, _, _, .ref gw, rfl, rfl, SqL.of (B8 _ _ nwr hw), atI_nat hv1, ?_⟩
        refine if_nx ?_
        refine ts_ite (A := x0 = "h") (fun Q q => ⟨_, rfl, gw, _, 1, .ref sw, rfl, rfl, SqT.of j1, rfl, sw, _, 0, .str x0, rfl, rfl, SqT.of j2, by rw [hsy]; rfl, rfl, _, rfl, q _ (by rw [decS]; simp)⟩) (fun hc => ?_) (fun hc => ?_)
        · have ep := pp.1 (by rw [hsy, hc]; rfl)
          rw [ep] at lrw PD
          refine ⟨_, rfl, .inl ⟨rfl, _, SqL.of hR8⟩, _, rfl, _, _, rfl, rfl, _, rfl, _, rfl, 1, rfl, by show 9 ≤ sizeLine; decide, fun g2 ng2 => ?_⟩
          have hrow2 : HO.tup [(fun i j : Int => V.int (i + j)) ((k : Nat) : Int) 2, V.str sort, V.str sort, V.int 7, V.int 0, V.int 1, V.int 2, (fun i : Int => V.int (-i)) 1, V.int 0] = HO.tup (rwV (((k : Nat) : Int) + 2, leafNd sort)) := rfl
          rw [hrow2]
          have v8 := same_upd (o := .tup (rwV (((k : Nat) : Int) + 2, leafNd sort))) ng2
          have hR9 := v8 _ _ hR8
          refine ⟨R, _, _, rfl, rfl, hR9, sz2 (by omega), ?_⟩
          have t9 : Tups H8 (upd (upd H8 g2 (.tup (rwV (((k : Nat) : Int) + 2, leafNd sort)))) R (.lst (us ++ [.ref g2]))) := (tups_new ng2).trans (tups_lst hR9)
          have hg9 := tups_lst (o := .lst (us ++ [.ref g2])) hR9 _ _ upd_same
          have hL9 : (upd (upd H8 g2 (.tup (rwV (((k : Nat) : Int) + 2, leafNd sort)))) R (.lst (us ++ [.ref g2]))) L = some (.lst (labs.map V.str)) := by rw [upd_ne nRL.symm]; exact v8 _ _ hL8
          refine ⟨_, rfl, .inl ⟨rfl, _, SqL.of hL9⟩, _, rfl, gw, _, 2, .ref lw2, rfl, rfl, SqT.of (t9 _ _ j1), rfl, lw2, _, 1, .str b, rfl, rfl, SqT.of (t9 _ _ j3), by rw [hlt]; rfl, L, _, _, rfl, rfl, hL9, sz2 (by rw [List.length_map]; omega), ?_⟩
          have t10 := t9.trans (tups_lst (o := .lst (labs.map V.str ++ [.str b])) hL9)
          refine ⟨by omega, _, _, _, us ++ [.ref g2], rows ++ [(((k : Nat) : Int) + 2, leafNd sort)], labs ++ [b], rfl, ((B8.trans (.of v8)).updN nR0).updN nL0, ((R8.same v8).updN nRr).updN nLr, by rw [upd_ne nTL, upd_ne nTR]; exact v8 _ _ hT8, by rw [upd_ne nRL, upd_same], paired_app (Paired.mapP pr fun _ _ x => x.tups t10) (.cons ⟨g2, rfl, (tups_lst hL9) _ _ hg9⟩ .nil), ?_, ?_, ?_, by rw [List.length_append]; show _ ≤ rows.length + 1; omega, ?_, ?_⟩
          · rw [upd_same, List.map_append (l₂ := [b])]
            rfl
          · rw [List.length_append, List.length_append, llb]
            rfl
          · rw [List.length_append, ekn2]
            show rows.length + 1 + _ ≤ _
            rw [List.length_cons] at lrw
            omega
          · rw [List.getElem?_append_left n0]
            exact h00
          · rw [ekn2]
            exact PD.leaf (d := leafNd sort) rfl (show (0 : Int) ≤ 1 by decide)
        · have ep := pp.2 (by rw [hsy]; exact fun z => hc (Option.some.inj z))
          rw [ep] at lrw PD
          exact ⟨by omega, _, _, _, _, _, _, rfl, B8, R8, hT8, hR8, pr, hL8, llb, by rw [ekn2]; exact lrw, lrl, h00, by rw [ekn2]; exact PD⟩
      · rintro σ H8 ⟨_, y7', y8, y9, us, rows, labs, rfl, B8, R8, hT8, hR8, pr, hL8, llb, lrw, lrl, h00, PD⟩
        rw [Nat.sub_self] at lrw PD
        obtain ⟨pt, gt, ef, el⟩ := PD.done
        have lrw : rows.length ≤ 2 * m + 2 := by
          have : (pendOf al sort ts 0).length = 0 := rfl
          omega
        refine ⟨_, rfl, _, rfl, by show 2 ≤ sizeLine; decide, fun G nG => ?_⟩
        have v9 := same_upd (o := .lst [.ref R, .ref L]) nG
        refine q G _ ⟨R, L, us, rows, labs, pt, upd_same, v9 _ _ hR8, Paired.mapP pr fun _ _ x => x.tups (tups_new nG), v9 _ _ hL8, gt, ef, el, by omega, ?_, ⟨_, h00, ?_⟩, fun z => absurd z (by decide)⟩ ⟨R, L, us, upd_same, v9 _ _ hR8, by rw [paired_len pr]; exact lrl⟩ (B8.trans (.of v9)) (R8.same v9) ?_
        · have := (List.getElem?_eq_some_iff.mp h00).1
          omega
        · exact ⟨rfl, Int.le_refl _, show ("s" : Str) ≠ "root" by decide +kernel⟩
        · exact B8.free (R8.ne nG).symm nG

/-! ### parts of a tree side by side, under a new top -/
mutual
theorem spots_fok {x : Spot} : ∀ {t : Tr} {pl : Int}, FOk t → x ∈ t.spots pl → FOk x.2.2
  | .mk p d ks, pl, h, hx => by
    rcases List.mem_cons.mp hx with rfl | hx
    · exact h
    · exact spotsL_fok h.2.2 hx
theorem spotsL_fok {x : Spot} : ∀ {ts : List Tr} {pl : Int} {i : Nat}, FOks ts → x ∈ spotsL pl i ts → FOk x.2.2
  | [], _, _, _, hx => absurd hx List.not_mem_nil
  | t :: ts, pl, i, h, hx => by
    rcases List.mem_append.mp hx with hx | hx
    · obtain ⟨y, hy, rfl⟩ := List.mem_map.mp hx
      exact spots_fok (x := y) h.1 hy
    · exact spotsL_fok h.2 hx
end
def subT (t : Tr) (a : Nat) : Tr := match (t.spots 0)[a]? with
  | some x => x.2.2
  | none => t
theorem TreeIn.subAt {C : Addr} {H : Hp} {l m : Addr} {us : List V} {rows : List Rw} {as : List Addr} {t : Tr} (h : TreeIn K C H l m us rows as t) {a : Nat} (ha : a < rows.length) : ∃ pa qa, (t.spots 0)[a]? = some (pa, qa, subT t a) ∧ rows[a]? = some (((pa.length : Nat) : Int), (subT t a).d) ∧ as[a]? = some (subT t a).at := by
  obtain ⟨pi, s, h1, h2, h3, h4⟩ := h.spot 0 ha
  have e : subT t a = s := by
    unfold subT
    rw [h2]
  rw [e]
  exact ⟨pi, _, h2, h4, h3⟩
theorem TreeIn.subLe {C : Addr} {H : Hp} {l m : Addr} {us : List V} {rows : List Rw} {as : List Addr} {t : Tr} (h : TreeIn K C H l m us rows as t) {a : Nat} (ha : a < rows.length) : (subT t a).ats.length ≤ rows.length := by
  obtain ⟨pa, qa, hsa, _⟩ := h.subAt ha
  obtain ⟨l0, rest, el⟩ := labsT_drop (al := []) (lab := "") hsa
  have e := congrArg List.length el
  rw [List.length_drop, List.length_append, labsT_len, labsT_len] at e
  have : t.ats.length = rows.length := by rw [h.ats, h.len]
  omega
theorem Fl_ats (t : Tr) (l : Int) : (Fl t l).length = t.ats.length := by
  unfold Fl
  rw [List.length_map, ras_len]
theorem ats_pos (t : Tr) : 0 < t.ats.length := by
  cases t
  exact Nat.succ_pos _
/-- what a slice of the rows, the labels and the nodes holds -/
structure SliceAt (al : List Way) (t : Tr) (rows : List Rw) (as : List Addr) (a e n : Nat) (lv : Int) : Prop where
  n1 : 1 ≤ n
  ln : (subT t a).ats.length = n
  e : e = a + n
  le : a + n ≤ rows.length
  row : ∃ d, rows[a]? = some (lv, d)
  fl : Fl (subT t a) 1 = ((rows.drop a).take n).map fun x => (x.1 - lv + 1, x.2)
  ads : (as.drop a).take n = (subT t a).ats
  lab : ∀ X, X :: ((labsT al t "").drop (a + 1)).take (n - 1) = labsT al (subT t a) X
theorem TreeIn.slice {C : Addr} {H : Hp} {l m : Addr} {us : List V} {rows : List Rw} {as : List Addr} {t : Tr} (h : TreeIn K C H l m us rows as t) (al : List Way) {a e : Nat} (he : EndIs rows a e) (ha : a < rows.length) : ∃ n lv, SliceAt al t rows as a e n lv := by
  obtain ⟨pa, qa, hsa, hra, _⟩ := h.subAt ha
  have PA := h.part he hsa
  have n1 := ats_pos (subT t a)
  refine ⟨(subT t a).ats.length, ((pa.length : Nat) : Int), n1, rfl, PA.e, PA.le, ⟨_, hra⟩, ?_, PA.ads, fun X => ?_⟩
  · rw [PA.rs, List.map_map]
    unfold Fl
    have e2 : (subT t a).ras 1 = (subT t a).ras (((pa.length : Nat) : Int) + (1 - ((pa.length : Nat) : Int))) := by rw [show ((pa.length : Nat) : Int) + (1 - ((pa.length : Nat) : Int)) = 1 by omega]
    rw [e2, ras_lift, List.map_map]
    refine List.map_congr_left fun x _ => ?_
    show ((x.1 + (1 - ((pa.length : Nat) : Int)), x.2.1) : Rw) = (x.1 - ((pa.length : Nat) : Int) + 1, x.2.1)
    rw [show x.1 + (1 - ((pa.length : Nat) : Int)) = x.1 - ((pa.length : Nat) : Int) + 1 by omega]
  · obtain ⟨l0, rest, el⟩ := labsT_drop (al := al) (lab := "") hsa
    have e3 : (labsT al t "").drop (a + 1) = (labsT al (subT t a) X).drop 1 ++ rest := by
      rw [← List.drop_drop, el, List.drop_append_of_le_length (by rw [labsT_len]; omega), labsT_tail (l2 := X)]
    have l3 : ((labsT al (subT t a) X).drop 1).length = (subT t a).ats.length - 1 := by rw [List.length_drop, labsT_len]
    rw [e3, List.take_append_of_le_length (by omega), List.take_of_length_le (by omega)]
    cases hs : subT t a with
    | mk p d ks => rfl
theorem rasOf_self (t : Tr) (l : Int) : t.ras l = rasOf (Fl t l) t.ats := by
  have e : ∀ xs : List Ra, rasOf (xs.map fun x => (x.1, x.2.1)) (xs.map fun x => x.2.2) = xs := fun xs => by
    induction xs with
    | nil => rfl
    | cons x xs ih =>
      show x :: rasOf (xs.map fun x => (x.1, x.2.1)) (xs.map fun x => x.2.2) = x :: xs
      rw [ih]
  rw [← ats_ras t l]
  exact (e (t.ras l)).symm
theorem FOks.wids {ks ks' : List Tr} (h : LikeTs FitN ks ks') (k : FOks ks) (k' : FOks ks') : sumZ (wids ks') = sumZ (wids ks) := (likes_fit h k k').2.1
/-- rows that were fitted below a new top: only the top has changed -/
theorem fit_top {d0 : Nd} {ks : List Tr} {rows' : List Rw} {ws : List Wt} (hF : FOks ks) (hl : leafB d0 = false) (hp : Paired FitE (Fl (.mk (0 : Addr) d0 ks) 0) rows') (hf : FitOk rows' ws) :
    ∃ d', FitN d0 d' ∧ ∀ p : Addr, Fl (.mk p d' ks) 0 = rows' ∧ WOk (.mk p d' ks) := by
  obtain ⟨as, has⟩ : ∃ as : List Addr, as = (Tr.mk (0 : Addr) d0 ks).ats := ⟨_, rfl⟩
  have la : as.length = rows'.length := by rw [has, ← Fl_ats _ 0, ← paired_len hp]
  have e1 : (rasOf rows' as).map (fun x : Ra => ((x.1, x.2.1) : Rw)) = rows' := rasOf_map la
  have hp2 := hp
  rw [← e1] at hp2
  obtain ⟨t', e2, k⟩ := relab (paired_maps hp2)
  have fo := fit_fok hf la e2
  cases t' with
  | mk p' d' ks' =>
    have fn : FitN d0 d' := k.1
    have le : leafB d' = false := by rw [fn.leaf]; exact hl
    obtain ⟨q1, q2, _⟩ := likes_fit k.2 hF fo.2.2
    have er := likes_rows (l := 0 + 1) q1
    refine ⟨d', fn, fun p => ⟨?_, fun _ => ?_, fun z => (by rw [le] at z; cases z), FOks.wok hF⟩⟩
    · rw [← e1, ← e2]
      show (0, d') :: (rasL (0 + 1) ks).map _ = (0, d') :: (rasL (0 + 1) ks').map _
      rw [er]
    · rw [← q2]
      exact (fo.1 le).1
theorem ReelAt.sameS {H : Hp} {r : Addr} (h : ReelAt H r) : ∃ us, H r = some (.lst us) := by
  obtain ⟨z, c, h1, _⟩ := h
  exact ⟨_, h1⟩
theorem GrIn.but {C : Addr} {H H' : Hp} {p r : Addr} {g : Gm} {al : List Way} {hid : List Str} (h : GrIn K C H p g al hid) (b : But r H H') (R : ReelAt H r) : GrIn K C H' p g al hid := by
  obtain ⟨us, h1, h2⟩ := h.als
  obtain ⟨dx, h3⟩ := h.at_
  obtain ⟨zs, hz⟩ := R.sameS
  exact ⟨⟨dx, b _ _ (fun z => by rw [z, hz] at h3; cases h3) h3⟩, ⟨us, b.tups R _ _ h1, Paired.mapP h2 fun _ _ x => x.tups (b.tups R)⟩, b.tups R _ _ h.hds, h.sh⟩
/-- rows, labels and nodes so far -/
structure SideAt (al : List Way) (pre : List Rw) (prl : List Str) (prb : List V) (f : Nat → Str × Tr) (j : Nat) (H : Hp) (o mk b : Addr) : Prop where
  ro : ∃ us, H o = some (.lst us) ∧ Paired (RwAt H) us (pre ++ ((List.range j).map fun k => Fl (f k).2 1).flatten)
  ma : H mk = some (.lst ((prl ++ ((List.range j).map fun k => labsT al (f k).2 (f k).1).flatten).map V.str))
  be : H b = some (.lst (prb ++ (((List.range j).map fun k => (f k).2.ats).flatten).map V.ref))
theorem flat_snoc {α : Type} (f : Nat → List α) (j : Nat) : ((List.range (j + 1)).map f).flatten = ((List.range j).map f).flatten ++ f j := by
  rw [List.range_succ, List.map_append, List.flatten_append]
  show _ ++ (f j ++ []) = _
  rw [List.append_nil]
theorem flat_le {α : Type} {f : Nat → List α} {N : Nat} (h : ∀ k, (f k).length ≤ N) : ∀ j, (((List.range j).map f).flatten).length ≤ j * N
  | 0 => Nat.zero_le _
  | j + 1 => by
    have ih := flat_le h j
    have := h j
    rw [flat_snoc, List.length_append, Nat.add_mul]
    omega
theorem SideAt.next {al : List Way} {pre : List Rw} {prl : List Str} {prb : List V} {f : Nat → Str × Tr} {j : Nat} {H H' : Hp} {o mk b o2 mk2 b2 : Addr} {us vs : List V} {ls : List Str} {as : List Addr} (h : SideAt al pre prl prb f j H o mk b) (s : Same H H') (hu : H o = some (.lst us)) (h1 : H' o2 = some (.lst (us ++ vs))) (hv : Paired (RwAt H') vs (Fl (f j).2 1))
    (h2 : H' mk2 = some (.lst (((prl ++ ((List.range j).map fun k => labsT al (f k).2 (f k).1).flatten).map V.str ++ [V.str (f j).1]) ++ ls.map V.str))) (hl : (f j).1 :: ls = labsT al (f j).2 (f j).1)
    (h3 : H' b2 = some (.lst ((prb ++ (((List.range j).map fun k => (f k).2.ats).flatten).map V.ref) ++ as.map V.ref))) (ha : as = (f j).2.ats) : SideAt al pre prl prb f (j + 1) H' o2 mk2 b2 := by
  obtain ⟨us', hu', hp⟩ := h.ro
  rw [hu] at hu'
  injection hu' with hu'
  injection hu' with hu'
  subst hu'
  refine ⟨⟨_, h1, ?_⟩, ?_, ?_⟩
  · rw [flat_snoc, ← List.append_assoc]
    exact paired_app (Paired.mapP hp fun _ _ x => x.tups fun b xs e => s b _ e) hv
  · rw [h2, flat_snoc, ← hl]
    simp [List.map_append, List.append_assoc]
  · rw [h3, flat_snoc, ha, List.map_append, List.append_assoc]
theorem SideAt.same {al : List Way} {pre : List Rw} {prl : List Str} {prb : List V} {f : Nat → Str × Tr} {j : Nat} {H H' : Hp} {o mk b : Addr} (h : SideAt al pre prl prb f j H o mk b) (s : Same H H') : SideAt al pre prl prb f j H' o mk b := by
  obtain ⟨us, h1, h2⟩ := h.ro
  exact ⟨⟨us, s _ _ h1, Paired.mapP h2 fun _ _ x => x.tups fun b xs e => s b _ e⟩, s _ _ h.ma, s _ _ h.be⟩
theorem TreeIn.subAlt {C : Addr} {H : Hp} {l m : Addr} {us : List V} {rows : List Rw} {as : List Addr} {t : Tr} {al : List Way} (h : TreeIn K C H l m us rows as t) (ha : AltOk al t) {a : Nat} (hr : a < rows.length) : AltOk al (subT t a) := by
  obtain ⟨pa, qa, hsa, _⟩ := h.subAt hr
  exact follow_alt ha (spots_follow (List.mem_of_getElem? hsa))
theorem TreeIn.subFok {C : Addr} {H : Hp} {l m : Addr} {us : List V} {rows : List Rw} {as : List Addr} {t : Tr} (h : TreeIn K C H l m us rows as t) (ha : FOk t) {a : Nat} (hr : a < rows.length) : FOk (subT t a) := by
  obtain ⟨pa, qa, hsa, _⟩ := h.subAt hr
  exact spots_fok (x := (pa, qa, subT t a)) ha (List.mem_of_getElem? hsa)
theorem TreeIn.subNode {C : Addr} {H : Hp} {l m : Addr} {us : List V} {rows : List Rw} {as : List Addr} {t : Tr} (h : TreeIn K C H l m us rows as t) {a : Nat} (hr : a < rows.length) : NodeAt K C H (subT t a) := by
  obtain ⟨pa, qa, hsa, _⟩ := h.subAt hr
  exact follow_node h.nd (spots_follow (List.mem_of_getElem? hsa))
theorem rwsL_cons (l : Int) (t : Tr) (ts : List Tr) : rwsL l (t :: ts) = Fl t l ++ rwsL l ts := List.map_append
theorem flat3 {α : Type} (g : Nat → List α) : ((List.range 3).map g).flatten = g 0 ++ (g 1 ++ (g 2 ++ [])) := rfl
mutual
theorem FOk.alone : ∀ {t : Tr} {l : Int}, FOk t → Alone (Fl t l)
  | .mk p d ks, l, h => by
    refine Alone.cons (x := (l, d)) (ys := rwsL (l + 1) ks) (FOks.alone h.2.2) fun hl => ?_
    obtain ⟨rfl, w⟩ := h.2.1 hl
    exact ⟨w, fun y e => by cases e⟩
theorem FOks.alone : ∀ {ts : List Tr} {l : Int}, FOks ts → Alone (rwsL l ts)
  | [], _, _ => Alone.nil
  | t :: ts, l, h => by
    show Alone ((t.ras l ++ rasL l ts).map fun x => (x.1, x.2.1))
    rw [List.map_append]
    refine Alone.app (lv := l) (FOk.alone h.1) (FOks.alone h.2) (fun x hx => ?_) (fun y hy => ?_)
    · obtain ⟨z, hz, rfl⟩ := List.mem_map.mp hx
      exact ras_ge hz
    · rw [List.head?_map] at hy
      cases e : (rasL l ts).head? with
      | none =>
        rw [e] at hy
        cases hy
      | some z =>
        rw [e] at hy
        obtain rfl : (z.1, z.2.1) = y := Option.some.inj hy
        exact rasL_head e
end
theorem top_alone {d : Nd} {ks : List Tr} (h : FOks ks) (hl : leafB d = false) : Alone (Fl (.mk (0 : Addr) d ks) 0) :=
  Alone.cons (x := (0, d)) (ys := rwsL (0 + 1) ks) (FOks.alone h) fun z => by
    rw [show leafB ((0, d) : Rw).2 = leafB d from rfl, hl] at z
    cases z
theorem ats_cons (p : Addr) (d : Nd) (ks : List Tr) : (Tr.mk p d ks).ats = p :: atsL ks := rfl
theorem ixN_zero {n : Nat} (h : 0 < n) : ixN n 0 = some 0 := by
  unfold ixN
  rw [if_pos (by omega), if_pos (by omega)]
  rfl
theorem kb_Node6p (T : Txt K mg) : ∃ mv, KBn K T.fd_Node_init psN 3 ["state", "lead", "width", "look", "nodes", "popped"] (fun us ws => us ++ ws.take 4 ++ mv ++ ws.drop 4) (fun vs zs => vs ++ zs.take 4 ++ [.int (-1)] ++ zs.drop 4) :=
  T.FD_Node_init.kbinds0 3 ["state", "lead", "width", "look", "nodes", "popped"] [("alternative", .int (-1))] (fun a b c => a ++ c.take 4 ++ b ++ c.drop 4) (List.cons_ne_nil _ _) (fun _ h => by rw [List.mem_singleton.mp h]; exact List.mem_cons_self) (fun r1 r2 r3 => ((r1.append (paired_take 4 r3)).append r2).append (paired_drop 4 r3)) fun D doc pm an cdv ct us mv ws l1 l2 l3 => by
    match us, l1, mv, l2, ws, l3 with
    | [u1, u2, u3], _, [m1], _, [w1, w2, w3, w4, w5, w6], _ => exact ⟨_, _, _, _, _, _, rfl, rfl, rfl⟩

/-! ### _law_twice_holds -/
def spTwiceS (K : PySem.W.Frag) (C CG : Addr) (al : List Way) : Sp := fun vs H Q _ => ∃ (r p vl l lb m : Addr) (g : Gm) (us : List V) (rows : List Rw) (as : List Addr) (t : Tr) (hid : List Str) (name : Str) (skip : Nat), vs = [.ref r, .ref p, .str name, .ref vl, .ref l, .ref lb, .ref m] ∧
  ReelAt H r ∧ GrIn K CG H p g al hid ∧ TreeIn K C H l m us rows as t ∧ FOk t ∧ AltOk al t ∧ H lb = some (.lst ((labsT al t "").map V.str)) ∧ H vl = some (.lst (hid.map V.str)) ∧ rows.length ≤ 110 ∧ 2 * skip + 1 ≤ rows.length ∧ skip ≤ 1 ∧ (∀ x, rows[0]? = some x → (x.2.kind = ("root" : Str) ↔ skip = 1)) ∧
  l ≠ r ∧ m ≠ r ∧ lb ≠ r ∧ vl ≠ r ∧ ∀ H', But r H H' → ReelAt H' r → Q (.bl true) H'
theorem ok_twice_holds (T : Txt K mg) (al : List Way) : FnOk P w K mg base CX0 4 T.a_law_twice_holds T.fd_law_twice_holds ["reel", "grammar", "name", "veiled", "rows", "labels", "made"] (spTwiceS K T.C_Node T.C_Grammar al) := by
  have G_law_draw : FnOk P w K mg base CX0 1 T.a_law_draw T.fd_law_draw ["reel", "size"] spDraw := ok_draw T
  have G_law_end : FnOk P w K mg base CX0 1 T.a_law_end T.fd_law_end ["rows", "at"] spEnd := ok_end T
  have G_law_fitted : FnOk P w K mg base CX0 2 T.a_law_fitted T.fd_law_fitted ["rows"] spFitted := ok_fitted T
  have G_Node_init : FnOk P w K mg base CX0 1 T.a_Node_init T.fd_Node_init psN (spNInit K T.C_Node) := ok_Node_init T
  have G_law_agrees : FnOk P w K mg base CX0 3 T.a_law_agrees T.fd_law_agrees ["grammar", "veiled", "rows", "labels", "made", "asked"] (spAgrees K T.C_Node T.C_Grammar) := ok_agrees T
  refine T.F_law_twice_holds.ok sc_law_twice_holds (fun vs H Q E h => ?_) (fun cdv A outer s H vs Q E hr h => ?_)
  · obtain ⟨r, p, vl, l, lb, m, g, us, rows, as, t, hid, name, skip, rfl, _⟩ := h
    rfl
  · have hr_law_draw : Room 1 _ := hr.mono (by decide)
    have hr_law_end : Room 1 _ := hr.mono (by decide)
    have hr_law_fitted : Room 2 _ := hr.mono (by decide)
    have hr_Node_init : Room 2 _ := hr.mono (by decide)
    have hr_law_agrees : Room 3 _ := hr
    obtain ⟨r, p, vl, l, lb, m, g, us, rows, as, t, hid, name, skip, rfl, R, GI, TI, fok, aok, hlb, hvl, lrw, lsk, lsk1, hrt, nl, nm, nlb, nvl, q⟩ := h
    refine ⟨_, (pss_cons (ps_set (i := 7) sc_law_twice_holds.nd rfl (.inl rfl) (pe_callTy call_int1 (by rfl) T.m_int (by decide +kernel) (pa_cons (pe_cmpR op_eq (pe_ix ix_tup (pe_ix ix_list (pv 4) pe_int (fun _ _ => rfl)) pe_int (fun _ _ => rfl)) pe_str (nomark _)) pa_nil)))
      (pss_cons (ps_set (i := 8) sc_law_twice_holds.nd rfl (.inl rfl) (pe_lst (pa_cons (pv 7) (pa_cons (pe_op op_add (pv 7) (pe_op op_modN (pe_call G_law_draw hr_law_draw (by rfl) T.g_law_draw T.F_law_draw.kp T.b_law_draw .nil pass0 (pa_cons (pv 0) (pa_cons pe_int pa_nil))) (pe_callB (call_max2 rfl) (by rfl) T.m_max (by decide +kernel) (pa_cons pe_int (pa_cons (pe_op op_sub (pe_callB call_len_seq (by rfl) T.m_len PySem.boot_len (pa_cons (pv 4) pa_nil)) (pe_op op_mul pe_int (pv 7))) pa_nil))))) pa_nil))))
      (C8.pss_cut (ps_if (pt_cmpR op_eq (pe_call G_law_draw hr_law_draw (by rfl) T.g_law_draw T.F_law_draw.kp T.b_law_draw .nil pass0 (pa_cons (pv 0) (pa_cons pe_int pa_nil))) pe_int (nomark _)) (pss_one (ps_expr (pe_bm0 PySem.F.plainAttrs_list PySem.F.slot_list_reverse PySem.F.type_list_reverse mt_reverse (pv 8)))) pss_nil)
      (pss_cons (ps_set (i := 9) sc_law_twice_holds.nd rfl (.inl rfl) (pe_lst (pa_cons (pe_tup (pa_cons pe_int (pa_cons pe_str (pa_cons (pv 2) (pa_cons pe_int (pa_cons pe_int (pa_cons pe_int (pa_cons pe_int (pa_cons (pe_un un_neg pe_int) (pa_cons pe_int pa_nil)))))))))) pa_nil)))
      (pss_cons (ps_set (i := 10) sc_law_twice_holds.nd rfl (.inl rfl) (pe_lst (pa_cons pe_str pa_nil)))
      (pss_cons (ps_set (i := 11) sc_law_twice_holds.nd rfl (.inl rfl) (pe_lst (pa_cons pe_non pa_nil)))
      (pss_cons (ps_for PassesOwn.never rfl (pi_list (pe_op op_cat (pv 8) (pe_slice sl_list (pv 8) po_none (po_some pe_int)))) (pg_name (i := 12) sc_law_twice_holds.nd rfl (.inr rfl)) (pss_cons (ps_set (i := 13) sc_law_twice_holds.nd rfl (.inl rfl) (pe_call G_law_end hr_law_end (by rfl) T.g_law_end T.F_law_end.kp T.b_law_end .nil pass0 (pa_cons (pv 4) (pa_cons (pv 12) pa_nil))))
      (pss_cons (ps_set (i := 9) sc_law_twice_holds.nd rfl (.inl rfl) (pe_op op_cat (pv 9) (pe_lc (own := [("row", 14)]) (g := gName 14) (by rfl) sc_law_twice_holds.nd (pi_list (pe_slice sl_list (pv 4) (po_some (pv 12)) (po_some (pv 13)))) (blkOk_by (own := [("row", 14)]) (N := ["reel", "grammar", "name", "veiled", "rows", "labels", "made", "skip", "spots", "others", "marks", "beside", "at", "end", "row", "below"]) (sc := defScope s_law_twice_holds) (by decide +kernel)) (fun _ _ _ _ _ => pg_name (i := 14) sc_law_twice_holds.nd rfl (Or.inl rfl)) (fun _ _ _ _ _ => pts_nil) (fun _ _ _ _ _ => (pe_op (op_catTK (K := K) rfl) (pe_tup (pa_cons (pe_op op_add (pe_op op_sub (pe_ix (ix_tupK (K := K) rfl) (pv 14) pe_int (fun _ _ => rfl)) (pe_ix (ix_tupK (K := K) rfl) (pe_ix (ix_listK (K := K) rfl) (pv 4) (pv 12) (fun _ _ => rfl)) pe_int (fun _ _ => rfl))) pe_int) pa_nil)) (pe_slice (sl_tupK (K := K) rfl) (pv 14) (po_some pe_int) po_none))))))
      (pss_cons (ps_set (i := 10) sc_law_twice_holds.nd rfl (.inl rfl) (pe_op op_cat (pe_op op_cat (pv 10) (pe_lst (pa_cons pe_str pa_nil))) (pe_slice sl_list (pv 5) (po_some (pe_op op_add (pv 12) pe_int)) (po_some (pv 13)))))
      (pss_one (ps_set (i := 11) sc_law_twice_holds.nd rfl (.inl rfl) (pe_op op_cat (pv 11) (pe_slice sl_list (pv 6) (po_some (pv 12)) (po_some (pv 13))))))))))
      (pss_cons (ps_set (i := 9) sc_law_twice_holds.nd rfl (.inl rfl) (pe_call G_law_fitted hr_law_fitted (by rfl) T.g_law_fitted T.F_law_fitted.kp T.b_law_fitted .nil pass0 (pa_cons (pv 9) pa_nil)))
      (pss_cons (ps_set (i := 15) sc_law_twice_holds.nd rfl (.inl rfl) (pe_tup (pa_cons (pe_ix ix_list (pv 6) (pe_ix ix_list (pv 8) pe_int (fun _ _ => rfl)) (fun _ _ => rfl)) (pa_cons (pe_ix ix_list (pv 6) (pe_ix ix_list (pv 8) pe_int (fun _ _ => rfl)) (fun _ _ => rfl)) (pa_cons (pe_ix ix_list (pv 6) (pe_ix ix_list (pv 8) pe_int (fun _ _ => rfl)) (fun _ _ => rfl)) pa_nil)))))
      (pss_cons (ps_asg (pe_makeK (n := 2) T.MK_Node G_Node_init hr_Node_init (by rfl) T.G_Node (kb_Node6p T).choose_spec pass0 (pa_cons pe_str (pa_cons (pv 2) pa_nil)) (pk_cons pe_int (pk_cons (pe_ix ix_tup (pe_ix ix_list (pv 9) pe_int (fun _ _ => rfl)) pe_int (fun _ _ => rfl)) (pk_cons (pe_ix ix_tup (pe_ix ix_list (pv 9) pe_int (fun _ _ => rfl)) pe_int (fun _ _ => rfl)) (pk_cons pe_int (pk_cons (pv 15) (pk_cons pe_int pk_nil))))))) (pg_sub (pv 11) pe_int set_list))
      (pss_one (ps_ret (pe_call G_law_agrees hr_law_agrees (by rfl) T.g_law_agrees T.F_law_agrees.kp T.b_law_agrees .nil pass0 (pa_cons (pv 1) (pa_cons (pv 3) (pa_cons (pv 9) (pa_cons (pv 10) (pa_cons (pv 11) (pa_cons (pe_lst (pa_cons pe_int pa_nil)) pa_nil))))))))))))))))))), ?_⟩
    have big : sizeLine = 2 ^ 24 := rfl
    have lu := paired_len TI.rws.row
    have r0 : 0 < rows.length := by omega
    obtain ⟨x0, hx0⟩ : ∃ x, rows[0]? = some x := ⟨_, List.getElem?_eq_getElem r0⟩
    obtain ⟨gx, hgx, hgx2⟩ := row_at TI hx0
    have esk : (if decide (x0.2.kind = ("root" : Str)) = true then (1 : Int) else 0) = (skip : Int) := by
      have := hrt x0 hx0
      by_cases c : x0.2.kind = ("root" : Str)
      · rw [if_pos (decide_eq_true c), this.mp c]
        rfl
      · rw [if_neg (fun z => c (of_decide_eq_true z))]
        have : skip ≠ 1 := fun z => c (this.mpr z)
        omega
    refine ⟨_, rfl, l, us, 0, .ref gx, rfl, rfl, SqL.of TI.rws.lst, atI_nat (j := 0) hgx, gx, _, 1, .str x0.2.kind, rfl, rfl, SqT.of hgx2, rfl, rfl, .inr ⟨_, rfl, ?_⟩⟩
    rw [decS, esk]
    refine ⟨_, rfl, _, rfl, _, rfl, r, 1000, rfl, R, by decide, fun v H1 v0 v1 b1 R1 => ?_⟩
    have TI1 := TI.but b1 R nl nm
    refine ⟨_, rfl, l, us, rfl, .inl (SqL.of TI1.rws.lst), _, rfl, _, _, rfl, rfl, .inl ⟨by decide, by decide⟩, _, _, rfl, rfl, 1, _, rfl, ?_⟩
    obtain ⟨N, hN, N0, N1⟩ : ∃ N : Int, N = (if (us.length : Int) - 2 * (skip : Int) > 1 then (us.length : Int) - 2 * (skip : Int) else 1) ∧ 0 < N ∧ N ≤ (us.length : Int) - 2 * (skip : Int) := by
      refine ⟨_, rfl, ?_⟩
      split <;> omega
    rw [← hN]
    have f0 := Int.fmod_nonneg_of_pos v N0
    have f1 := Int.fmod_lt_of_pos v N0
    refine ⟨_, _, rfl, rfl, by show N ≠ 0; omega, _, _, rfl, rfl, by show 2 ≤ sizeLine; decide, fun sp nsp => ?_⟩
    have nspr : sp ≠ r := (R1.ne nsp).symm
    obtain ⟨b0, hb0⟩ : ∃ b : Nat, (b : Int) = (skip : Int) + v.fmod N := ⟨((skip : Int) + v.fmod N).toNat, by omega⟩
    have eb : (fun i j : Int => V.int (i + j)) (skip : Int) (v.fmod N) = V.int (b0 : Int) := congrArg V.int hb0.symm
    rw [eb]
    have s2 := same_upd (o := .lst [.int (skip : Int), .int (b0 : Int)]) nsp
    refine ⟨fun σ H' => But r H H' ∧ ReelAt H' r ∧ ∃ a b : Nat, a < rows.length ∧ b < rows.length ∧ H' sp = some (.lst [.int (a : Int), .int (b : Int)]) ∧ σ = [some (.ref r), some (.ref p), some (.str name), some (.ref vl), some (.ref l), some (.ref lb), some (.ref m), some (.int (skip : Int)), some (.ref sp), none, none, none, none, none, none, none], ?_, ?_⟩
    · refine ⟨_, rfl, r, 2, rfl, R1.same s2, by decide, fun v2 H3 w0 w1 b3 R3 => ?_⟩
      have hsp3 := b3 _ _ nspr upd_same
      refine ⟨rfl, _, rfl, ite2 (fun _ => ?_) (fun _ => ?_)⟩
      · refine ⟨_, rfl, .inl ⟨rfl, _, SqL.of hsp3⟩, sp, _, rfl, rfl, hsp3, ?_⟩
        exact ⟨((b1.trans (.of s2)).trans b3).updN (b1.free nspr nsp), R3.updN nspr, b0, skip, by omega, by omega, upd_same, rfl⟩
      · exact ⟨(b1.trans (.of s2)).trans b3, R3, skip, b0, by omega, by omega, hsp3, rfl⟩
    rintro σ H4 ⟨b4, R4, a, b, la, lb2, hsp, rfl⟩
    have TI4 := TI.but b4 R nl nm
    clear R1 TI1 b1 s2 nsp hb0 eb f0 f1 hN N0 N1
    refine ⟨_, rfl, 1, rfl, by show 9 ≤ sizeLine; decide, fun gt ngt => ⟨by show 1 ≤ sizeLine; decide, fun O nO => ?_⟩⟩
    obtain ⟨d0, hd0⟩ : ∃ d : Nd, d = ⟨"error", name, 3, 0, 0, 9, -1, 3⟩ := ⟨_, rfl⟩
    have ed0 : HO.tup [V.int 0, V.str "error", V.str name, V.int 3, V.int 0, V.int 0, V.int 9, (fun i : Int => V.int (-i)) 1, V.int 3] = HO.tup (rwV (0, d0)) := by
      rw [hd0]
      rfl
    rw [ed0] at nO ⊢
    have u1 := same_upd (o := .tup (rwV (0, d0))) ngt
    have u2 := u1.trans (same_upd (o := .lst [.ref gt]) nO)
    refine ⟨by show 1 ≤ sizeLine; decide, fun L nL => ⟨by show 1 ≤ sizeLine; decide, fun B nB => ?_⟩⟩
    have v3 := same_upd (o := .lst [.str ""]) nL
    have v4 := v3.trans (same_upd (o := .lst [.non]) nB)
    have u4 := u2.trans v4
    have hO := v4 _ _ (upd_same (a := O) (o := .lst [.ref gt]))
    have hgt := v4 _ _ ((same_upd (o := .lst [.ref gt]) nO) _ _ (upd_same (a := gt) (o := .tup (rwV (0, d0)))))
    have hL := (same_upd (o := .lst [.non]) nB) _ _ (upd_same (a := L) (o := .lst [.str ""]))
    have hB := upd_at (o := .lst [.non]) nB
    obtain ⟨H5, hH5⟩ : ∃ H5, H5 = upd (upd (upd (upd H4 gt (.tup (rwV (0, d0)))) O (.lst [.ref gt])) L (.lst [.str ""])) B (.lst [.non]) := ⟨_, rfl⟩
    rw [← hH5] at u4 hO hgt hL hB ⊢
    have nB0 : H4 B = none := (u2.trans v3).free nB
    clear u1 u2 v3 v4 ngt nO nL nB
    obtain ⟨f, hf⟩ : ∃ f : Nat → Str × Tr, f = fun k => (("" : Str), subT t (([a, b, a] : List Nat).getD k 0)) := ⟨_, rfl⟩
    have S0 : SideAt al [(0, d0)] [""] [.non] f 0 H5 O L B := ⟨⟨_, hO, .cons ⟨gt, rfl, hgt⟩ .nil⟩, hL, hB⟩
    have hsp5 := u4 _ _ hsp
    refine ⟨_, rfl, _, rfl, no_part ⟨_, rfl, sp, _, rfl, SqL.of hsp5, fun q1 nq1 => ?_⟩⟩
    have ecut : cutV [V.int (a : Int), V.int (b : Int)] none (some 1) = [V.int (a : Int)] := rfl
    rw [ecut]
    have w1 := same_upd (o := .lst [.int (a : Int)]) nq1
    refine ⟨sp, q1, _, _, rfl, rfl, w1 _ _ hsp5, upd_same, by show 3 ≤ sizeLine; decide, fun q2 nq2 => ?_⟩
    have w2 := w1.trans (same_upd (o := .lst ([.int (a : Int), .int (b : Int)] ++ [.int (a : Int)])) nq2)
    have hq2 := upd_at (o := .lst ([.int (a : Int), .int (b : Int)] ++ [.int (a : Int)])) nq2
    obtain ⟨H6, hH6⟩ : ∃ H6, H6 = upd (upd H5 q1 (.lst [.int (a : Int)])) q2 (.lst ([.int (a : Int), .int (b : Int)] ++ [.int (a : Int)])) := ⟨_, rfl⟩
    rw [← hH6] at w2 hq2 ⊢
    clear w1 nq1 nq2
    refine ⟨q2, rfl, ⟨_, SqL.of hq2⟩, ?_⟩
    refine for_list (K := K) (a := q2) (xs := [.int (a : Int), .int (b : Int)] ++ [.int (a : Int)]) (fun j σ H' => Same H6 H' ∧ ∃ (o mk be : Addr) (y12 y13 y14 : Option V), σ = [some (.ref r), some (.ref p), some (.str name), some (.ref vl), some (.ref l), some (.ref lb), some (.ref m), some (.int (skip : Int)), some (.ref sp), some (.ref o), some (.ref mk), some (.ref be), y12, y13, y14, none] ∧ H4 be = none ∧ SideAt al [(0, d0)] [""] [.non] f j H' o mk be)
      ⟨Same.refl _, O, L, B, none, none, none, rfl, nB0, ?_⟩ ?_ ?_ ?_
    · exact S0.same w2
    · exact fun i σ H' _ ⟨sm, _⟩ => SqL.of (sm _ _ hq2)
    · rintro j v σ H7 hv ⟨s7, o, mk, be, y12, y13, y14, rfl, nbe0, S⟩
      obtain ⟨c, hc, rfl, hcr⟩ : ∃ c : Nat, c = ([a, b, a] : List Nat).getD j 0 ∧ v = V.int (c : Int) ∧ c < rows.length := by
        match j, hv with
        | 0, hv => exact ⟨a, rfl, (Option.some.inj hv).symm, la⟩
        | 1, hv => exact ⟨b, rfl, (Option.some.inj hv).symm, lb2⟩
        | 2, hv => exact ⟨a, rfl, (Option.some.inj hv).symm, la⟩
      have j3 : j < 3 := (List.getElem?_eq_some_iff.mp hv).1
      have u7 := (u4.trans w2).trans s7
      have TI7 := TI4.same u7
      have efj : f j = (("" : Str), subT t c) := by rw [hf, hc]
      obtain ⟨ous, hou, prs⟩ := S.ro
      have f110 : ∀ k, (f k).2.ats.length ≤ 110 := fun k => by
        rw [hf]
        have : ([a, b, a] : List Nat).getD k 0 < rows.length := by
          match k with
          | 0 => exact la
          | 1 => exact lb2
          | 2 => exact la
          | k + 3 => exact r0
        exact Nat.le_trans (TI.subLe this) lrw
      have j110 : j * 110 ≤ 2 * 110 := Nat.mul_le_mul_right _ (by omega)
      have lous : ous.length ≤ 1 + 2 * 110 := by
        rw [paired_len prs, List.length_append]
        have := flat_le (f := fun k => Fl (f k).2 1) (N := 110) (fun k => by rw [Fl_ats]; exact f110 k) j
        show 1 + _ ≤ _
        omega
      obtain ⟨mls, hmls⟩ : ∃ mls, mls = [("" : Str)] ++ ((List.range j).map fun k => labsT al (f k).2 (f k).1).flatten := ⟨_, rfl⟩
      have lmls : mls.length ≤ 1 + 2 * 110 := by
        rw [hmls, List.length_append]
        have := flat_le (f := fun k => labsT al (f k).2 (f k).1) (N := 110) (fun k => by rw [labsT_len]; exact f110 k) j
        show 1 + _ ≤ _
        omega
      obtain ⟨bes, hbes⟩ : ∃ bes, bes = [V.non] ++ (((List.range j).map fun k => (f k).2.ats).flatten).map V.ref := ⟨_, rfl⟩
      have lbes : bes.length ≤ 1 + 2 * 110 := by
        rw [hbes, List.length_append, List.length_map]
        have := flat_le (f := fun k => (f k).2.ats) (N := 110) f110 j
        show 1 + _ ≤ _
        omega
      have hmk7 := S.ma
      have hbe7 := S.be
      rw [← hmls] at hmk7
      rw [← hbes] at hbe7
      have hlb7 := u7 _ _ (b4 _ _ nlb hlb)
      refine ⟨_, rfl, _, rfl, l, us, rows, c, rfl, TI7.rws, by omega, hcr, fun e he => ?_⟩
      obtain ⟨n, lv, SL⟩ := TI7.slice al he hcr
      have pe := SL.e
      have ple := SL.le
      have pn1 := SL.n1
      subst pe
      refine ⟨_, rfl, _, rfl, _, rfl, _, rfl, _, rfl, _, rfl, l, us, rfl, SqL.of TI7.rws.lst, fun pt npt => ?_⟩
      rw [cut_midA (by omega)]
      obtain ⟨pus, hpus⟩ : ∃ pus, pus = (us.drop c).take n := ⟨_, rfl⟩
      obtain ⟨prw, hprw⟩ : ∃ prw, prw = (rows.drop c).take n := ⟨_, rfl⟩
      rw [← hpus]
      have hfl : Fl (subT t c) 1 = prw.map fun x => (x.1 - lv + 1, x.2) := by rw [hprw]; exact SL.fl
      have pp1 : Paired (RwAt H7) pus prw := by
        rw [hpus, hprw]
        exact paired_take _ (paired_drop _ TI7.rws.row)
      have lpu : pus.length = n := by rw [hpus, List.length_take, List.length_drop]; omega
      have lpr : prw.length = n := by rw [hprw, List.length_take, List.length_drop]; omega
      have s8 := same_upd (o := .lst pus) npt
      have hpt : (upd H7 pt (.lst pus)) pt = some (.lst pus) := upd_same
      obtain ⟨H8, hH8⟩ : ∃ H8, H8 = upd H7 pt (.lst pus) := ⟨_, rfl⟩
      rw [← hH8] at s8 hpt ⊢
      have pp8 : Paired (RwAt H8) pus prw := Paired.mapP pp1 fun _ _ x => x.tups fun b xs e => s8 b _ e
      have TI8 := TI7.same s8
      obtain ⟨dc, hrc⟩ := SL.row
      obtain ⟨gc, hgc, hgc2⟩ := row_at TI8 hrc
      refine ⟨pt, rfl, ⟨_, SqL.of hpt⟩, fun D nD => ?_⟩
      have hDp : D ≠ pt := (ne_of_none hpt nD).symm
      refine lc_list (K := K) (a := pt) (xs := pus) (fun i H' => Same H8 H' ∧ ∃ vs, H' D = some (.lst vs) ∧ vs.length = i ∧ Paired (RwAt H') vs ((Fl (subT t c) 1).take i)) ⟨same_upd nD, [], upd_same, rfl, .nil⟩ (fun i H' _ ⟨s, _⟩ => SqL.of (s _ _ hpt)) ?_ ?_
      · rintro i v H9 hv ⟨s9, vs, hD, lvs, pv⟩
        have hi : i < n := by
          rw [← lpu]
          exact (List.getElem?_eq_some_iff.mp hv).1
        obtain ⟨rj, hrj⟩ : ∃ x, prw[i]? = some x := ⟨_, List.getElem?_eq_getElem (by rw [lpr]; exact hi)⟩
        obtain ⟨v', hv', g1, rfl, hg1⟩ := paired_get pp8 hrj
        obtain rfl : v = .ref g1 := Option.some.inj (hv.symm.trans hv')
        have hLj : (Fl (subT t c) 1)[i]? = some ((rj.1 - lv + 1, rj.2) : Rw) := by
          rw [hfl, List.getElem?_map, hrj]
          rfl
        have hg9 := s9 _ _ hg1
        have TI9 := TI8.same s9
        have ncut : ¬ (HT.sIx (rwV rj).length 0 (some 1) = 0 ∧ HT.sIx (rwV rj).length (rwV rj).length none = (rwV rj).length) := fun z => by
          have := z.1
          rw [show (1 : Int) = ((1 : Nat) : Int) from rfl, HT.sIx_nat] at this
          have l9 : (rwV rj).length = 9 := rfl
          omega
        refine ⟨rfl, _, rfl, g1, _, 0, .int rj.1, rfl, rfl, SqT.of hg9, rfl, _, rfl, _, rfl, l, us, _, .ref gc, rfl, rfl, SqL.of TI9.rws.lst, atI_nat hgc, gc, _, 0, .int lv, rfl, rfl, SqT.of (s9 _ _ hgc2), rfl, _, _, rfl, rfl, _, _, rfl, rfl, by show 1 ≤ sizeLine; decide, fun p1 np1 => ?_⟩
        have t1 := same_upd (o := .tup [.int (rj.1 - lv + 1)]) np1
        refine ⟨_, rfl, _, rfl, no_part ⟨g1, _, rfl, SqT.of (t1 _ _ hg9), ncut, fun p2 np2 => ?_⟩⟩
        have t2 := same_upd (o := .tup (cutV (rwV rj) (some 1) none)) np2
        refine ⟨p1, p2, _, _, rfl, rfl, SqT.of (t2 _ _ (upd_same (o := .tup [.int (rj.1 - lv + 1)]))), SqT.of upd_same, List.cons_ne_nil _ _, by show 1 + 8 ≤ sizeLine; decide, (fun z => by cases z), fun _ p3 np3 => ?_⟩
        have t3 := same_upd (o := .tup (rwV (rj.1 - lv + 1, rj.2))) np3
        have t13 := (t1.trans t2).trans t3
        refine ⟨vs, t13 _ _ hD, sz2 (by omega), ?_⟩
        have hD7 := t13 _ _ hD
        refine ⟨same_mut (s9.trans t13) nD, vs ++ [.ref p3], upd_same, by rw [List.length_append, lvs]; rfl, ?_⟩
        rw [takeN hLj]
        have tu : Tups H9 _ := Tups.trans (fun b xs e => t13 b _ e) (tups_lst (o := .lst (vs ++ [.ref p3])) hD7)
        refine paired_app (Paired.mapP pv fun _ _ x => x.tups tu) (.cons ⟨p3, rfl, tups_lst hD7 _ _ upd_same⟩ .nil)
      rintro H9 ⟨s9, vs, hD, lvs, pv⟩
      rw [lpu, ← SL.ln, ← Fl_ats _ 1, List.take_length] at pv
      rw [lpu] at lvs
      have s79 := s8.trans s9
      have lla : (labsT al t "").length = rows.length := by rw [labsT_len, TI.ats, TI.len]
      refine ⟨o, D, _, _, rfl, rfl, s79 _ _ hou, hD, szM (by omega), fun o2 no2 => ?_⟩
      have t10 := same_upd (o := .lst (ous ++ vs)) no2
      have ho2 := upd_at (o := .lst (ous ++ vs)) no2
      obtain ⟨H10, hH10⟩ : ∃ H10, H10 = upd H9 o2 (.lst (ous ++ vs)) := ⟨_, rfl⟩
      rw [← hH10] at t10 ho2 ⊢
      have s710 := s79.trans t10
      refine ⟨_, rfl, by show 1 ≤ sizeLine; decide, fun z1 nz1 => ?_⟩
      have t11 := same_upd (o := .lst [.str ""]) nz1
      refine ⟨mk, z1, _, _, rfl, rfl, t11 _ _ (s710 _ _ hmk7), upd_same, szM (by rw [List.length_map]; show _ + 1 ≤ _; omega), fun z2 nz2 => ?_⟩
      have t12 := t11.trans (same_upd (o := .lst (mls.map V.str ++ [.str ""])) nz2)
      have hz2 := upd_at (o := .lst (mls.map V.str ++ [.str ""])) nz2
      obtain ⟨H12, hH12⟩ : ∃ H12, H12 = upd (upd H10 z1 (.lst [.str ""])) z2 (.lst (mls.map V.str ++ [.str ""])) := ⟨_, rfl⟩
      rw [← hH12] at t12 hz2 ⊢
      have s712 := s710.trans t12
      have ecl : cutV ((labsT al t "").map V.str) (some (((c : Nat) : Int) + 1)) (some (((c + n : Nat)) : Int)) = (((labsT al t "").drop (c + 1)).take (n - 1)).map V.str := by
        rw [show ((c : Nat) : Int) + 1 = ((c + 1 : Nat) : Int) by omega, show c + n = (c + 1) + (n - 1) by omega, cut_midA (by rw [List.length_map]; omega), ← List.map_drop, ← List.map_take]
      refine ⟨_, rfl, _, rfl, _, _, rfl, rfl, _, rfl, _, rfl, _, rfl, lb, _, rfl, SqL.of (s712 _ _ hlb7), fun z3 nz3 => ?_⟩
      rw [ecl]
      obtain ⟨lsl, hlsl⟩ : ∃ lsl, lsl = ((labsT al t "").drop (c + 1)).take (n - 1) := ⟨_, rfl⟩
      rw [← hlsl]
      have llsl : lsl.length ≤ 110 := by
        rw [hlsl, List.length_take]
        omega
      have t13 := same_upd (o := .lst (lsl.map V.str)) nz3
      refine ⟨z2, z3, _, _, rfl, rfl, t13 _ _ hz2, upd_same, szM (by rw [List.length_append, List.length_map, List.length_map]; show _ + 1 + _ ≤ _; omega), fun z4 nz4 => ?_⟩
      have t14 := t13.trans (same_upd (o := .lst (mls.map V.str ++ [.str ""] ++ lsl.map V.str)) nz4)
      have hz4 := upd_at (o := .lst (mls.map V.str ++ [.str ""] ++ lsl.map V.str)) nz4
      obtain ⟨H14, hH14⟩ : ∃ H14, H14 = upd (upd H12 z3 (.lst (lsl.map V.str))) z4 (.lst (mls.map V.str ++ [.str ""] ++ lsl.map V.str)) := ⟨_, rfl⟩
      rw [← hH14] at t14 hz4 ⊢
      have s714 := s712.trans t14
      have TI14 := TI7.same s714
      have eca : cutV (as.map V.ref) (some ((c : Nat) : Int)) (some (((c + n : Nat)) : Int)) = (subT t c).ats.map V.ref := by
        rw [cut_midA (by rw [List.length_map, TI.len]; omega), ← List.map_drop, ← List.map_take, SL.ads]
      refine ⟨_, rfl, _, rfl, _, rfl, _, rfl, _, rfl, _, rfl, m, _, rfl, SqL.of TI14.mds, fun e1 ne1 => ?_⟩
      rw [eca]
      have t15 := same_upd (o := .lst ((subT t c).ats.map V.ref)) ne1
      refine ⟨be, e1, _, _, rfl, rfl, t15 _ _ (s714 _ _ hbe7), upd_same, szM (by rw [List.length_map, SL.ln]; omega), fun e2 ne2 => ?_⟩
      have t16 := t15.trans (same_upd (o := .lst (bes ++ (subT t c).ats.map V.ref)) ne2)
      have s716 := s714.trans t16
      refine ⟨s7.trans s716, o2, z4, e2, _, _, _, rfl, ((u7.trans s714).trans t15).free ne2, S.next (ls := lsl) (as := (subT t c).ats) s716 hou (((t12.trans t14).trans t16) _ _ ho2) ?_ ?_ ?_ ?_ ?_⟩
      · rw [efj]
        exact Paired.mapP pv fun _ _ x => x.tups fun b xs e => (t10.trans ((t12.trans t14).trans t16)) b _ e
      · rw [efj, ← hmls]
        exact t16 _ _ hz4
      · rw [efj, hlsl]
        exact SL.lab _
      · rw [← hbes]
        exact upd_same
      · rw [efj]
    · rintro σ H7 ⟨s7, o, mk, be, y12, y13, y14, rfl, nbe0, S⟩
      have S : SideAt al [(0, d0)] [""] [.non] f 3 H7 o mk be := S
      have u7 := (u4.trans w2).trans s7
      have TI7 := TI4.same u7
      obtain ⟨ous, hou, prs⟩ := S.ro
      have hmk7 := S.ma
      have hbe7 := S.be
      rw [flat3] at prs hmk7 hbe7
      have fa : f 0 = (("" : Str), subT t a) := by rw [hf]; rfl
      have fb : f 1 = (("" : Str), subT t b) := by rw [hf]; rfl
      have fc : f 2 = (("" : Str), subT t a) := by rw [hf]; rfl
      rw [fa, fb, fc] at prs hmk7 hbe7
      dsimp only at prs hmk7 hbe7
      obtain ⟨ks, hks⟩ : ∃ ks : List Tr, ks = [subT t a, subT t b, subT t a] := ⟨_, rfl⟩
      have efl : Fl (.mk (0 : Addr) d0 ks) 0 = [(0, d0)] ++ (Fl (subT t a) 1 ++ (Fl (subT t b) 1 ++ (Fl (subT t a) 1 ++ []))) := by
        rw [hks]
        show (0, d0) :: rwsL (0 + 1) _ = _
        rw [rwsL_cons, rwsL_cons, rwsL_cons]
        rfl
      have prs : Paired (RwAt H7) ous (Fl (.mk (0 : Addr) d0 ks) 0) := by rw [efl]; exact prs
      have lf0 : leafB d0 = false := by
        rw [hd0]
        unfold leafB
        simp
      have fks : FOks ks := by
        rw [hks]
        exact ⟨TI.subFok fok la, TI.subFok fok lb2, TI.subFok fok la, True.intro⟩
      have l3 : (Fl (.mk (0 : Addr) d0 ks) 0).length ≤ 331 := by
        rw [efl]
        simp only [List.length_append, Fl_ats]
        have := TI.subLe la
        have := TI.subLe lb2
        show 1 + (_ + (_ + (_ + 0))) ≤ 331
        omega
      refine ⟨_, rfl, o, ous, _, rfl, hou, prs, top_alone fks lf0, by omega, fun F us' rs' H8 hF pr' fe ⟨ws, fo⟩ nF s8 => ?_⟩
      obtain ⟨d1, fd, h1⟩ := fit_top fks lf0 fe fo
      have hF0 := (h1 0).1
      have s78 := u7.trans s8
      have TI8 := TI4.same s78
      have hsp8 := s78 _ _ hsp
      have hma : (as.map V.ref)[a]? = some (.ref (subT t a).at) := by
        obtain ⟨_, _, _, _, h⟩ := TI.subAt la
        rw [List.getElem?_map, h]
        rfl
      have hmb : (as.map V.ref)[b]? = some (.ref (subT t b).at) := by
        obtain ⟨_, _, _, _, h⟩ := TI.subAt lb2
        rw [List.getElem?_map, h]
        rfl
      refine ⟨_, rfl, _, rfl, sp, _, 0, .int (a : Int), rfl, rfl, SqL.of hsp8, rfl, m, _, _, .ref (subT t a).at, rfl, rfl, SqL.of TI8.mds, atI_nat hma, ?_⟩
      refine ⟨_, rfl, _, rfl, sp, _, 1, .int (b : Int), rfl, rfl, SqL.of hsp8, rfl, m, _, _, .ref (subT t b).at, rfl, rfl, SqL.of TI8.mds, atI_nat hmb, ?_⟩
      refine ⟨_, rfl, _, rfl, sp, _, 0, .int (a : Int), rfl, rfl, SqL.of hsp8, rfl, m, _, _, .ref (subT t a).at, rfl, rfl, SqL.of TI8.mds, atI_nat hma, by show 3 ≤ sizeLine; decide, fun bt nbt => ?_⟩
      have hr0 : rs'[0]? = some ((0, d1) : Rw) := by
        rw [← hF0]
        rfl
      obtain ⟨v0, hv0, gF, rfl, hgF⟩ := paired_get pr' hr0
      have x1 := same_upd (o := .tup [.ref (subT t a).at, .ref (subT t b).at, .ref (subT t a).at]) nbt
      have hbt : (upd H8 bt (.tup [.ref (subT t a).at, .ref (subT t b).at, .ref (subT t a).at])) bt = some (.tup [.ref (subT t a).at, .ref (subT t b).at, .ref (subT t a).at]) := upd_same
      obtain ⟨H9, hH9⟩ : ∃ H9, H9 = upd H8 bt (.tup [.ref (subT t a).at, .ref (subT t b).at, .ref (subT t a).at]) := ⟨_, rfl⟩
      rw [← hH9] at x1 hbt ⊢
      refine ⟨_, rfl, _, rfl, F, _, 0, .ref gF, rfl, rfl, SqL.of (x1 _ _ hF), atI_nat (j := 0) hv0, gF, _, 4, .int d1.lead, rfl, rfl, SqT.of (x1 _ _ hgF), rfl, ?_⟩
      refine ⟨_, rfl, F, _, 0, .ref gF, rfl, rfl, SqL.of (x1 _ _ hF), atI_nat (j := 0) hv0, gF, _, 5, .int d1.wid, rfl, rfl, SqT.of (x1 _ _ hgF), rfl, _, rfl, rfl, rfl, fun tp dx ntp ndx hne => ?_⟩
      have sv1 : Same H9 (upd (upd H9 dx (.own tp)) tp (.ins T.C_Node dx [])) := (same_upd ndx).trans (same_upd (by rw [upd_ne hne.symm]; exact ntp))
      have ed1 : d1 = ⟨"error", name, 3, d1.lead, d1.wid, 9, -1, 3⟩ := by
        obtain ⟨_, x, y, rfl⟩ := fd
        rw [hd0]
        rfl
      obtain ⟨dN, hdN⟩ : ∃ dN : Nd, dN = ⟨"error", name, 3, d1.lead, d1.wid, 9, -1, 3⟩ := ⟨_, rfl⟩
      have sw1 : Same H9 (upd (upd (upd H9 dx (.own tp)) tp (.ins T.C_Node dx [])) tp (.ins T.C_Node dx (nfl dN bt))) := by
        rw [upd_upd]
        exact (same_upd ndx).trans (same_upd (by rw [upd_ne hne.symm]; exact ntp))
      refine ⟨tp, dx, bt, dN, [.ref (subT t a).at, .ref (subT t b).at, .ref (subT t a).at], upd_same, by rw [hdN]; rfl, .inl ⟨SqT.of (sv1 _ _ hbt), rfl, ?_⟩⟩
      have htp : (upd (upd (upd H9 dx (.own tp)) tp (.ins T.C_Node dx [])) tp (.ins T.C_Node dx (nfl dN bt))) tp = some (.ins T.C_Node dx (nfl dN bt)) := upd_same
      rw [hdN, ← ed1] at sw1 htp ⊢
      obtain ⟨HA, hHA⟩ : ∃ HA, HA = upd (upd (upd H9 dx (.own tp)) tp (.ins T.C_Node dx [])) tp (.ins T.C_Node dx (nfl d1 bt)) := ⟨_, rfl⟩
      rw [← hHA] at sw1 htp ⊢
      have s8A := x1.trans sw1
      have sA := s78.trans s8A
      have hbeA := (s8.trans s8A) _ _ hbe7
      refine ⟨_, rfl, be, _, _, 0, rfl, rfl, hbeA, ixN_zero (Nat.succ_pos _), ?_⟩
      obtain ⟨bes, hbes⟩ : ∃ bes : List V, bes = ([V.non] ++ List.map V.ref ((subT t a).ats ++ ((subT t b).ats ++ ((subT t a).ats ++ [])))).set 0 (V.ref tp) := ⟨_, rfl⟩
      rw [← hbes]
      have eb : bes = (tp :: atsL ks).map V.ref := by
        rw [hbes, hks]
        rfl
      have sB := same_mut (o := .lst bes) sA nbe0
      have hmkA := (s8.trans s8A) _ _ hmk7
      have hFA := s8A _ _ hF
      have nmk : mk ≠ be := fun z => by
        rw [z, hbeA] at hmkA
        injection hmkA with z
        injection z with z
        injection z with z _
        cases z
      have nFb : F ≠ be := ne_of_none (hbe7) nF |>.symm
      have hbeB : (upd HA be (.lst bes)) be = some (.lst bes) := upd_same
      have hFB : (upd HA be (.lst bes)) F = some (.lst us') := by rw [upd_ne nFb]; exact hFA
      have el : labsT al (.mk tp d1 ks) "" = [("" : Str)] ++ (labsT al (subT t a) "" ++ (labsT al (subT t b) "" ++ (labsT al (subT t a) "" ++ []))) := by
        show ("" : Str) :: labsTs al ks (labsOf al d1 ks.length) = _
        rw [labsOf_none (by rw [ed1]), hks]
        show ("" : Str) :: labsTs al _ ["", "", ""] = _
        rw [labsTs_cons, labsTs_cons, labsTs_cons]
        rfl
      rw [← el] at hmkA
      have hmkB : (upd HA be (.lst bes)) mk = some (.lst ((labsT al (.mk tp d1 ks) "").map V.str)) := by rw [upd_ne nmk]; exact hmkA
      have tAB := tups_lst (o := .lst bes) hbeA
      have keepB := Keeps.of (K := K) (C := T.C_Node) sB
      have htpB : (upd HA be (.lst bes)) tp = some (.ins T.C_Node dx (nfl d1 bt)) := by
        rw [upd_ne (fun z => by rw [z, hbeA] at htp; cases htp)]
        exact htp
      have hbtB := tAB _ _ (sw1 _ _ hbt)
      have nodB : NodeAt K T.C_Node (upd HA be (.lst bes)) (.mk tp d1 ks) := by
        rw [hks]
        have na := (TI4.subNode la).keep keepB
        exact ⟨⟨dx, bt, htpB, SqT.of hbtB⟩, na, (TI4.subNode lb2).keep keepB, na, True.intro⟩
      obtain ⟨h11, h12⟩ := h1 tp
      have ln2 : (tp :: atsL ks).length = rs'.length := by
        rw [← h11, Fl_ats]
        rfl
      have TIo : TreeIn K T.C_Node (upd HA be (.lst bes)) F be us' rs' (tp :: atsL ks) (.mk tp d1 ks) := by
        refine ⟨⟨hFB, Paired.mapP pr' fun _ _ x => (x.tups fun b xs e => s8A b _ e).tups tAB⟩, by rw [hbeB, eb], ln2, ?_, nodB, h12, by rw [← paired_len fe]; omega⟩
        rw [← h11]
        exact rasOf_self (.mk tp d1 ks) 0
      have aok2 : AltOk al (.mk tp d1 ks) := by
        refine ⟨fun z => ?_, ?_⟩
        · rw [ed1] at z
          exact absurd z (show ¬ (0 : Int) ≤ -1 by decide)
        · rw [hks]
          exact ⟨TI.subAlt aok la, TI.subAlt aok lb2, TI.subAlt aok la, True.intro⟩
      have b4B := b4.trans (.of sB)
      have R4B := R4.same sB
      refine ⟨_, rfl, _, rfl, _, rfl, _, rfl, _, rfl, by show 1 ≤ sizeLine; decide, fun zl nzl => ?_⟩
      have sz := same_upd (o := .lst [.int 0]) nzl
      refine ⟨p, vl, F, mk, be, zl, g, us', rs', tp :: atsL ks, .mk tp d1 ks, al, hid, labsT al (.mk tp d1 ks) "", [0], rfl, (GI.but b4B R).same sz, TIo.same sz, aok2, LabOk.of al _ "", sz _ _ hmkB, sz _ _ (b4B _ _ nvl hvl), upd_same, fun k hk => ?_, fun H' s' => ?_⟩
      · rw [List.mem_singleton.mp hk, ← ln2]
        exact Nat.succ_pos _
      · exact q H' (b4B.trans (.of (sz.trans s'))) (R4B.same (sz.trans s'))

/-! ### _law_labelled_holds -/
theorem op_in_seqK {X : Cx} {K : PySem.W.Frag} (h : X.K = K) : OpR X (compareOp .In) (rIn K false) := by
  subst h
  exact op_in_seq
theorem t0_sq {A : Addr} (h : ∃ (oc : Option Addr) (n : Nat) (sl : Array (Option Value)), K.lookup A = some ⟨.type "tuple", oc, .seq #[] n, sl⟩) (H : Hp) : SqT K H A [] := by
  obtain ⟨oc, n, sl, e⟩ := h
  exact .inr ⟨_, #[], n, e, rfl, rfl, Nat.zero_le _, .nil⟩
def KindAt (H : Hp) (v : V) (s : Str) : Prop := ∃ g x, v = .ref g ∧ H g = some (.tup [.str s, x])
theorem KindAt.tups {H H' : Hp} {v : V} {s : Str} (h : KindAt H v s) (t : Tups H H') : KindAt H' v s := by
  obtain ⟨g, x, e, k⟩ := h
  exact ⟨g, x, e, t _ _ k⟩
structure GrMore (H : Hp) (g : Gm) (ss ns : List Str) : Prop where
  ks : ∃ kus, H g.ks = some (.tup kus) ∧ Paired (KindAt H) kus ss
  rs : H g.rs = some (.tup (ns.map V.str))
  re : ∃ u, H g.re = some (.tup u)
theorem GrMore.tups {H H' : Hp} {g : Gm} {ss ns : List Str} (h : GrMore H g ss ns) (t : Tups H H') : GrMore H' g ss ns := by
  obtain ⟨kus, h1, h2⟩ := h.ks
  obtain ⟨u, h3⟩ := h.re
  exact ⟨⟨kus, t _ _ h1, Paired.mapP h2 fun _ _ x => x.tups t⟩, t _ _ h.rs, ⟨u, t _ _ h3⟩⟩
theorem same_tps {H H' : Hp} (s : Same H H') : Tups H H' := fun b xs e => s b _ e
def spLabS (K : PySem.W.Frag) (C CG : Addr) (al : List Way) (ss ns : List Str) : Sp := fun vs H Q _ => ∃ (r p vl l lb m : Addr) (g : Gm) (us : List V) (rows : List Rw) (as : List Addr) (t : Tr) (hid : List Str) (skip : Nat) (s0 n0 : Str), vs = [.ref r, .ref p, .ref vl, .ref l, .ref lb, .ref m] ∧
  ReelAt H r ∧ GrIn K CG H p g al hid ∧ GrMore H g ss ns ∧ TreeIn K C H l m us rows as t ∧ FOk t ∧ AltOk al t ∧ H lb = some (.lst ((labsT al t "").map V.str)) ∧ H vl = some (.lst (hid.map V.str)) ∧ rows.length ≤ 110 ∧ 2 * skip + 1 ≤ rows.length ∧ skip ≤ 1 ∧ (∀ x, rows[0]? = some x → (x.2.kind = ("root" : Str) ↔ skip = 1)) ∧
  (∃ x, rows[skip]? = some x ∧ x.2.sym ∈ ns ∧ 0 ≤ x.2.st) ∧ ss[0]? = some s0 ∧ s0 ≠ "error" ∧ s0 ≠ "root" ∧ ns[0]? = some n0 ∧ ss.length ≤ 10 ∧ ns.length ≤ 10 ∧ 0 < al.length ∧ al.length ≤ 30 ∧
  l ≠ r ∧ m ≠ r ∧ lb ≠ r ∧ vl ≠ r ∧ ∀ H', But r H H' → ReelAt H' r → Q (.bl true) H'
theorem ok_labelled (T : Txt K mg) (al : List Way) (ss ns : List Str) : FnOk P w K mg base CX0 5 T.a_law_labelled_holds T.fd_law_labelled_holds ["reel", "grammar", "veiled", "rows", "labels", "made"] (spLabS K T.C_Node T.C_Grammar al ss ns) := by
  have G_law_pick : FnOk P w K mg base CX0 2 T.a_law_pick T.fd_law_pick ["reel", "row"] (spPick K) := ok_pick T
  have G_law_way : FnOk P w K mg base CX0 4 T.a_law_way T.fd_law_way ["reel", "name", "row"] spWay := ok_way T
  have G_law_leaf_row : FnOk P w K mg base CX0 3 T.a_law_leaf_row T.fd_law_leaf_row ["reel", "level", "symbol", "skipped"] spLeafRow := ok_leaf_row T
  have G_law_made : FnOk P w K mg base CX0 3 T.a_law_made T.fd_law_made ["rows"] (spMade K T.C_Node) := ok_made T
  have G_law_end : FnOk P w K mg base CX0 1 T.a_law_end T.fd_law_end ["rows", "at"] spEnd := ok_end T
  have G_law_fitted : FnOk P w K mg base CX0 2 T.a_law_fitted T.fd_law_fitted ["rows"] spFitted := ok_fitted T
  have G_Node_init : FnOk P w K mg base CX0 1 T.a_Node_init T.fd_Node_init psN (spNInit K T.C_Node) := ok_Node_init T
  have G_Grammar_init : FnOk P w K mg base CX0 1 T.a_Grammar_init T.fd_Grammar_init psG (spGInit K T.C_Grammar) := ok_Grammar_init T
  have G_law_agrees : FnOk P w K mg base CX0 3 T.a_law_agrees T.fd_law_agrees ["grammar", "veiled", "rows", "labels", "made", "asked"] (spAgrees K T.C_Node T.C_Grammar) := ok_agrees T
  refine T.F_law_labelled_holds.ok sc_law_labelled_holds (fun vs H Q E h => ?_) (fun cdv A outer s H vs Q E hr h => ?_)
  · obtain ⟨r, p, vl, l, lb, m, g, us, rows, as, t, hid, skip, s0, n0, rfl, _⟩ := h
    rfl
  · have hr_law_pick : Room 2 _ := hr.mono (by decide)
    have hr_law_way : Room 4 _ := hr
    have hr_law_leaf_row : Room 3 _ := hr.mono (by decide)
    have hr_law_made : Room 3 _ := hr.mono (by decide)
    have hr_law_end : Room 1 _ := hr.mono (by decide)
    have hr_law_fitted : Room 2 _ := hr.mono (by decide)
    have hr_Node_init : Room 2 _ := hr.mono (by decide)
    have hr_Grammar_init : Room 2 _ := hr.mono (by decide)
    have hr_law_agrees : Room 3 _ := hr.mono (by decide)
    obtain ⟨r, p, vl, l, lb, m, g, us, rows, as, t, hid, skip, s0, n0, rfl, R, GI, GM, TI, fok, aok, hlb, hvl, lrw, lsk, lsk1, hrt, ⟨xs0, hxs0, xsy, xst⟩, hs0, s0e, s0r, hn0, lss, lns, lal0, lal, nl, nm, nlb, nvl, q⟩ := h
    refine ⟨_, (pss_cons (ps_set (i := 6) sc_law_labelled_holds.nd rfl (.inl rfl) (pe_callTy call_int1 (by rfl) T.m_int (by decide +kernel) (pa_cons (pe_cmpR op_eq (pe_ix ix_tup (pe_ix ix_list (pv 3) pe_int (fun _ _ => rfl)) pe_int (fun _ _ => rfl)) pe_str (nomark _)) pa_nil)))
      (pss_cons (ps_set (i := 7) sc_law_labelled_holds.nd rfl (.inr rfl) (pe_op op_cat (pe_lc (own := [("pair", 8)]) (g := gName 8) (by rfl) sc_law_labelled_holds.nd (pi_tup (pe_fld (pv 1) rfl)) (blkOk_by (own := [("pair", 8)]) (N := ["reel", "grammar", "veiled", "rows", "labels", "made", "skip", "known", "pair", "spots", "k", "one", "two", "head", "many", "way", "wider", "leaf", "others", "marks", "beside", "at", "end", "row", "below"]) (sc := defScope s_law_labelled_holds) (by decide +kernel)) (fun _ _ _ _ _ => pg_name (i := 8) sc_law_labelled_holds.nd rfl (Or.inl rfl)) (fun _ _ _ _ _ => pts_nil) (fun _ _ _ _ _ => (pe_ix (ix_tupK (K := K) rfl) (pv 8) pe_int (fun _ _ => rfl)))) (pe_callTy call_list_of (by rfl) T.m_list (by decide +kernel) (pa_cons (pe_fld (pv 1) rfl) pa_nil))))
      (pss_cons (ps_setLc (i := 9) (own := [("k", 10)]) (g := gName 10) (by rfl) sc_law_labelled_holds.nd rfl rfl (sw_true rfl rfl rfl (by decide +kernel)) (pi_range2 (by rfl) T.m_range (pa_cons (pv 6) (pa_cons (pe_op op_sub (pe_callB call_len_seq (by rfl) T.m_len PySem.boot_len (pa_cons (pv 3) pa_nil)) (pv 6)) pa_nil))) (blkOk_by (own := [("k", 10)]) (N := ["reel", "grammar", "veiled", "rows", "labels", "made", "skip", "known", "pair", "spots", "k", "one", "two", "head", "many", "way", "wider", "leaf", "others", "marks", "beside", "at", "end", "row", "below"]) (sc := defScope s_law_labelled_holds) (by decide +kernel)) (fun _ _ _ _ _ => pg_name (i := 10) sc_law_labelled_holds.nd rfl (Or.inl rfl)) (fun _ _ _ _ _ => (pts_one (PW.pt (pw_and (pt_cmpR (op_in_seqK (K := K) rfl) (pe_ix (ix_tupK (K := K) rfl) (pe_ix (ix_listK (K := K) rfl) (pv 3) (pv 10) (fun _ _ => rfl)) pe_int (fun _ _ => rfl)) (pv 7) rfl) (pw_and1 (pt_cmpR op_ge (pe_ix (ix_tupK (K := K) rfl) (pe_ix (ix_listK (K := K) rfl) (pv 3) (pv 10) (fun _ _ => rfl)) pe_int (fun _ _ => rfl)) pe_int (nomark _))))))) (fun _ _ _ _ _ => (pv 10)))
      (pss_cons (ps_set (i := 11) sc_law_labelled_holds.nd rfl (.inl rfl) (pe_call G_law_pick hr_law_pick (by rfl) T.g_law_pick T.F_law_pick.kp T.b_law_pick .nil pass0 (pa_cons (pv 0) (pa_cons (pv 9) pa_nil))))
      (pss_cons (ps_set (i := 12) sc_law_labelled_holds.nd rfl (.inl rfl) (pe_call G_law_pick hr_law_pick (by rfl) T.g_law_pick T.F_law_pick.kp T.b_law_pick .nil pass0 (pa_cons (pv 0) (pa_cons (pv 9) pa_nil))))
      (pss_cons (ps_set (i := 13) sc_law_labelled_holds.nd rfl (.inl rfl) (pe_ix ix_tup (pe_fld (pv 1) rfl) pe_int (fun _ _ => rfl)))
      (pss_cons (ps_set (i := 14) sc_law_labelled_holds.nd rfl (.inl rfl) (pe_callB call_len_seq (by rfl) T.m_len PySem.boot_len (pa_cons (pe_fld (pv 1) rfl) pa_nil)))
      (pss_cons (ps_set (i := 15) sc_law_labelled_holds.nd rfl (.inl rfl) (pe_call G_law_way hr_law_way (by rfl) T.g_law_way T.F_law_way.kp T.b_law_way .nil pass0 (pa_cons (pv 0) (pa_cons (pv 13) (pa_cons (pe_lst (pa_cons (pe_ix ix_tup (pe_ix ix_tup (pe_fld (pv 1) rfl) pe_int (fun _ _ => rfl)) pe_int (fun _ _ => rfl)) (pa_cons (pe_ix ix_tup (pe_ix ix_list (pv 3) (pv 11) (fun _ _ => rfl)) pe_int (fun _ _ => rfl)) (pa_cons (pe_ix ix_tup (pe_ix ix_list (pv 3) (pv 12) (fun _ _ => rfl)) pe_int (fun _ _ => rfl)) (pa_cons (pe_ix ix_tup (pe_ix ix_list (pv 3) (pv 11) (fun _ _ => rfl)) pe_int (fun _ _ => rfl)) pa_nil))))) pa_nil)))))
      (pss_cons (ps_set (i := 16) sc_law_labelled_holds.nd rfl (.inl rfl) (pe_makeK (n := 1) T.MK_Grammar G_Grammar_init hr_Grammar_init (by rfl) T.G_Grammar (kb_Grammar6 T).choose_spec pass0 (pa_cons pe_str pa_nil) (pk_cons (pe_fld (pv 1) rfl) (pk_cons (pe_fld (pv 1) rfl) (pk_cons (pe_op op_catT (pe_fld (pv 1) rfl) (pe_tup (pa_cons (pv 15) pa_nil))) (pk_cons pe_str (pk_cons (pe_fld (pv 1) rfl) (pk_cons (pe_fld (pv 1) rfl) pk_nil))))))))
      (pss_cons (ps_set (i := 17) sc_law_labelled_holds.nd rfl (.inl rfl) (pe_call G_law_leaf_row hr_law_leaf_row (by rfl) T.g_law_leaf_row T.F_law_leaf_row.kp T.b_law_leaf_row .nil pass0 (pa_cons (pv 0) (pa_cons pe_int (pa_cons (pe_ix ix_tup (pe_ix ix_tup (pv 15) pe_int (fun _ _ => rfl)) pe_int (fun _ _ => rfl)) (pa_cons pe_bl pa_nil))))))
      (pss_cons (ps_set (i := 18) sc_law_labelled_holds.nd rfl (.inl rfl) (pe_lst (pa_cons (pe_tup (pa_cons pe_int (pa_cons (pv 13) (pa_cons (pv 13) (pa_cons pe_int (pa_cons pe_int (pa_cons pe_int (pa_cons pe_int (pa_cons (pv 14) (pa_cons pe_int pa_nil)))))))))) (pa_cons (pv 17) pa_nil))))
      (pss_cons (ps_set (i := 19) sc_law_labelled_holds.nd rfl (.inl rfl) (pe_lst (pa_cons pe_str (pa_cons (pe_ix ix_tup (pe_ix ix_tup (pv 15) pe_int (fun _ _ => rfl)) pe_int (fun _ _ => rfl)) pa_nil))))
      (pss_cons (ps_set (i := 20) sc_law_labelled_holds.nd rfl (.inl rfl) (pe_lst (pa_cons pe_non (pa_cons (pe_ix ix_list (pe_call G_law_made hr_law_made (by rfl) T.g_law_made T.F_law_made.kp T.b_law_made .nil pass0 (pa_cons (pe_lst (pa_cons (pe_op op_catT (pe_tup (pa_cons pe_int pa_nil)) (pe_slice sl_tup (pv 17) (po_some pe_int) po_none)) pa_nil)) pa_nil)) pe_int (fun _ _ => rfl)) pa_nil))))
      (pss_cons (ps_for PassesOwn.never rfl (pi_range1 (by rfl) T.m_range (pa_cons pe_int pa_nil)) (pg_name (i := 10) sc_law_labelled_holds.nd rfl (.inl rfl)) (pss_cons (ps_set (i := 21) sc_law_labelled_holds.nd rfl (.inr rfl) (pe_ix ix_list (pe_lst (pa_cons (pv 11) (pa_cons (pv 12) (pa_cons (pv 11) pa_nil)))) (pv 10) (fun _ _ => rfl)))
      (pss_cons (ps_set (i := 22) sc_law_labelled_holds.nd rfl (.inl rfl) (pe_call G_law_end hr_law_end (by rfl) T.g_law_end T.F_law_end.kp T.b_law_end .nil pass0 (pa_cons (pv 3) (pa_cons (pv 21) pa_nil))))
      (pss_cons (ps_set (i := 18) sc_law_labelled_holds.nd rfl (.inl rfl) (pe_op op_cat (pv 18) (pe_lc (own := [("row", 23)]) (g := gName 23) (by rfl) sc_law_labelled_holds.nd (pi_list (pe_slice sl_list (pv 3) (po_some (pv 21)) (po_some (pv 22)))) (blkOk_by (own := [("row", 23)]) (N := ["reel", "grammar", "veiled", "rows", "labels", "made", "skip", "known", "pair", "spots", "k", "one", "two", "head", "many", "way", "wider", "leaf", "others", "marks", "beside", "at", "end", "row", "below"]) (sc := defScope s_law_labelled_holds) (by decide +kernel)) (fun _ _ _ _ _ => pg_name (i := 23) sc_law_labelled_holds.nd rfl (Or.inl rfl)) (fun _ _ _ _ _ => pts_nil) (fun _ _ _ _ _ => (pe_op (op_catTK (K := K) rfl) (pe_tup (pa_cons (pe_op op_add (pe_op op_sub (pe_ix (ix_tupK (K := K) rfl) (pv 23) pe_int (fun _ _ => rfl)) (pe_ix (ix_tupK (K := K) rfl) (pe_ix (ix_listK (K := K) rfl) (pv 3) (pv 21) (fun _ _ => rfl)) pe_int (fun _ _ => rfl))) pe_int) pa_nil)) (pe_slice (sl_tupK (K := K) rfl) (pv 23) (po_some pe_int) po_none))))))
      (pss_cons (ps_set (i := 19) sc_law_labelled_holds.nd rfl (.inl rfl) (pe_op op_cat (pe_op op_cat (pv 19) (pe_lst (pa_cons (pe_ix ix_tup (pe_ix ix_tup (pv 15) pe_int (fun _ _ => rfl)) (pe_op op_add (pv 10) pe_int) (fun _ _ => rfl)) pa_nil))) (pe_slice sl_list (pv 4) (po_some (pe_op op_add (pv 21) pe_int)) (po_some (pv 22)))))
      (pss_one (ps_set (i := 20) sc_law_labelled_holds.nd rfl (.inl rfl) (pe_op op_cat (pv 20) (pe_slice sl_list (pv 5) (po_some (pv 21)) (po_some (pv 22)))))))))))
      (pss_cons (ps_set (i := 18) sc_law_labelled_holds.nd rfl (.inl rfl) (pe_call G_law_fitted hr_law_fitted (by rfl) T.g_law_fitted T.F_law_fitted.kp T.b_law_fitted .nil pass0 (pa_cons (pv 18) pa_nil)))
      (pss_cons (ps_set (i := 24) sc_law_labelled_holds.nd rfl (.inl rfl) (pe_tup (pa_cons (pe_ix ix_list (pv 20) pe_int (fun _ _ => rfl)) (pa_cons (pe_ix ix_list (pv 5) (pv 11) (fun _ _ => rfl)) (pa_cons (pe_ix ix_list (pv 5) (pv 12) (fun _ _ => rfl)) (pa_cons (pe_ix ix_list (pv 5) (pv 11) (fun _ _ => rfl)) pa_nil))))))
      (pss_cons (ps_asg (pe_makeK (n := 2) T.MK_Node G_Node_init hr_Node_init (by rfl) T.G_Node (kb_Node6 T).choose_spec pass0 (pa_cons (pv 13) (pa_cons (pv 13) pa_nil)) (pk_cons pe_int (pk_cons (pe_ix ix_tup (pe_ix ix_list (pv 18) pe_int (fun _ _ => rfl)) pe_int (fun _ _ => rfl)) (pk_cons (pe_ix ix_tup (pe_ix ix_list (pv 18) pe_int (fun _ _ => rfl)) pe_int (fun _ _ => rfl)) (pk_cons pe_int (pk_cons (pv 14) (pk_cons (pv 24) pk_nil))))))) (pg_sub (pv 20) pe_int set_list))
      (pss_one (ps_ret (pe_call G_law_agrees hr_law_agrees (by rfl) T.g_law_agrees T.F_law_agrees.kp T.b_law_agrees .nil pass0 (pa_cons (pv 16) (pa_cons (pv 2) (pa_cons (pv 18) (pa_cons (pv 19) (pa_cons (pv 20) (pa_cons (pe_lst (pa_cons pe_int pa_nil)) pa_nil)))))))))))))))))))))))))), ?_⟩
    have big : sizeLine = 2 ^ 24 := rfl
    have lu := paired_len TI.rws.row
    have r0 : 0 < rows.length := by omega
    obtain ⟨x0, hx0⟩ : ∃ x, rows[0]? = some x := ⟨_, List.getElem?_eq_getElem r0⟩
    obtain ⟨gx, hgx, hgx2⟩ := row_at TI hx0
    have esk : (if decide (x0.2.kind = ("root" : Str)) = true then (1 : Int) else 0) = (skip : Int) := by
      have := hrt x0 hx0
      by_cases c : x0.2.kind = ("root" : Str)
      · rw [if_pos (decide_eq_true c), this.mp c]
        rfl
      · rw [if_neg (fun z => c (of_decide_eq_true z))]
        have : skip ≠ 1 := fun z => c (this.mpr z)
        omega
    refine ⟨_, rfl, l, us, 0, .ref gx, rfl, rfl, SqL.of TI.rws.lst, atI_nat (j := 0) hgx, gx, _, 1, .str x0.2.kind, rfl, rfl, SqT.of hgx2, rfl, rfl, .inr ⟨_, rfl, ?_⟩⟩
    rw [decS, esk]
    obtain ⟨kus, hks, pks⟩ := GM.ks
    obtain ⟨dxg, hg⟩ := GI.at_
    have lkus := paired_len pks
    refine ⟨_, rfl, _, _, _, _, _, rfl, hg, T.CL_Grammar, T.NA_Grammar_kinds, gf_kinds _, g.ks, rfl, ⟨_, SqT.of hks⟩, fun D nD => ?_⟩
    refine lc_tup (K := K) (a := g.ks) (xs := kus) (fun i H' => Same H H' ∧ H' D = some (.lst ((ss.take i).map V.str))) ⟨same_upd nD, upd_same⟩ (fun i H' _ ⟨s, _⟩ => SqT.of (s _ _ hks)) ?_ ?_
    · rintro i v H1 hv ⟨s1, hD⟩
      obtain ⟨si, hsi⟩ : ∃ x, ss[i]? = some x := ⟨_, List.getElem?_eq_getElem (by rw [← lkus]; exact (List.getElem?_eq_some_iff.mp hv).1)⟩
      obtain ⟨v', hv', gk, xk, rfl, hgk⟩ := paired_get pks hsi
      obtain rfl : v = .ref gk := Option.some.inj (hv.symm.trans hv')
      refine ⟨rfl, _, rfl, gk, _, 0, .str si, rfl, rfl, SqT.of (s1 _ _ hgk), rfl, _, hD, sz2 (by rw [List.length_map, List.length_take]; omega), same_mut s1 nD, ?_⟩
      rw [upd_same, takeN hsi, List.map_append]
      rfl
    rintro H1 ⟨s1, hD⟩
    rw [lkus, List.take_length] at hD
    have hrs := GM.rs
    have hg1 := s1 _ _ hg
    refine ⟨_, rfl, _, _, _, _, _, rfl, hg1, T.CL_Grammar, T.NA_Grammar_rules, gf_rules _, g.rs, _, rfl, .inr (SqT.of (s1 _ _ hrs)), fun L1 nL1 => ?_⟩
    have t1 := same_upd (o := .lst (ns.map V.str)) nL1
    refine ⟨D, L1, _, _, rfl, rfl, t1 _ _ hD, upd_same, szM (by rw [List.length_map, List.length_map]; omega), fun kn nkn => ?_⟩
    have t2 := t1.trans (same_upd (o := .lst (ss.map V.str ++ ns.map V.str)) nkn)
    have hkn := upd_at (o := .lst (ss.map V.str ++ ns.map V.str)) nkn
    have s2 := s1.trans t2
    obtain ⟨H2, hH2⟩ : ∃ H2, H2 = upd (upd H1 L1 (.lst (ns.map V.str))) kn (.lst (ss.map V.str ++ ns.map V.str)) := ⟨_, rfl⟩
    rw [← hH2] at hkn s2 ⊢
    rw [← List.map_append] at hkn
    clear nD hD s1 t1 t2 nL1 nkn hH2 hg1
    have TI2 := TI.same s2
    refine ⟨_, rfl, _, rfl, l, us, rfl, .inl (SqL.of TI2.rws.lst), _, rfl, _, _, rfl, rfl, _, _, rfl, by omega, fun sl nsl => ?_⟩
    refine lc_range (lo := (skip : Int)) (n := (((us.length : Nat) : Int) - (skip : Int) - (skip : Int)).toNat) (fun j H' => Same H2 H' ∧ ∃ ks : List Nat, H' sl = some (.lst ((natsZ ks).map V.int)) ∧ ks.length ≤ j ∧ (∀ k ∈ ks, k < rows.length) ∧ ∀ k x, skip ≤ k → k < skip + j → rows[k]? = some x → x.2.sym ∈ ss ++ ns → 0 ≤ x.2.st → k ∈ ks) ⟨same_upd nsl, [], upd_same, Nat.le_refl _, fun k hk => absurd hk List.not_mem_nil, fun k x h1 h2 => by omega⟩ ?_ ?_
    · rintro j H3 hj ⟨s3, ks, hsl, lks, hkr, hall⟩
      have hkr2 : skip + j < rows.length := by omega
      obtain ⟨xk, hxk⟩ : ∃ x, rows[skip + j]? = some x := ⟨_, List.getElem?_eq_getElem hkr2⟩
      have TI3 := TI2.same s3
      obtain ⟨gk, hgk, hgk2⟩ := row_at TI3 hxk
      have ej : (skip : Int) + (j : Int) = ((skip + j : Nat) : Int) := by omega
      rw [ej]
      refine ⟨rfl, ?_⟩
      refine (Ts.and (A := xk.2.sym ∈ ss ++ ns) (B := 0 ≤ xk.2.st) (fun Q q => ⟨_, rfl, _, rfl, l, us, _, .ref gk, rfl, rfl, SqL.of TI3.rws.lst, atI_nat hgk, gk, _, 2, .str xk.2.sym, rfl, rfl, SqT.of hgk2, rfl, _, rfl, kn, _, rfl, .inl (SqL.of (s3 _ _ hkn)), rfl, flat_strs _, _, rfl, q _ (by rw [inV_strs, if_neg (by decide), decide_eq_true_eq])⟩) (fun _ Q q => ⟨_, rfl, _, rfl, l, us, _, .ref gk, rfl, rfl, SqL.of TI3.rws.lst, atI_nat hgk, gk, _, 3, .int xk.2.st, rfl, rfl, SqT.of hgk2, rfl, _, _, rfl, rfl, _, rfl, q _ decide_eq_true_iff⟩)) _ (fun c i => ?_)
      refine ite2 (fun c1 => ?_) (fun c1 => ?_)
      · refine ⟨_, rfl, _, hsl, sz2 (by rw [List.length_map, natsZ_len]; omega), same_mut s3 nsl, ks ++ [skip + j], ?_, by rw [List.length_append]; show _ + 1 ≤ _; omega, fun k hk => ?_, fun k x h1 h2 h3 h4 h5 => ?_⟩
        · rw [upd_same]
          unfold natsZ
          rw [List.map_append, List.map_append]
          rfl
        · rcases List.mem_append.mp hk with h | h
          · exact hkr k h
          · rw [List.mem_singleton.mp h]
            exact hkr2
        · by_cases hkj : k = skip + j
          · exact List.mem_append_right _ (List.mem_singleton.mpr hkj)
          · exact List.mem_append_left _ (hall k x h1 (by omega) h3 h4 h5)
      · refine ⟨s3, ks, hsl, by omega, hkr, fun k x h1 h2 h3 h4 h5 => ?_⟩
        by_cases hkj : k = skip + j
        · subst hkj
          rw [hxk] at h3
          injection h3 with h3
          rw [← h3] at h4 h5
          exact absurd (i.mpr ⟨h4, h5⟩) c1
        · exact hall k x h1 (by omega) h3 h4 h5
    rintro H3 ⟨s3, ks, hsl, lks, hkr, hall⟩
    have ks0 : 0 < ks.length := List.length_pos_of_mem (hall skip xs0 (Nat.le_refl _) (by omega) hxs0 (List.mem_append_right _ xsy) xst)
    have s03 := s2.trans s3
    have R3 := R.same s03
    have nslr : sl ≠ r := ((R.same s2).ne nsl).symm
    have lks2 : ((natsZ ks).map V.int).length = ks.length := by rw [List.length_map, natsZ_len]
    refine ⟨_, rfl, _, rfl, r, .ref sl, rfl, R3, .inr ⟨sl, _, rfl, nslr, SqL.of hsl, by omega, fun v H4 hv b4 R4 => ?_⟩⟩
    obtain ⟨a, la, rfl⟩ : ∃ a, a < rows.length ∧ v = V.int ((a : Nat) : Int) := by
      unfold natsZ at hv
      rw [List.map_map] at hv
      obtain ⟨a, ha, rfl⟩ := List.mem_map.mp hv
      exact ⟨a, hkr a ha, rfl⟩
    refine ⟨_, rfl, _, rfl, r, .ref sl, rfl, R4, .inr ⟨sl, _, rfl, nslr, SqL.of (b4 _ _ nslr hsl), by omega, fun v H5 hv b5 R5 => ?_⟩⟩
    obtain ⟨b, lb2, rfl⟩ : ∃ b, b < rows.length ∧ v = V.int ((b : Nat) : Int) := by
      unfold natsZ at hv
      rw [List.map_map] at hv
      obtain ⟨b, hb, rfl⟩ := List.mem_map.mp hv
      exact ⟨b, hkr b hb, rfl⟩
    have B5 : But r H H5 := ((But.of s03).trans b4).trans b5
    clear hsl hkn s2 s3 TI2 hkr hall ks0 lks lks2 nsl s03 R3 R4 b4 b5
    have TI5 := TI.but B5 R nl nm
    have GI5 := GI.but B5 R
    have GM5 := GM.tups (B5.tups R)
    obtain ⟨dx5, hg5⟩ := GI5.at_
    obtain ⟨kus5, hks5, pks5⟩ := GM5.ks
    obtain ⟨aus5, hal5, pal5⟩ := GI5.als
    obtain ⟨vk0, hvk0, gk0, xk0, rfl, hgk0⟩ := paired_get pks5 hs0
    obtain ⟨ra, hra⟩ : ∃ x, rows[a]? = some x := ⟨_, List.getElem?_eq_getElem la⟩
    obtain ⟨rb, hrb⟩ : ∃ x, rows[b]? = some x := ⟨_, List.getElem?_eq_getElem lb2⟩
    obtain ⟨ga, hga, hga2⟩ := row_at TI5 hra
    obtain ⟨gb, hgb, hgb2⟩ := row_at TI5 hrb
    have hn0' : (ns.map V.str)[0]? = some (.str n0) := by rw [List.getElem?_map, hn0]; rfl
    refine ⟨_, rfl, _, _, _, _, _, rfl, hg5, T.CL_Grammar, T.NA_Grammar_rules, gf_rules _, g.rs, _, 0, .str n0, rfl, rfl, SqT.of GM5.rs, atI_nat (j := 0) hn0', ?_⟩
    refine ⟨_, rfl, _, _, _, _, _, rfl, hg5, T.CL_Grammar, T.NA_Grammar_alternatives, gf_alternatives _, g.al, aus5, rfl, .inr (SqT.of hal5), ?_⟩
    rw [paired_len pal5]
    refine ⟨_, rfl, _, rfl, _, rfl, _, _, _, _, _, rfl, hg5, T.CL_Grammar, T.NA_Grammar_kinds, gf_kinds _, g.ks, kus5, 0, .ref gk0, rfl, rfl, SqT.of hks5, atI_nat (j := 0) hvk0, gk0, _, 0, .str s0, rfl, rfl, SqT.of hgk0, rfl, ?_⟩
    refine ⟨_, rfl, _, rfl, l, us, _, .ref ga, rfl, rfl, SqL.of TI5.rws.lst, atI_nat hga, ga, _, 2, .str ra.2.sym, rfl, rfl, SqT.of hga2, rfl, ?_⟩
    refine ⟨_, rfl, _, rfl, l, us, _, .ref gb, rfl, rfl, SqL.of TI5.rws.lst, atI_nat hgb, gb, _, 2, .str rb.2.sym, rfl, rfl, SqT.of hgb2, rfl, ?_⟩
    refine ⟨_, rfl, _, rfl, l, us, _, .ref ga, rfl, rfl, SqL.of TI5.rws.lst, atI_nat hga, ga, _, 2, .str ra.2.sym, rfl, rfl, SqT.of hga2, rfl, by show 4 ≤ sizeLine; decide, fun q1 nq1 => ?_⟩
    have nq1r : q1 ≠ r := (R5.ne nq1).symm
    refine ⟨r, q1, n0, [s0, ra.2.sym, rb.2.sym, ra.2.sym], rfl, R5.new nq1, upd_same, nq1r, by show 4 ≤ 8; decide, fun v wy H6 hv e1 e2 e3 e4 b6 R6 => ?_⟩
    have B6 : But r H H6 := (B5.trans (.new nq1)).trans b6
    have TI6 := TI.but B6 R nl nm
    have GI6 := GI.but B6 R
    have GM6 := GM.tups (B6.tups R)
    obtain ⟨gw, gws, gwl, rfl, hw1, hw2, hw3⟩ := hv
    obtain ⟨dx6, hg6⟩ := GI6.at_
    obtain ⟨aus6, hal6, pal6⟩ := GI6.als
    have laus6 := paired_len pal6
    refine ⟨_, rfl, _, _, _, _, _, rfl, hg6, T.CL_Grammar, T.NA_Grammar_kinds, gf_kinds _, _, rfl, _, _, _, _, _, rfl, hg6, T.CL_Grammar, T.NA_Grammar_rules, gf_rules _, _, rfl, _, _, _, _, _, rfl, hg6, T.CL_Grammar, T.NA_Grammar_alternatives, gf_alternatives _, _, rfl, by show 1 ≤ sizeLine; decide, fun w1 nw1 => ?_⟩
    have t1 := same_upd (o := .tup [.ref gw]) nw1
    refine ⟨g.al, w1, _, _, rfl, rfl, SqT.of (t1 _ _ hal6), SqT.of upd_same, fun z => ?_, by show aus6.length + 1 ≤ _; omega, fun z => (by cases z), fun _ w2 nw2 => ?_⟩
    · rw [z] at laus6
      exact absurd laus6 (by show (0 : Nat) ≠ al.length; omega)
    have t2 := t1.trans (same_upd (o := .tup (aus6 ++ [.ref gw])) nw2)
    have hw2' := upd_at (o := .tup (aus6 ++ [.ref gw])) nw2
    obtain ⟨H7, hH7⟩ : ∃ H7, H7 = upd (upd H6 w1 (.tup [.ref gw])) w2 (.tup (aus6 ++ [.ref gw])) := ⟨_, rfl⟩
    rw [← hH7] at t2 hw2' ⊢
    have hg7 := t2 _ _ hg6
    obtain ⟨reu, hre7⟩ := (GM6.tups (same_tps t2)).re
    have GI7 := GI6.same t2
    have GM7 := GM6.tups (same_tps t2)
    obtain ⟨kus7, hks7, _⟩ := GM7.ks
    refine ⟨_, rfl, _, _, _, _, _, rfl, hg7, T.CL_Grammar, T.NA_Grammar_hidden, gf_hidden _, _, rfl, _, _, _, _, _, rfl, hg7, T.CL_Grammar, T.NA_Grammar_recover, gf_recover _, rfl, rfl, fun W dx nW ndx hne => ?_⟩
    have su : Same H7 (upd (upd H7 dx (.own W)) W (.ins T.C_Grammar dx [])) := (same_upd ndx).trans (same_upd (by rw [upd_ne hne.symm]; exact nW))
    obtain ⟨g2, hg2⟩ : ∃ g2 : Gm, g2 = ⟨"drawn", " ", g.ks, g.rs, w2, g.hd, g.re, T.T0_Grammar_inner, T.T0_Grammar_steps⟩ := ⟨_, rfl⟩
    have sw : Same H7 (upd (upd (upd H7 dx (.own W)) W (.ins T.C_Grammar dx [])) W (.ins T.C_Grammar dx (gfl g2))) := by
      rw [upd_upd]
      exact (same_upd ndx).trans (same_upd (by rw [upd_ne hne.symm]; exact nW))
    have hW : (upd (upd (upd H7 dx (.own W)) W (.ins T.C_Grammar dx [])) W (.ins T.C_Grammar dx (gfl g2))) W = some (.ins T.C_Grammar dx (gfl g2)) := upd_same
    refine ⟨W, dx, g2, upd_same, by rw [hg2]; rfl, ⟨_, by rw [hg2]; exact SqT.of (su _ _ hks7)⟩, ⟨_, by rw [hg2]; exact SqT.of (su _ _ GM7.rs)⟩, ⟨_, by rw [hg2]; exact SqT.of (su _ _ hw2')⟩, ⟨_, by rw [hg2]; exact SqT.of (su _ _ GI7.hds)⟩, ⟨_, by rw [hg2]; exact SqT.of (su _ _ hre7)⟩, ⟨[], by rw [hg2]; exact t0_sq T.t0_Grammar_inner _⟩, ⟨[], by rw [hg2]; exact t0_sq T.t0_Grammar_steps _⟩, rfl, ?_⟩
    obtain ⟨H8, hH8⟩ : ∃ H8, H8 = upd (upd (upd H7 dx (.own W)) W (.ins T.C_Grammar dx [])) W (.ins T.C_Grammar dx (gfl g2)) := ⟨_, rfl⟩
    rw [← hH8] at sw hW ⊢
    have s68 := t2.trans sw
    have GI8 : GrIn K T.C_Grammar H8 W g2 (al ++ [wy]) hid := by
      refine ⟨⟨dx, hW⟩, ⟨aus6 ++ [.ref gw], by rw [hg2]; exact sw _ _ hw2', paired_app (Paired.mapP pal6 fun _ _ x => x.tups (same_tps s68)) (.cons ⟨gw, gws, gwl, rfl, s68 _ _ hw1, s68 _ _ hw2, s68 _ _ hw3⟩ .nil)⟩, by rw [hg2]; exact sw _ _ GI7.hds, fun w hw => ?_⟩
      rcases List.mem_append.mp hw with h | h
      · exact GI.sh w h
      · rw [List.mem_singleton.mp h]
        exact e4
    clear GI7 GM7 hks7 hre7 hw2' su hg7
    have R8 := R6.same s68
    refine ⟨_, rfl, _, rfl, gw, _, 1, .ref gws, rfl, rfl, SqT.of (s68 _ _ hw1), rfl, gws, _, 0, .str s0, rfl, rfl, SqT.of (s68 _ _ hw2), by rw [e2]; rfl, r, 1, s0, false, rfl, R8, s0e, s0r, fun v dl H9 hrw hleaf w0 w10 alt9 b9 R9 => ?_⟩
    obtain ⟨gl, rfl, hgl⟩ := hrw
    have B9 := (B6.trans (.of s68)).trans b9
    have GI9 := GI8.but b9 R8
    have hw19 := b9.tups R8 _ _ (s68 _ _ hw1)
    have hw39 := b9.tups R8 _ _ (s68 _ _ hw3)
    obtain ⟨x0, x1, x2, x3, ewl⟩ : ∃ x0 x1 x2 x3, wy.lb = [x0, x1, x2, x3] := by
      have l4 : wy.lb.length = 4 := e3
      match h : wy.lb, l4 with
      | [x0, x1, x2, x3], _ => exact ⟨x0, x1, x2, x3, rfl⟩
    rw [ewl] at hw39
    have hw39 : H9 gwl = some (.tup [.str x0, .str x1, .str x2, .str x3]) := hw39
    obtain ⟨d0, hd0⟩ : ∃ d : Nd, d = ⟨n0, n0, 3, 0, 0, 9, ((al.length : Nat) : Int), 0⟩ := ⟨_, rfl⟩
    have ed0 : HO.tup [V.int 0, V.str n0, V.str n0, V.int 3, V.int 0, V.int 0, V.int 9, V.int ((al.length : Nat) : Int), V.int 0] = HO.tup (rwV (0, d0)) := by
      rw [hd0]
      rfl
    refine ⟨_, rfl, _, rfl, _, rfl, by show 9 ≤ sizeLine; decide, fun gt ngt => ⟨_, rfl, by show 2 ≤ sizeLine; decide, fun O nO => ?_⟩⟩
    rw [ed0] at nO ⊢
    have u1 := same_upd (o := .tup (rwV (0, d0))) ngt
    have u2 := u1.trans (same_upd (o := .lst [.ref gt, .ref gl]) nO)
    refine ⟨_, rfl, gw, _, 2, .ref gwl, rfl, rfl, SqT.of (u2 _ _ hw19), rfl, gwl, _, 0, .str x0, rfl, rfl, SqT.of (u2 _ _ hw39), rfl, by show 2 ≤ sizeLine; decide, fun L nL => ?_⟩
    have v3 := same_upd (o := .lst [.str "", .str x0]) nL
    have u3 := u2.trans v3
    have hO := v3 _ _ (upd_same (a := O) (o := .lst [.ref gt, .ref gl]))
    have hgt := v3 _ _ ((same_upd (o := .lst [.ref gt, .ref gl]) nO) _ _ (upd_same (a := gt) (o := .tup (rwV (0, d0)))))
    have hL := upd_at (o := .lst [.str "", .str x0]) nL
    obtain ⟨HA, hHA⟩ : ∃ HA, HA = upd (upd (upd H9 gt (.tup (rwV (0, d0)))) O (.lst [.ref gt, .ref gl])) L (.lst [.str "", .str x0]) := ⟨_, rfl⟩
    rw [← hHA] at u3 hO hgt hL ⊢
    clear u1 u2 v3 ngt nO nL
    have hglA := u3 _ _ hgl
    have ncut : ∀ rj : Rw, ¬ (HT.sIx (rwV rj).length 0 (some 1) = 0 ∧ HT.sIx (rwV rj).length (rwV rj).length none = (rwV rj).length) := fun rj z => by
      have := z.1
      rw [show (1 : Int) = ((1 : Nat) : Int) from rfl, HT.sIx_nat] at this
      have l9 : (rwV rj).length = 9 := rfl
      omega
    refine ⟨by show 1 ≤ sizeLine; decide, fun q1 nq1 => ?_⟩
    have t1 := same_upd (o := .tup [.int 0]) nq1
    refine ⟨_, rfl, _, rfl, no_part ⟨gl, _, rfl, SqT.of (t1 _ _ hglA), ncut _, fun q2 nq2 => ?_⟩⟩
    have t2 := same_upd (o := .tup (cutV (rwV (1, dl)) (some 1) none)) nq2
    refine ⟨q1, q2, _, _, rfl, rfl, SqT.of (t2 _ _ upd_same), SqT.of upd_same, List.cons_ne_nil _ _, by show 1 + 8 ≤ sizeLine; decide, (fun z => by cases z), fun _ q3 nq3 => ⟨by show 1 ≤ sizeLine; decide, fun q4 nq4 => ?_⟩⟩
    have t3 := same_upd (o := .tup (rwV (0, dl))) nq3
    have t4 := same_upd (o := .lst [.ref q3]) nq4
    refine ⟨q4, [(0, dl)], rfl, ⟨⟨_, upd_same, .cons ⟨q3, rfl, t4 _ _ upd_same⟩ .nil⟩, ⟨[], rfl, fun x hx => absurd hx List.not_mem_nil, True.intro⟩, True.intro⟩, by show 1 ≤ 5000; decide, fun m1 as1 tr1 HB sB nm1 hm1 las1 hras1 nt1 => ?_⟩
    obtain ⟨f1, rfl⟩ := List.length_eq_one_iff.mp las1
    obtain rfl : tr1 = .mk f1 dl [] := ras_one hras1
    refine ⟨m1, _, 0, .ref f1, rfl, rfl, SqL.of hm1, atI_nat (j := 0) rfl, by show 2 ≤ sizeLine; decide, fun B nB => ?_⟩
    have t5 := same_upd (o := .lst [.non, .ref f1]) nB
    have uAC := ((((t1.trans t2).trans t3).trans t4).trans sB).trans t5
    have hBC := upd_at (o := .lst [.non, .ref f1]) nB
    have nB0 : H9 B = none := (u3.trans ((((t1.trans t2).trans t3).trans t4).trans sB)).free nB
    have nt1C := nt1.keep (Keeps.of t5)
    obtain ⟨HC, hHC⟩ : ∃ HC, HC = upd HB B (.lst [.non, .ref f1]) := ⟨_, rfl⟩
    rw [← hHC] at uAC hBC nt1C ⊢
    clear t1 t2 t3 t4 t5 sB nm1 hm1 las1 hras1 nt1 nq1 nq2 nq3 nq4 nB hHC
    have u9C := u3.trans uAC
    obtain ⟨f, hf⟩ : ∃ f : Nat → Str × Tr, f = fun k => (([x1, x2, x3] : List Str).getD k "", subT t (([a, b, a] : List Nat).getD k 0)) := ⟨_, rfl⟩
    have S0 : SideAt al [(0, d0), (1, dl)] [("" : Str), x0] [.non, .ref f1] f 0 HC O L B := ⟨⟨_, uAC _ _ hO, .cons ⟨gt, rfl, uAC _ _ hgt⟩ (.cons ⟨gl, rfl, u9C _ _ hgl⟩ .nil)⟩, uAC _ _ hL, hBC⟩
    have TI9 := TI.but B9 R nl nm
    refine ⟨_, rfl, by decide, by decide, ?_⟩
    refine for_range (lo := 0) (n := (3 : Int).toNat) (fun j σ H' => Same HC H' ∧ ∃ (o mk be : Addr) (y10 y21 y22 y23 : Option V), σ = [some (.ref r), some (.ref p), some (.ref vl), some (.ref l), some (.ref lb), some (.ref m), some (.int (skip : Int)), some (.ref kn), none, some (.ref sl), y10, some (.int (a : Int)), some (.int (b : Int)), some (.str n0), some (.int ((al.length : Nat) : Int)), some (.ref gw), some (.ref W), some (.ref gl), some (.ref o), some (.ref mk), some (.ref be), y21, y22, y23, none] ∧ H9 be = none ∧ SideAt al [(0, d0), (1, dl)] [("" : Str), x0] [.non, .ref f1] f j H' o mk be)
      ⟨Same.refl _, O, L, B, _, _, _, _, rfl, nB0, S0⟩ ?_ ?_
    · rintro j σ HD hj ⟨sD, o, mk, be, y10, y21, y22, y23, rfl, nbe0, SD⟩
      have j3 : j < 3 := hj
      obtain ⟨c, hc, hci, hcr⟩ : ∃ c : Nat, c = ([a, b, a] : List Nat).getD j 0 ∧ ([V.int ((a : Nat) : Int), .int ((b : Nat) : Int), .int ((a : Nat) : Int)] : List V)[j]? = some (V.int (c : Int)) ∧ c < rows.length := by
        match j, j3 with
        | 0, _ => exact ⟨a, rfl, rfl, la⟩
        | 1, _ => exact ⟨b, rfl, rfl, lb2⟩
        | 2, _ => exact ⟨a, rfl, rfl, la⟩
      obtain ⟨X, hX0, hX⟩ : ∃ X, X = ([x1, x2, x3] : List Str).getD j "" ∧ atI [V.str x0, .str x1, .str x2, .str x3] (((j : Nat) : Int) + 1) = some (.str X) := by
        match j, j3 with
        | 0, _ => exact ⟨x1, rfl, rfl⟩
        | 1, _ => exact ⟨x2, rfl, rfl⟩
        | 2, _ => exact ⟨x3, rfl, rfl⟩
      have efj : f j = (X, subT t c) := by rw [hf, hc, hX0]
      have ej : (0 : Int) + (j : Int) = ((j : Nat) : Int) := by omega
      rw [ej]
      refine ⟨_, rfl, _, rfl, _, rfl, by show 3 ≤ sizeLine; decide, fun c1 nc1 => ⟨_, rfl, c1, _, _, .int (c : Int), rfl, rfl, SqL.of upd_same, atI_nat hci, ?_⟩⟩
      have sc := same_upd (o := .lst [.int ((a : Nat) : Int), .int ((b : Nat) : Int), .int ((a : Nat) : Int)]) nc1
      obtain ⟨H7, hH7⟩ : ∃ H7, H7 = upd HD c1 (.lst [.int ((a : Nat) : Int), .int ((b : Nat) : Int), .int ((a : Nat) : Int)]) := ⟨_, rfl⟩
      rw [← hH7] at sc ⊢
      have s7 := sD.trans sc
      have S := SD.same sc
      have u7 := u9C.trans s7
      have TI7 := TI9.same u7
      obtain ⟨ous, hou, prs⟩ := S.ro
      have f110 : ∀ k, (f k).2.ats.length ≤ 110 := fun k => by
        rw [hf]
        have : ([a, b, a] : List Nat).getD k 0 < rows.length := by
          match k with
          | 0 => exact la
          | 1 => exact lb2
          | 2 => exact la
          | k + 3 => exact r0
        exact Nat.le_trans (TI.subLe this) lrw
      have j110 : j * 110 ≤ 2 * 110 := Nat.mul_le_mul_right _ (by omega)
      have lous : ous.length ≤ 2 + 2 * 110 := by
        rw [paired_len prs, List.length_append]
        have := flat_le (f := fun k => Fl (f k).2 1) (N := 110) (fun k => by rw [Fl_ats]; exact f110 k) j
        show 2 + _ ≤ _
        omega
      obtain ⟨mls, hmls⟩ : ∃ mls, mls = [("" : Str), x0] ++ ((List.range j).map fun k => labsT al (f k).2 (f k).1).flatten := ⟨_, rfl⟩
      have lmls : mls.length ≤ 2 + 2 * 110 := by
        rw [hmls, List.length_append]
        have := flat_le (f := fun k => labsT al (f k).2 (f k).1) (N := 110) (fun k => by rw [labsT_len]; exact f110 k) j
        show 2 + _ ≤ _
        omega
      obtain ⟨bes, hbes⟩ : ∃ bes, bes = [V.non, V.ref f1] ++ (((List.range j).map fun k => (f k).2.ats).flatten).map V.ref := ⟨_, rfl⟩
      have lbes : bes.length ≤ 2 + 2 * 110 := by
        rw [hbes, List.length_append, List.length_map]
        have := flat_le (f := fun k => (f k).2.ats) (N := 110) f110 j
        show 2 + _ ≤ _
        omega
      have hmk7 := S.ma
      have hbe7 := S.be
      rw [← hmls] at hmk7
      rw [← hbes] at hbe7
      have hlb7 := u7 _ _ (B9 _ _ nlb hlb)
      refine ⟨_, rfl, _, rfl, l, us, rows, c, rfl, TI7.rws, by omega, hcr, fun e he => ?_⟩
      obtain ⟨n, lv, SL⟩ := TI7.slice al he hcr
      have pe := SL.e
      have ple := SL.le
      have pn1 := SL.n1
      subst pe
      refine ⟨_, rfl, _, rfl, _, rfl, _, rfl, _, rfl, _, rfl, l, us, rfl, SqL.of TI7.rws.lst, fun pt npt => ?_⟩
      rw [cut_midA (by omega)]
      obtain ⟨pus, hpus⟩ : ∃ pus, pus = (us.drop c).take n := ⟨_, rfl⟩
      obtain ⟨prw, hprw⟩ : ∃ prw, prw = (rows.drop c).take n := ⟨_, rfl⟩
      rw [← hpus]
      have hfl : Fl (subT t c) 1 = prw.map fun x => (x.1 - lv + 1, x.2) := by rw [hprw]; exact SL.fl
      have pp1 : Paired (RwAt H7) pus prw := by
        rw [hpus, hprw]
        exact paired_take _ (paired_drop _ TI7.rws.row)
      have lpu : pus.length = n := by rw [hpus, List.length_take, List.length_drop]; omega
      have lpr : prw.length = n := by rw [hprw, List.length_take, List.length_drop]; omega
      have s8 := same_upd (o := .lst pus) npt
      have hpt : (upd H7 pt (.lst pus)) pt = some (.lst pus) := upd_same
      obtain ⟨H8, hH8⟩ : ∃ H8, H8 = upd H7 pt (.lst pus) := ⟨_, rfl⟩
      rw [← hH8] at s8 hpt ⊢
      have pp8 : Paired (RwAt H8) pus prw := Paired.mapP pp1 fun _ _ x => x.tups fun b xs e => s8 b _ e
      have TI8 := TI7.same s8
      obtain ⟨dc, hrc⟩ := SL.row
      obtain ⟨gc, hgc, hgc2⟩ := row_at TI8 hrc
      refine ⟨pt, rfl, ⟨_, SqL.of hpt⟩, fun D nD => ?_⟩
      have hDp : D ≠ pt := (ne_of_none hpt nD).symm
      refine lc_list (K := K) (a := pt) (xs := pus) (fun i H' => Same H8 H' ∧ ∃ vs, H' D = some (.lst vs) ∧ vs.length = i ∧ Paired (RwAt H') vs ((Fl (subT t c) 1).take i)) ⟨same_upd nD, [], upd_same, rfl, .nil⟩ (fun i H' _ ⟨s, _⟩ => SqL.of (s _ _ hpt)) ?_ ?_
      · rintro i v H9 hv ⟨s9, vs, hD, lvs, pv⟩
        have hi : i < n := by
          rw [← lpu]
          exact (List.getElem?_eq_some_iff.mp hv).1
        obtain ⟨rj, hrj⟩ : ∃ x, prw[i]? = some x := ⟨_, List.getElem?_eq_getElem (by rw [lpr]; exact hi)⟩
        obtain ⟨v', hv', g1, rfl, hg1⟩ := paired_get pp8 hrj
        obtain rfl : v = .ref g1 := Option.some.inj (hv.symm.trans hv')
        have hLj : (Fl (subT t c) 1)[i]? = some ((rj.1 - lv + 1, rj.2) : Rw) := by
          rw [hfl, List.getElem?_map, hrj]
          rfl
        have hg9 := s9 _ _ hg1
        have TI9 := TI8.same s9
        have ncut : ¬ (HT.sIx (rwV rj).length 0 (some 1) = 0 ∧ HT.sIx (rwV rj).length (rwV rj).length none = (rwV rj).length) := fun z => by
          have := z.1
          rw [show (1 : Int) = ((1 : Nat) : Int) from rfl, HT.sIx_nat] at this
          have l9 : (rwV rj).length = 9 := rfl
          omega
        refine ⟨rfl, _, rfl, g1, _, 0, .int rj.1, rfl, rfl, SqT.of hg9, rfl, _, rfl, _, rfl, l, us, _, .ref gc, rfl, rfl, SqL.of TI9.rws.lst, atI_nat hgc, gc, _, 0, .int lv, rfl, rfl, SqT.of (s9 _ _ hgc2), rfl, _, _, rfl, rfl, _, _, rfl, rfl, by show 1 ≤ sizeLine; decide, fun p1 np1 => ?_⟩
        have t1 := same_upd (o := .tup [.int (rj.1 - lv + 1)]) np1
        refine ⟨_, rfl, _, rfl, no_part ⟨g1, _, rfl, SqT.of (t1 _ _ hg9), ncut, fun p2 np2 => ?_⟩⟩
        have t2 := same_upd (o := .tup (cutV (rwV rj) (some 1) none)) np2
        refine ⟨p1, p2, _, _, rfl, rfl, SqT.of (t2 _ _ (upd_same (o := .tup [.int (rj.1 - lv + 1)]))), SqT.of upd_same, List.cons_ne_nil _ _, by show 1 + 8 ≤ sizeLine; decide, (fun z => by cases z), fun _ p3 np3 => ?_⟩
        have t3 := same_upd (o := .tup (rwV (rj.1 - lv + 1, rj.2))) np3
        have t13 := (t1.trans t2).trans t3
        refine ⟨vs, t13 _ _ hD, sz2 (by omega), ?_⟩
        have hD7 := t13 _ _ hD
        refine ⟨same_mut (s9.trans t13) nD, vs ++ [.ref p3], upd_same, by rw [List.length_append, lvs]; rfl, ?_⟩
        rw [takeN hLj]
        have tu : Tups H9 _ := Tups.trans (fun b xs e => t13 b _ e) (tups_lst (o := .lst (vs ++ [.ref p3])) hD7)
        refine paired_app (Paired.mapP pv fun _ _ x => x.tups tu) (.cons ⟨p3, rfl, tups_lst hD7 _ _ upd_same⟩ .nil)
      rintro H9 ⟨s9, vs, hD, lvs, pv⟩
      rw [lpu, ← SL.ln, ← Fl_ats _ 1, List.take_length] at pv
      rw [lpu] at lvs
      have s79 := s8.trans s9
      have lla : (labsT al t "").length = rows.length := by rw [labsT_len, TI.ats, TI.len]
      refine ⟨o, D, _, _, rfl, rfl, s79 _ _ hou, hD, szM (by omega), fun o2 no2 => ?_⟩
      have t10 := same_upd (o := .lst (ous ++ vs)) no2
      have ho2 := upd_at (o := .lst (ous ++ vs)) no2
      obtain ⟨H10, hH10⟩ : ∃ H10, H10 = upd H9 o2 (.lst (ous ++ vs)) := ⟨_, rfl⟩
      rw [← hH10] at t10 ho2 ⊢
      have s710 := s79.trans t10
      have hgw10 := s710 _ _ (u7 _ _ hw19)
      have hgwl10 := s710 _ _ (u7 _ _ hw39)
      refine ⟨_, rfl, _, rfl, gw, _, 2, .ref gwl, rfl, rfl, SqT.of hgw10, rfl, _, rfl, _, _, rfl, rfl, gwl, _, _, .str X, rfl, rfl, SqT.of hgwl10, hX, by show 1 ≤ sizeLine; decide, fun z1 nz1 => ?_⟩
      have t11 := same_upd (o := .lst [.str X]) nz1
      refine ⟨mk, z1, _, _, rfl, rfl, t11 _ _ (s710 _ _ hmk7), upd_same, szM (by rw [List.length_map]; show _ + 1 ≤ _; omega), fun z2 nz2 => ?_⟩
      have t12 := t11.trans (same_upd (o := .lst (mls.map V.str ++ [.str X])) nz2)
      have hz2 := upd_at (o := .lst (mls.map V.str ++ [.str X])) nz2
      obtain ⟨H12, hH12⟩ : ∃ H12, H12 = upd (upd H10 z1 (.lst [.str X])) z2 (.lst (mls.map V.str ++ [.str X])) := ⟨_, rfl⟩
      rw [← hH12] at t12 hz2 ⊢
      have s712 := s710.trans t12
      have ecl : cutV ((labsT al t "").map V.str) (some (((c : Nat) : Int) + 1)) (some (((c + n : Nat)) : Int)) = (((labsT al t "").drop (c + 1)).take (n - 1)).map V.str := by
        rw [show ((c : Nat) : Int) + 1 = ((c + 1 : Nat) : Int) by omega, show c + n = (c + 1) + (n - 1) by omega, cut_midA (by rw [List.length_map]; omega), ← List.map_drop, ← List.map_take]
      refine ⟨_, rfl, _, rfl, _, _, rfl, rfl, _, rfl, _, rfl, _, rfl, lb, _, rfl, SqL.of (s712 _ _ hlb7), fun z3 nz3 => ?_⟩
      rw [ecl]
      obtain ⟨lsl, hlsl⟩ : ∃ lsl, lsl = ((labsT al t "").drop (c + 1)).take (n - 1) := ⟨_, rfl⟩
      rw [← hlsl]
      have llsl : lsl.length ≤ 110 := by
        rw [hlsl, List.length_take]
        omega
      have t13 := same_upd (o := .lst (lsl.map V.str)) nz3
      refine ⟨z2, z3, _, _, rfl, rfl, t13 _ _ hz2, upd_same, szM (by rw [List.length_append, List.length_map, List.length_map]; show _ + 1 + _ ≤ _; omega), fun z4 nz4 => ?_⟩
      have t14 := t13.trans (same_upd (o := .lst (mls.map V.str ++ [.str X] ++ lsl.map V.str)) nz4)
      have hz4 := upd_at (o := .lst (mls.map V.str ++ [.str X] ++ lsl.map V.str)) nz4
      obtain ⟨H14, hH14⟩ : ∃ H14, H14 = upd (upd H12 z3 (.lst (lsl.map V.str))) z4 (.lst (mls.map V.str ++ [.str X] ++ lsl.map V.str)) := ⟨_, rfl⟩
      rw [← hH14] at t14 hz4 ⊢
      have s714 := s712.trans t14
      have TI14 := TI7.same s714
      have eca : cutV (as.map V.ref) (some ((c : Nat) : Int)) (some (((c + n : Nat)) : Int)) = (subT t c).ats.map V.ref := by
        rw [cut_midA (by rw [List.length_map, TI.len]; omega), ← List.map_drop, ← List.map_take, SL.ads]
      refine ⟨_, rfl, _, rfl, _, rfl, _, rfl, _, rfl, _, rfl, m, _, rfl, SqL.of TI14.mds, fun e1 ne1 => ?_⟩
      rw [eca]
      have t15 := same_upd (o := .lst ((subT t c).ats.map V.ref)) ne1
      refine ⟨be, e1, _, _, rfl, rfl, t15 _ _ (s714 _ _ hbe7), upd_same, szM (by rw [List.length_map, SL.ln]; omega), fun e2 ne2 => ?_⟩
      have t16 := t15.trans (same_upd (o := .lst (bes ++ (subT t c).ats.map V.ref)) ne2)
      have s716 := s714.trans t16
      refine ⟨s7.trans s716, o2, z4, e2, _, _, _, _, rfl, ((u7.trans s714).trans t15).free ne2, S.next (ls := lsl) (as := (subT t c).ats) s716 hou (((t12.trans t14).trans t16) _ _ ho2) ?_ ?_ ?_ ?_ ?_⟩
      · rw [efj]
        exact Paired.mapP pv fun _ _ x => x.tups fun b xs e => (t10.trans ((t12.trans t14).trans t16)) b _ e
      · rw [efj, ← hmls]
        exact t16 _ _ hz4
      · rw [efj, hlsl]
        exact SL.lab _
      · rw [← hbes]
        exact upd_same
      · rw [efj]
    · rintro σ H7 ⟨s7, o, mk, be, y10, y21, y22, y23, rfl, nbe0, S⟩
      have S : SideAt al [(0, d0), (1, dl)] [("" : Str), x0] [.non, .ref f1] f 3 H7 o mk be := S
      have u7 := u9C.trans s7
      have TI7 := TI9.same u7
      obtain ⟨ous, hou, prs⟩ := S.ro
      have hmk7 := S.ma
      have hbe7 := S.be
      rw [flat3] at prs hmk7 hbe7
      have fa : f 0 = (x1, subT t a) := by rw [hf]; rfl
      have fb : f 1 = (x2, subT t b) := by rw [hf]; rfl
      have fc : f 2 = (x3, subT t a) := by rw [hf]; rfl
      rw [fa, fb, fc] at prs hmk7 hbe7
      dsimp only at prs hmk7 hbe7
      obtain ⟨ks, hks⟩ : ∃ ks : List Tr, ks = [.mk f1 dl [], subT t a, subT t b, subT t a] := ⟨_, rfl⟩
      have efl : Fl (.mk (0 : Addr) d0 ks) 0 = [(0, d0), (1, dl)] ++ (Fl (subT t a) 1 ++ (Fl (subT t b) 1 ++ (Fl (subT t a) 1 ++ []))) := by
        rw [hks]
        show (0, d0) :: rwsL (0 + 1) _ = _
        rw [rwsL_cons, rwsL_cons, rwsL_cons, rwsL_cons]
        rfl
      have prs : Paired (RwAt H7) ous (Fl (.mk (0 : Addr) d0 ks) 0) := by rw [efl]; exact prs
      have lf0 : leafB d0 = false := by
        cases hb : leafB d0 with
        | false => rfl
        | true => exact (leaf_not (t := al.length) (by rw [hd0]) hb).elim
      have fks : FOks ks := by
        rw [hks]
        exact ⟨⟨fun z => (by rw [hleaf] at z; cases z), fun _ => ⟨rfl, w0⟩, True.intro⟩, TI.subFok fok la, TI.subFok fok lb2, TI.subFok fok la, True.intro⟩
      have l3 : (Fl (.mk (0 : Addr) d0 ks) 0).length ≤ 332 := by
        rw [efl]
        simp only [List.length_append, Fl_ats]
        have := TI.subLe la
        have := TI.subLe lb2
        show 2 + (_ + (_ + (_ + 0))) ≤ 332
        omega
      refine ⟨_, rfl, o, ous, _, rfl, hou, prs, top_alone fks lf0, by omega, fun F us' rs' H8 hF pr' fe ⟨ws, fo⟩ nF s8 => ?_⟩
      obtain ⟨d1, fd, h1⟩ := fit_top fks lf0 fe fo
      have hF0 := (h1 0).1
      have s78 := u7.trans s8
      have TI8 := TI9.same s78
      have hbe8 := s8 _ _ hbe7
      have hma : (as.map V.ref)[a]? = some (.ref (subT t a).at) := by
        obtain ⟨_, _, _, _, h⟩ := TI.subAt la
        rw [List.getElem?_map, h]
        rfl
      have hmb : (as.map V.ref)[b]? = some (.ref (subT t b).at) := by
        obtain ⟨_, _, _, _, h⟩ := TI.subAt lb2
        rw [List.getElem?_map, h]
        rfl
      refine ⟨_, rfl, be, _, 1, .ref f1, rfl, rfl, SqL.of hbe8, atI_nat (j := 1) (List.getElem?_append_left (by show 1 < 2; decide)), ?_⟩
      refine ⟨_, rfl, _, rfl, m, _, _, .ref (subT t a).at, rfl, rfl, SqL.of TI8.mds, atI_nat hma, ?_⟩
      refine ⟨_, rfl, _, rfl, m, _, _, .ref (subT t b).at, rfl, rfl, SqL.of TI8.mds, atI_nat hmb, ?_⟩
      refine ⟨_, rfl, _, rfl, m, _, _, .ref (subT t a).at, rfl, rfl, SqL.of TI8.mds, atI_nat hma, by show 4 ≤ sizeLine; decide, fun bt nbt => ?_⟩
      have hr0 : rs'[0]? = some ((0, d1) : Rw) := by
        rw [← hF0]
        rfl
      obtain ⟨v0, hv0, gF, rfl, hgF⟩ := paired_get pr' hr0
      have xx := same_upd (o := .tup [.ref f1, .ref (subT t a).at, .ref (subT t b).at, .ref (subT t a).at]) nbt
      have hbt : (upd H8 bt (.tup [.ref f1, .ref (subT t a).at, .ref (subT t b).at, .ref (subT t a).at])) bt = some (.tup [.ref f1, .ref (subT t a).at, .ref (subT t b).at, .ref (subT t a).at]) := upd_same
      obtain ⟨H9, hH9⟩ : ∃ H9, H9 = upd H8 bt (.tup [.ref f1, .ref (subT t a).at, .ref (subT t b).at, .ref (subT t a).at]) := ⟨_, rfl⟩
      rw [← hH9] at xx hbt ⊢
      refine ⟨_, rfl, _, rfl, _, rfl, F, _, 0, .ref gF, rfl, rfl, SqL.of (xx _ _ hF), atI_nat (j := 0) hv0, gF, _, 4, .int d1.lead, rfl, rfl, SqT.of (xx _ _ hgF), rfl, ?_⟩
      refine ⟨_, rfl, F, _, 0, .ref gF, rfl, rfl, SqL.of (xx _ _ hF), atI_nat (j := 0) hv0, gF, _, 5, .int d1.wid, rfl, rfl, SqT.of (xx _ _ hgF), rfl, _, rfl, _, rfl, rfl, rfl, fun tp dx ntp ndx hne => ?_⟩
      have sv1 : Same H9 (upd (upd H9 dx (.own tp)) tp (.ins T.C_Node dx [])) := (same_upd ndx).trans (same_upd (by rw [upd_ne hne.symm]; exact ntp))
      have ed1 : d1 = ⟨n0, n0, 3, d1.lead, d1.wid, 9, ((al.length : Nat) : Int), 0⟩ := by
        obtain ⟨_, x, y, rfl⟩ := fd
        rw [hd0]
        rfl
      obtain ⟨dN, hdN⟩ : ∃ dN : Nd, dN = ⟨n0, n0, 3, d1.lead, d1.wid, 9, ((al.length : Nat) : Int), 0⟩ := ⟨_, rfl⟩
      have sw1 : Same H9 (upd (upd (upd H9 dx (.own tp)) tp (.ins T.C_Node dx [])) tp (.ins T.C_Node dx (nfl dN bt))) := by
        rw [upd_upd]
        exact (same_upd ndx).trans (same_upd (by rw [upd_ne hne.symm]; exact ntp))
      refine ⟨tp, dx, bt, dN, [.ref f1, .ref (subT t a).at, .ref (subT t b).at, .ref (subT t a).at], upd_same, by rw [hdN]; rfl, .inl ⟨SqT.of (sv1 _ _ hbt), rfl, ?_⟩⟩
      have htp : (upd (upd (upd H9 dx (.own tp)) tp (.ins T.C_Node dx [])) tp (.ins T.C_Node dx (nfl dN bt))) tp = some (.ins T.C_Node dx (nfl dN bt)) := upd_same
      rw [hdN, ← ed1] at sw1 htp ⊢
      obtain ⟨HA, hHA⟩ : ∃ HA, HA = upd (upd (upd H9 dx (.own tp)) tp (.ins T.C_Node dx [])) tp (.ins T.C_Node dx (nfl d1 bt)) := ⟨_, rfl⟩
      rw [← hHA] at sw1 htp ⊢
      have s8A := xx.trans sw1
      have sA := s78.trans s8A
      have hbeA := (s8.trans s8A) _ _ hbe7
      refine ⟨_, rfl, be, _, _, 0, rfl, rfl, hbeA, ixN_zero (Nat.succ_pos _), ?_⟩
      obtain ⟨bes, hbes⟩ : ∃ bes : List V, bes = ([V.non, V.ref f1] ++ List.map V.ref ((subT t a).ats ++ ((subT t b).ats ++ ((subT t a).ats ++ [])))).set 0 (V.ref tp) := ⟨_, rfl⟩
      rw [← hbes]
      have eb : bes = (tp :: atsL ks).map V.ref := by
        rw [hbes, hks]
        rfl
      have sB := same_mut (o := .lst bes) sA nbe0
      have hmkA := (s8.trans s8A) _ _ hmk7
      have hFA := s8A _ _ hF
      have nmk : mk ≠ be := fun z => by
        rw [z, hbeA] at hmkA
        injection hmkA with z
        injection z with z
        injection z with z _
        cases z
      have nFb : F ≠ be := ne_of_none (hbe7) nF |>.symm
      have hbeB : (upd HA be (.lst bes)) be = some (.lst bes) := upd_same
      have hFB : (upd HA be (.lst bes)) F = some (.lst us') := by rw [upd_ne nFb]; exact hFA
      have hwn : (al ++ [wy])[al.length]? = some wy := by
        rw [List.getElem?_append_right (Nat.le_refl _), Nat.sub_self]
        rfl
      have el : labsT (al ++ [wy]) (.mk tp d1 ks) "" = [("" : Str), x0] ++ (labsT al (subT t a) x1 ++ (labsT al (subT t b) x2 ++ (labsT al (subT t a) x3 ++ []))) := by
        show ("" : Str) :: labsTs (al ++ [wy]) ks (labsOf (al ++ [wy]) d1 ks.length) = _
        rw [labsOf_at hwn (by rw [ed1]), hks, ewl, labsTs_cons, labsTs_cons, labsTs_cons, labsTs_cons, labsT_more (TI.subAlt aok la), labsT_more (TI.subAlt aok lb2), labsT_more (TI.subAlt aok la)]
        rfl
      rw [← el] at hmkA
      have hmkB : (upd HA be (.lst bes)) mk = some (.lst ((labsT (al ++ [wy]) (.mk tp d1 ks) "").map V.str)) := by rw [upd_ne nmk]; exact hmkA
      have tAB := tups_lst (o := .lst bes) hbeA
      have keepB := Keeps.of (K := K) (C := T.C_Node) sB
      have keepC1 := Keeps.of (K := K) (C := T.C_Node) (s7.trans (s8.trans s8A))
      have keepC2 := Keeps.but (K := K) (C := T.C_Node) hbeA (But.set (o := .lst bes))
      have htpB : (upd HA be (.lst bes)) tp = some (.ins T.C_Node dx (nfl d1 bt)) := by
        rw [upd_ne (fun z => by rw [z, hbeA] at htp; cases htp)]
        exact htp
      have hbtB := tAB _ _ (sw1 _ _ hbt)
      have nodB : NodeAt K T.C_Node (upd HA be (.lst bes)) (.mk tp d1 ks) := by
        rw [hks]
        have na := (TI9.subNode la).keep keepB
        exact ⟨⟨dx, bt, htpB, SqT.of hbtB⟩, (nt1C.keep keepC1).keep keepC2, na, (TI9.subNode lb2).keep keepB, na, True.intro⟩
      obtain ⟨h11, h12⟩ := h1 tp
      have ln2 : (tp :: atsL ks).length = rs'.length := by
        rw [← h11, Fl_ats]
        rfl
      have TIo : TreeIn K T.C_Node (upd HA be (.lst bes)) F be us' rs' (tp :: atsL ks) (.mk tp d1 ks) := by
        refine ⟨⟨hFB, Paired.mapP pr' fun _ _ x => (x.tups fun b xs e => s8A b _ e).tups tAB⟩, by rw [hbeB, eb], ln2, ?_, nodB, h12, by rw [← paired_len fe]; omega⟩
        rw [← h11]
        exact rasOf_self (.mk tp d1 ks) 0
      have aok2 : AltOk (al ++ [wy]) (.mk tp d1 ks) := by
        refine ⟨fun z => ⟨wy, ?_, ?_⟩, ?_⟩
        · rw [ed1]
          exact hwn
        · rw [hks, ewl]
          rfl
        · rw [hks]
          exact ⟨⟨fun z => (by rw [alt9] at z; exact absurd z (by decide)), True.intro⟩, AltOk.more (TI.subAlt aok la), AltOk.more (TI.subAlt aok lb2), AltOk.more (TI.subAlt aok la), True.intro⟩
      have b9B := B9.trans (.of sB)
      have R9B := R9.same sB
      refine ⟨_, rfl, _, rfl, _, rfl, _, rfl, _, rfl, by show 1 ≤ sizeLine; decide, fun zl nzl => ?_⟩
      have sz := same_upd (o := .lst [.int 0]) nzl
      refine ⟨W, vl, F, mk, be, zl, g2, us', rs', tp :: atsL ks, .mk tp d1 ks, al ++ [wy], hid, labsT (al ++ [wy]) (.mk tp d1 ks) "", [0], rfl, (GI9.same sB).same sz, TIo.same sz, aok2, LabOk.of (al ++ [wy]) _ "", sz _ _ hmkB, sz _ _ (b9B _ _ nvl hvl), upd_same, fun k hk => ?_, fun H' s' => ?_⟩
      · rw [List.mem_singleton.mp hk, ← ln2]
        exact Nat.succ_pos _
      · exact q H' (b9B.trans (.of (sz.trans s'))) (R9B.same (sz.trans s'))

/-! ### the law: what its two forms have in common -/
theorem GrownX.out {al : List Way} {start : Str} {skip lim : Nat} {H : Hp} {G r : Addr} (h : GrownX al start skip lim H G) (hR : ReelAt H r) : ∃ R L us rows labs pt, H G = some (.lst [.ref R, .ref L]) ∧ H R = some (.lst us) ∧ Paired (RwAt H) us rows ∧ H L = some (.lst (labs.map V.str)) ∧ GT al pt ∧ Fl pt 0 = rows ∧ labsT al pt "" = labs ∧ rows.length ≤ lim ∧ 2 * skip + 1 ≤ rows.length ∧
    R ≠ r ∧ L ≠ r ∧ (∃ x, rows[skip]? = some x ∧ x.2.sym = start ∧ 0 ≤ x.2.st) ∧ (skip ≤ 1 → ∀ x, rows[0]? = some x → (x.2.kind = ("root" : Str) ↔ skip = 1)) := by
  obtain ⟨R, L, us, rows, labs, pt, h1, h2, h3, h4, h5, h6, h7, h8, h9, ⟨x, hx, hf⟩, hk⟩ := h.ex
  have r0 : 0 < rows.length := by omega
  obtain ⟨x0, hx0⟩ : ∃ x, rows[0]? = some x := ⟨_, List.getElem?_eq_getElem r0⟩
  have llb : labs.length = rows.length := by
    rw [← h7, ← h6, labsT_len]
    unfold Fl
    rw [List.length_map, ras_len]
  have nRr : R ≠ r := by
    obtain ⟨v, hv, g, rfl, _⟩ := paired_get h3 hx0
    exact not_reel hR h2 hv fun i z => by cases z
  have nLr : L ≠ r := by
    obtain ⟨l, hl⟩ : ∃ l, labs[0]? = some l := ⟨_, List.getElem?_eq_getElem (by omega)⟩
    exact not_reel hR h4 (v := .str l) (by rw [List.getElem?_map, hl]; rfl) fun i z => by cases z
  refine ⟨R, L, us, rows, labs, pt, h1, h2, h3, h4, h5, h6, h7, h8, h9, nRr, nLr, ⟨x, hx, hf.1, hf.2.1⟩, fun s1 y hy => ⟨fun e => ?_, fun e => ?_⟩⟩
  · by_cases c : skip = 1
    · exact c
    · exfalso
      have c0 : skip = 0 := by omega
      rw [c0] at hx
      rw [hx] at hy
      injection hy with hy
      exact hf.2.2 (by rw [hy]; exact e)
  · obtain ⟨z, hz, kz⟩ := hk e
    rw [hz] at hy
    injection hy with hy
    rw [← hy]
    exact kz
structure LawIn (f : Int) (r nl sl wl G ak : Addr) (ns ss : List Str) (al : List Way) (skip : Nat) (H : Hp) : Prop where
  names : H nl = some (.lst (ns.map V.str))
  sorts : H sl = some (.lst (ss.map V.str))
  ways : ∃ wus, H wl = some (.lst wus) ∧ Paired (WayAt H) wus al
  n0 : ∃ n0 : Str, ns[0]? = some n0
  s0 : ∃ s0 : Str, ss[0]? = some s0 ∧ s0 ≠ "error" ∧ s0 ≠ "root"
  lns : ns.length ≤ 10
  lss : ss.length ≤ 4
  lal0 : 0 < al.length
  lal : al.length ≤ 30
  sh : ShortW al
  nnl : nl ≠ r
  nsl : sl ≠ r
  nwl : wl ≠ r
  nG : G ≠ r
  nak : ak ≠ r
  ex : ∃ R L us rows labs pt asks, H G = some (.lst [.ref R, .ref L]) ∧ H R = some (.lst us) ∧ Paired (RwAt H) us rows ∧ H L = some (.lst (labs.map V.str)) ∧ GT al pt ∧ Fl pt 0 = rows ∧ labsT al pt "" = labs ∧ rows.length ≤ 2210 ∧ 0 < rows.length ∧ R ≠ r ∧ L ≠ r ∧
    H ak = some (.lst ((natsZ asks).map V.int)) ∧ (∀ k ∈ asks, k < rows.length) ∧ (0 < f → rows.length ≤ 110 ∧ skip ≤ 1 ∧ 2 * skip + 1 ≤ rows.length ∧ (∃ x, rows[skip]? = some x ∧ x.2.sym ∈ ns ∧ 0 ≤ x.2.st) ∧ ∀ x, rows[0]? = some x → (x.2.kind = ("root" : Str) ↔ skip = 1))
def spLaw (K : PySem.W.Frag) : Sp := fun vs H Q _ => ∃ (scr : Addr) (row : List Int), vs = [.ref scr] ∧ SqL K H scr (row.map V.int) ∧ row.length ≤ 63 ∧ ∀ H', Q (.bl true) H'
def marks6 : List Str := ["", "1", "_b", "~2", "x", "yy"]
def sorts4 : List Str := ["\"+\"", "k", "k0", "mm"]
theorem names_ok : ∀ c ∈ cs "abcdefghij", ∀ m ∈ marks6, (sg c ++ m) ≠ "error" ∧ (sg c ++ m) ≠ "root" ∧ (sg c ++ m) ≠ "" ∧ (sg c ++ m).length ≤ 100 ∧ (sg c ++ m) ∉ sorts4 := by decide +kernel
theorem sorts_ok : ∀ x ∈ sorts4, x ≠ "error" ∧ x ≠ "root" ∧ x ≠ "" ∧ x.length ≤ 100 ∧ x ≠ "h" := by decide +kernel
theorem marks_len : ∀ m ∈ marks6, m.length ≤ 10 := by decide +kernel
theorem fit_levs : ∀ {xs ys : List Rw}, Paired FitE xs ys → ys.map Prod.fst = xs.map Prod.fst
  | _, _, .nil => rfl
  | _, _, .cons a b => by rw [List.map_cons, List.map_cons, fit_levs b, a.1]
theorem paired_mem_l {α β : Type} {F : α → β → Prop} {x : α} : ∀ {xs : List α} {ys : List β}, Paired F xs ys → x ∈ xs → ∃ y, y ∈ ys ∧ F x y
  | _, _, .nil, h => absurd h List.not_mem_nil
  | _, _, .cons a b, h => by
    rcases List.mem_cons.mp h with rfl | h
    · exact ⟨_, List.mem_cons_self, a⟩
    · obtain ⟨y, h1, h2⟩ := paired_mem_l b h
      exact ⟨y, List.mem_cons_of_mem _ h1, h2⟩
theorem fitE_kind {x y : Rw} (h : FitE x y) : y.2.kind = x.2.kind := by
  obtain ⟨_, _, a, b, e⟩ := h
  rw [e]
  rfl
theorem fitE_sym {x y : Rw} (h : FitE x y) : y.2.sym = x.2.sym := by
  obtain ⟨_, _, a, b, e⟩ := h
  rw [e]
  rfl
theorem fitE_st {x y : Rw} (h : FitE x y) : y.2.st = x.2.st := by
  obtain ⟨_, _, a, b, e⟩ := h
  rw [e]
  rfl
theorem fit_get : ∀ {xs ys : List Rw} {k : Nat} {y : Rw}, Paired FitE xs ys → ys[k]? = some y → ∃ x, xs[k]? = some x ∧ FitE x y
  | _, _, _, _, .nil, h => by cases h
  | _, _, 0, _, .cons a b, h => by
    cases h
    exact ⟨_, rfl, a⟩
  | _, _, k + 1, _, .cons a b, h => fit_get (k := k) b h
theorem fit_got : ∀ {xs ys : List Rw} {k : Nat} {x : Rw}, Paired FitE xs ys → xs[k]? = some x → ∃ y, ys[k]? = some y ∧ FitE x y
  | _, _, _, _, .nil, h => by cases h
  | _, _, 0, _, .cons a b, h => by
    cases h
    exact ⟨_, rfl, a⟩
  | _, _, k + 1, _, .cons a b, h => fit_got (k := k) b h
theorem cutV_takeA {us : List V} {n : Nat} : cutV us none (some ((n : Nat) : Int)) = us.take n := by
  by_cases h : n ≤ us.length
  · exact cut_to h
  · unfold cutV
    rw [HT.sIx_nat, Nat.min_eq_right (by omega)]
    show (us.drop 0).take (us.length - 0) = _
    rw [List.drop_zero, Nat.sub_zero, List.take_length, List.take_of_length_le (by omega)]
theorem deep_ways {w0 : Way} {wys : List Way} {sort : Str} (e3 : w0.lb.length = 1) (e4 : ∀ l ∈ w0.lb, l.length ≤ 100) (ps : Paired (fun (w : Way) (x : List Str) => w.sy = x ∧ w.lb.length = x.length ∧ ∀ l ∈ w.lb, l.length ≤ 100) wys [[], [("h" : Str), sort], [("h" : Str), sort], [sort, ("h" : Str)], [sort, ("h" : Str)]]) :
    DeepW (w0 :: wys) sort ∧ ShortW (w0 :: wys) := by
  have two : ∀ {l : List Str}, l.length = 2 → ∃ a b, l = [a, b] := fun {l} h => by
    match l, h with
    | [a, b], _ => exact ⟨a, b, rfl⟩
  cases ps with
  | @cons w1 _ _ _ p1 ps =>
    cases ps with
    | @cons w2 _ _ _ p2 ps =>
      cases ps with
      | @cons w3 _ _ _ p3 ps =>
        cases ps with
        | @cons w4 _ _ _ p4 ps =>
          cases ps with
          | @cons w5 _ _ _ p5 ps =>
            cases ps with
            | nil =>
              refine ⟨⟨?_, ?_, ?_⟩, ?_⟩
              · obtain ⟨l, hl⟩ := List.length_eq_one_iff.mp e3
                exact ⟨w0, l, rfl, hl⟩
              · exact ⟨w1, rfl, List.length_eq_zero_iff.mp p1.2.1⟩
              · intro t h2 h6
                have : t = 2 ∨ t = 3 ∨ t = 4 ∨ t = 5 := by omega
                rcases this with rfl | rfl | rfl | rfl
                · obtain ⟨a, b, e⟩ := two p2.2.1
                  exact ⟨w2, a, b, rfl, e, .inl p2.1⟩
                · obtain ⟨a, b, e⟩ := two p3.2.1
                  exact ⟨w3, a, b, rfl, e, .inl p3.1⟩
                · obtain ⟨a, b, e⟩ := two p4.2.1
                  exact ⟨w4, a, b, rfl, e, .inr p4.1⟩
                · obtain ⟨a, b, e⟩ := two p5.2.1
                  exact ⟨w5, a, b, rfl, e, .inr p5.1⟩
              · intro w hw
                rcases List.mem_cons.mp hw with rfl | hw
                · exact e4
                rcases List.mem_cons.mp hw with rfl | hw
                · exact p1.2.2
                rcases List.mem_cons.mp hw with rfl | hw
                · exact p2.2.2
                rcases List.mem_cons.mp hw with rfl | hw
                · exact p3.2.2
                rcases List.mem_cons.mp hw with rfl | hw
                · exact p4.2.2
                rw [List.mem_singleton.mp hw]
                exact p5.2.2
theorem te_any {t : L2.TE} {σ : L2.St} {H : Hp} {Q : VK} (R : V → Hp → Prop) (h1 : ∀ Q' : VK, (∀ x H', R x H' → Q' x H') → t σ H Q') (h2 : ∀ x H', R x H' → Q x H') : t σ H Q := h1 Q h2

theorem ok_law (T : Txt K mg) : FnOk P w K mg base CX0 11 T.a_law T.fd_law ["script"] (spLaw K) := by
  have G_law_reel : FnOk P w K mg base CX0 1 T.a_law_reel T.fd_law_reel ["script"] (spReel K) := ok_reel T
  have G_law_draw : FnOk P w K mg base CX0 1 T.a_law_draw T.fd_law_draw ["reel", "size"] spDraw := ok_draw T
  have G_law_pick : FnOk P w K mg base CX0 2 T.a_law_pick T.fd_law_pick ["reel", "row"] (spPick K) := ok_pick T
  have G_law_way : FnOk P w K mg base CX0 4 T.a_law_way T.fd_law_way ["reel", "name", "row"] spWay := ok_way T
  have G_law_ways : FnOk P w K mg base CX0 5 T.a_law_ways T.fd_law_ways ["reel", "names", "sorts"] spWays := ok_ways T
  have G_law_deep : FnOk P w K mg base CX0 2 T.a_law_deep T.fd_law_deep ["reel", "ways", "sort", "deep"] spDeep := ok_deep T
  have G_law_grown : FnOk P w K mg base CX0 4 T.a_law_grown T.fd_law_grown ["reel", "names", "sorts", "ways", "start", "depth"] spGrown := ok_grown T
  have G_law_rooted : FnOk P w K mg base CX0 2 T.a_law_rooted T.fd_law_rooted ["reel", "grown"] (fun vs H Q E => ∃ al start, spRooted al start vs H Q E) := ⟨fun vs H Q E ⟨b, L, h⟩ => (ok_rooted (P := P) (w := w) (base := base) T b L).len vs H Q E h, fun A outer s H args us vs Q E r e b r2 ⟨b', L, h⟩ => (ok_rooted T b' L).run A outer s H args us vs Q E r e b r2 h⟩
  have G_law_fitted : FnOk P w K mg base CX0 2 T.a_law_fitted T.fd_law_fitted ["rows"] spFitted := ok_fitted T
  have G_law_made : FnOk P w K mg base CX0 3 T.a_law_made T.fd_law_made ["rows"] (spMade K T.C_Node) := ok_made T
  have G_Grammar_init : FnOk P w K mg base CX0 1 T.a_Grammar_init T.fd_Grammar_init psG (spGInit K T.C_Grammar) := ok_Grammar_init T
  have G_law_agrees : FnOk P w K mg base CX0 3 T.a_law_agrees T.fd_law_agrees ["grammar", "veiled", "rows", "labels", "made", "asked"] (spAgrees K T.C_Node T.C_Grammar) := ok_agrees T
  have G_law_twice_holds : FnOk P w K mg base CX0 4 T.a_law_twice_holds T.fd_law_twice_holds ["reel", "grammar", "name", "veiled", "rows", "labels", "made"] (fun vs H Q E => ∃ al, spTwiceS K T.C_Node T.C_Grammar al vs H Q E) := ⟨fun vs H Q E ⟨b, h⟩ => (ok_twice_holds (P := P) (w := w) (base := base) T b).len vs H Q E h, fun A outer s H args us vs Q E r e b r2 ⟨b', h⟩ => (ok_twice_holds T b').run A outer s H args us vs Q E r e b r2 h⟩
  have G_law_labelled_holds : FnOk P w K mg base CX0 5 T.a_law_labelled_holds T.fd_law_labelled_holds ["reel", "grammar", "veiled", "rows", "labels", "made"] (fun vs H Q E => ∃ al ss ns, spLabS K T.C_Node T.C_Grammar al ss ns vs H Q E) := ⟨fun vs H Q E ⟨b, c, d, h⟩ => (ok_labelled (P := P) (w := w) (base := base) T b c d).len vs H Q E h, fun A outer s H args us vs Q E r e b r2 ⟨b', c, d, h⟩ => (ok_labelled T b' c d).run A outer s H args us vs Q E r e b r2 h⟩
  refine T.F_law.ok sc_law (fun vs H Q E h => ?_) (fun cdv A outer s H vs Q E hr h => ?_)
  · obtain ⟨scr, row, rfl, _⟩ := h
    rfl
  · have hr_law_reel : Room 1 _ := hr.mono (by decide)
    have hr_law_draw : Room 1 _ := hr.mono (by decide)
    have hr_law_pick : Room 2 _ := hr.mono (by decide)
    have hr_law_way : Room 4 _ := hr.mono (by decide)
    have hr_law_ways : Room 5 _ := hr.mono (by decide)
    have hr_law_deep : Room 2 _ := hr.mono (by decide)
    have hr_law_grown : Room 4 _ := hr.mono (by decide)
    have hr_law_rooted : Room 2 _ := hr.mono (by decide)
    have hr_law_fitted : Room 2 _ := hr.mono (by decide)
    have hr_law_made : Room 3 _ := hr.mono (by decide)
    have hr_Grammar_init : Room 2 _ := hr.mono (by decide)
    have hr_law_agrees : Room 3 _ := hr.mono (by decide)
    have hr_law_twice_holds : Room 4 _ := hr.mono (by decide)
    have hr_law_labelled_holds : Room 5 _ := hr.mono (by decide)
    obtain ⟨scr, row, rfl, hscr, lrow, q⟩ := h
    refine ⟨_, (pss_cons (ps_set (i := 1) sc_law.nd rfl (.inr rfl) (pe_call G_law_reel hr_law_reel (by rfl) T.g_law_reel T.F_law_reel.kp T.b_law_reel .nil pass0 (pa_cons (pv 0) pa_nil)))
      (pss_cons (ps_set (i := 2) sc_law.nd rfl (.inr rfl) (pe_call G_law_draw hr_law_draw (by rfl) T.g_law_draw T.F_law_draw.kp T.b_law_draw .nil pass0 (pa_cons (pv 1) (pa_cons pe_int pa_nil))))
      (pss_cons (ps_set (i := 3) sc_law.nd rfl (.inr rfl) (pe_call G_law_pick hr_law_pick (by rfl) T.g_law_pick T.F_law_pick.kp T.b_law_pick .nil pass0 (pa_cons (pv 1) (pa_cons pe_str pa_nil))))
      (pss_cons (ps_setLc (i := 4) (own := [("mark", 5)]) (g := gName 5) (by rfl) sc_law.nd rfl rfl (sw_true rfl rfl rfl (by decide +kernel)) (pi_list (pe_slice sl_list (pe_lst (pa_cons pe_str (pa_cons pe_str (pa_cons pe_str (pa_cons pe_str (pa_cons pe_str (pa_cons pe_str pa_nil))))))) po_none (po_some (pe_op op_add pe_int (pe_call G_law_draw hr_law_draw (by rfl) T.g_law_draw T.F_law_draw.kp T.b_law_draw .nil pass0 (pa_cons (pv 1) (pa_cons pe_int pa_nil))))))) (blkOk_by (own := [("mark", 5)]) (N := ["script", "reel", "form", "stem", "names", "mark", "sorts", "sort", "ways", "row", "grown", "asked", "way", "rooted", "k", "rows", "made", "pairs", "veiled", "name", "others", "first", "second"]) (sc := defScope s_law) (by decide +kernel)) (fun _ _ _ _ _ => pg_name (i := 5) sc_law.nd rfl (Or.inl rfl)) (fun _ _ _ _ _ => pts_nil) (fun _ _ _ _ _ => (pe_op op_add_str (pv 3) (pv 5))))
      (pss_cons (ps_set (i := 6) sc_law.nd rfl (.inr rfl) (pe_slice sl_list (pe_lst (pa_cons pe_str (pa_cons pe_str (pa_cons pe_str (pa_cons pe_str pa_nil))))) po_none (po_some (pe_op op_add pe_int (pe_call G_law_draw hr_law_draw (by rfl) T.g_law_draw T.F_law_draw.kp T.b_law_draw .nil pass0 (pa_cons (pv 1) (pa_cons pe_int pa_nil)))))))
      (C8.pss_cut (ps_if (pt_cmpR op_eq (pv 2) pe_int (nomark _)) (pss_cons (ps_set (i := 4) sc_law.nd rfl (.inl rfl) (pe_lst (pa_cons pe_str (pa_cons pe_str pa_nil))))
      (pss_cons (ps_set (i := 7) sc_law.nd rfl (.inl rfl) (pe_call G_law_pick hr_law_pick (by rfl) T.g_law_pick T.F_law_pick.kp T.b_law_pick .nil pass0 (pa_cons (pv 1) (pa_cons (pv 6) pa_nil))))
      (pss_cons (ps_set (i := 8) sc_law.nd rfl (.inl rfl) (pe_lst (pa_cons (pe_call G_law_way hr_law_way (by rfl) T.g_law_way T.F_law_way.kp T.b_law_way .nil pass0 (pa_cons (pv 1) (pa_cons pe_str (pa_cons (pe_lst (pa_cons pe_str pa_nil)) pa_nil)))) pa_nil)))
      (pss_cons (ps_set (i := 8) sc_law.nd rfl (.inl rfl) (pe_op op_cat (pv 8) (pe_lc (own := [("row", 9)]) (g := gName 9) (by rfl) sc_law.nd (pi_list (pe_lst (pa_cons (pe_lst pa_nil) (pa_cons (pe_lst (pa_cons pe_str (pa_cons (pv 7) pa_nil))) (pa_cons (pe_lst (pa_cons pe_str (pa_cons (pv 7) pa_nil))) (pa_cons (pe_lst (pa_cons (pv 7) (pa_cons pe_str pa_nil))) (pa_cons (pe_lst (pa_cons (pv 7) (pa_cons pe_str pa_nil))) pa_nil))))))) (blkOk_by (own := [("row", 9)]) (N := ["script", "reel", "form", "stem", "names", "mark", "sorts", "sort", "ways", "row", "grown", "asked", "way", "rooted", "k", "rows", "made", "pairs", "veiled", "name", "others", "first", "second"]) (sc := defScope s_law) (by decide +kernel)) (fun _ _ _ _ _ => pg_name (i := 9) sc_law.nd rfl (Or.inl rfl)) (fun _ _ _ _ _ => pts_nil) (fun _ _ _ _ _ => (pe_call G_law_way hr_law_way (by rfl) T.g_law_way T.F_law_way.kp T.b_law_way .nil pass0 (pa_cons (pv 1) (pa_cons pe_str (pa_cons (pv 9) pa_nil))))))))
      (pss_cons (ps_set (i := 10) sc_law.nd rfl (.inl rfl) (pe_call G_law_deep hr_law_deep (by rfl) T.g_law_deep T.F_law_deep.kp T.b_law_deep .nil pass0 (pa_cons (pv 1) (pa_cons (pv 8) (pa_cons (pv 7) (pa_cons (pe_op op_add pe_int (pe_call G_law_draw hr_law_draw (by rfl) T.g_law_draw T.F_law_draw.kp T.b_law_draw .nil pass0 (pa_cons (pv 1) (pa_cons pe_int pa_nil)))) pa_nil))))))
      (pss_one (ps_set (i := 11) sc_law.nd rfl (.inl rfl) (pe_lst (pa_cons pe_int (pa_cons (pe_op op_add pe_int (pe_call G_law_draw hr_law_draw (by rfl) T.g_law_draw T.F_law_draw.kp T.b_law_draw .nil pass0 (pa_cons (pv 1) (pa_cons pe_int pa_nil)))) (pa_cons (pe_op op_sub (pe_callB call_len (by rfl) T.m_len PySem.boot_len (pa_cons (pe_ix ix_list (pv 10) pe_int (fun _ _ => rfl)) pa_nil)) pe_int) pa_nil))))))))))) (pss_cons (ps_set (i := 8) sc_law.nd rfl (.inl rfl) (pe_lst pa_nil))
      (pss_cons (ps_for PassesOwn.never rfl (pi_list (pe_call G_law_ways hr_law_ways (by rfl) T.g_law_ways T.F_law_ways.kp T.b_law_ways .nil pass0 (pa_cons (pv 1) (pa_cons (pv 4) (pa_cons (pv 6) pa_nil))))) (pg_name (i := 12) sc_law.nd rfl (.inl rfl)) (pss_one (ps_expr (pe_bm PySem.F.plainAttrs_list PySem.F.slot_list_insert PySem.F.type_list_insert mt_insert (pv 8) (pa_cons (pe_call G_law_draw hr_law_draw (by rfl) T.g_law_draw T.F_law_draw.kp T.b_law_draw .nil pass0 (pa_cons (pv 1) (pa_cons (pe_op op_add (pe_callB call_len_seq (by rfl) T.m_len PySem.boot_len (pa_cons (pv 8) pa_nil)) pe_int) pa_nil))) (pa_cons (pv 12) pa_nil))))))
      (pss_cons (ps_set (i := 13) sc_law.nd rfl (.inl rfl) (pe_call G_law_draw hr_law_draw (by rfl) T.g_law_draw T.F_law_draw.kp T.b_law_draw .nil pass0 (pa_cons (pv 1) (pa_cons pe_int pa_nil))))
      (pss_cons (ps_set (i := 10) sc_law.nd rfl (.inl rfl) (pe_call G_law_grown hr_law_grown (by rfl) T.g_law_grown T.F_law_grown.kp T.b_law_grown .nil pass0 (pa_cons (pv 1) (pa_cons (pv 4) (pa_cons (pv 6) (pa_cons (pv 8) (pa_cons (pe_ifExp (pt_cmpR op_eq (pv 13) pe_int (nomark _)) (pe_ix ix_list (pv 4) pe_int (fun _ _ => rfl)) (pe_call G_law_pick hr_law_pick (by rfl) T.g_law_pick T.F_law_pick.kp T.b_law_pick .nil pass0 (pa_cons (pv 1) (pa_cons (pv 4) pa_nil)))) (pa_cons (pv 13) pa_nil))))))))
      (C8.pss_cut (ps_if (pt_cmpR op_eq (pv 13) pe_int (nomark _)) (pss_one (ps_set (i := 10) sc_law.nd rfl (.inl rfl) (pe_call G_law_rooted hr_law_rooted (by rfl) T.g_law_rooted T.F_law_rooted.kp T.b_law_rooted .nil pass0 (pa_cons (pv 1) (pa_cons (pv 10) pa_nil))))) pss_nil)
      (pss_one (ps_setLc (i := 11) (own := [("k", 14)]) (g := gName 14) (by rfl) sc_law.nd rfl rfl (sw_true rfl rfl rfl (by decide +kernel)) (pi_range1 (by rfl) T.m_range (pa_cons (pe_callB call_len (by rfl) T.m_len PySem.boot_len (pa_cons (pe_ix ix_list (pv 10) pe_int (fun _ _ => rfl)) pa_nil)) pa_nil)) (blkOk_by (own := [("k", 14)]) (N := ["script", "reel", "form", "stem", "names", "mark", "sorts", "sort", "ways", "row", "grown", "asked", "way", "rooted", "k", "rows", "made", "pairs", "veiled", "name", "others", "first", "second"]) (sc := defScope s_law) (by decide +kernel)) (fun _ _ _ _ _ => pg_name (i := 14) sc_law.nd rfl (Or.inl rfl)) (fun _ _ _ _ _ => pts_nil) (fun _ _ _ _ _ => (pv 14))))))))))
      (pss_cons (ps_set (i := 15) sc_law.nd rfl (.inl rfl) (pe_call G_law_fitted hr_law_fitted (by rfl) T.g_law_fitted T.F_law_fitted.kp T.b_law_fitted .nil pass0 (pa_cons (pe_ix ix_list (pv 10) pe_int (fun _ _ => rfl)) pa_nil)))
      (pss_cons (ps_set (i := 16) sc_law.nd rfl (.inl rfl) (pe_call G_law_made hr_law_made (by rfl) T.g_law_made T.F_law_made.kp T.b_law_made .nil pass0 (pa_cons (pv 15) pa_nil)))
      (pss_cons (ps_setLc (i := 17) (own := [("k", 14)]) (g := gName 14) (by rfl) sc_law.nd rfl rfl (sw_true rfl rfl rfl (by decide +kernel)) (pi_range1 (by rfl) T.m_range (pa_cons (pe_callB call_len_seq (by rfl) T.m_len PySem.boot_len (pa_cons (pv 6) pa_nil)) pa_nil)) (blkOk_by (own := [("k", 14)]) (N := ["script", "reel", "form", "stem", "names", "mark", "sorts", "sort", "ways", "row", "grown", "asked", "way", "rooted", "k", "rows", "made", "pairs", "veiled", "name", "others", "first", "second"]) (sc := defScope s_law) (by decide +kernel)) (fun _ _ _ _ _ => pg_name (i := 14) sc_law.nd rfl (Or.inl rfl)) (fun _ _ _ _ _ => pts_nil) (fun _ _ _ _ _ => (pe_tup (pa_cons (pe_ix (ix_listK (K := K) rfl) (pv 6) (pv 14) (fun _ _ => rfl)) (pa_cons (pe_tup (pa_cons pe_str (pa_cons (pe_tup (pa_cons pe_str (pa_cons (pe_ix ix_str pe_str (pv 14) (fun _ _ => rfl)) pa_nil))) (pa_cons pe_int (pa_cons pe_non pa_nil))))) pa_nil)))))
      (pss_cons (ps_set (i := 17) sc_law.nd rfl (.inl rfl) (pe_callTy call_tuple_of (by rfl) T.m_tuple (by decide +kernel) (pa_cons (pe_op op_cat (pe_lst (pa_cons (pe_tup (pa_cons (pe_ix ix_list (pv 6) pe_int (fun _ _ => rfl)) (pa_cons (pe_tup (pa_cons pe_str (pa_cons pe_str pa_nil))) pa_nil))) pa_nil)) (pe_slice sl_list (pv 17) (po_some pe_int) po_none)) pa_nil)))
      (pss_cons (ps_setLc (i := 18) (own := [("name", 19)]) (g := gName 19) (by rfl) sc_law.nd rfl rfl (sw_true rfl rfl rfl (by decide +kernel)) (pi_list (pv 4)) (blkOk_by (own := [("name", 19)]) (N := ["script", "reel", "form", "stem", "names", "mark", "sorts", "sort", "ways", "row", "grown", "asked", "way", "rooted", "k", "rows", "made", "pairs", "veiled", "name", "others", "first", "second"]) (sc := defScope s_law) (by decide +kernel)) (fun _ _ _ _ _ => pg_name (i := 19) sc_law.nd rfl (Or.inl rfl)) (fun _ _ _ _ _ => (pts_one (PW.pt (pw_or (pt_cmpR op_eq (pv 2) pe_int (nomark _)) (pw_or1 (pt_cmpR op_eq (pe_call G_law_draw hr_law_draw (by rfl) T.g_law_draw T.F_law_draw.kp T.b_law_draw .nil pass0 (pa_cons (pv 1) (pa_cons pe_int pa_nil))) pe_int (nomark _))))))) (fun _ _ _ _ _ => (pv 19)))
      (pss_cons (ps_setLc (i := 20) (own := [("name", 19)]) (g := gName 19) (by rfl) sc_law.nd rfl rfl (sw_true rfl rfl rfl (by decide +kernel)) (pi_list (pv 4)) (blkOk_by (own := [("name", 19)]) (N := ["script", "reel", "form", "stem", "names", "mark", "sorts", "sort", "ways", "row", "grown", "asked", "way", "rooted", "k", "rows", "made", "pairs", "veiled", "name", "others", "first", "second"]) (sc := defScope s_law) (by decide +kernel)) (fun _ _ _ _ _ => pg_name (i := 19) sc_law.nd rfl (Or.inl rfl)) (fun _ _ _ _ _ => (pts_one (pt_cmpR op_eq (pe_call G_law_draw hr_law_draw (by rfl) T.g_law_draw T.F_law_draw.kp T.b_law_draw .nil pass0 (pa_cons (pv 1) (pa_cons pe_int pa_nil))) pe_int (nomark _)))) (fun _ _ _ _ _ => (pv 19)))
      (pss_cons (ps_set (i := 4) sc_law.nd rfl (.inl rfl) (pe_callTy call_tuple_of (by rfl) T.m_tuple (by decide +kernel) (pa_cons (pv 4) pa_nil)))
      (pss_cons (ps_set (i := 8) sc_law.nd rfl (.inl rfl) (pe_callTy call_tuple_of (by rfl) T.m_tuple (by decide +kernel) (pa_cons (pv 8) pa_nil)))
      (pss_cons (ps_set (i := 21) sc_law.nd rfl (.inl rfl) (pe_makeK (n := 1) T.MK_Grammar G_Grammar_init hr_Grammar_init (by rfl) T.G_Grammar (kb_Grammar6 T).choose_spec pass0 (pa_cons pe_str pa_nil) (pk_cons (pv 17) (pk_cons (pv 4) (pk_cons (pv 8) (pk_cons pe_str (pk_cons (pe_callTy call_tuple_of (by rfl) T.m_tuple (by decide +kernel) (pa_cons (pv 18) pa_nil)) (pk_cons (pv 4) pk_nil))))))))
      (pss_cons (ps_set (i := 22) sc_law.nd rfl (.inl rfl) (pe_makeK (n := 1) T.MK_Grammar G_Grammar_init hr_Grammar_init (by rfl) T.G_Grammar (kb_Grammar6 T).choose_spec pass0 (pa_cons pe_str pa_nil) (pk_cons (pv 17) (pk_cons (pv 4) (pk_cons (pv 8) (pk_cons pe_str (pk_cons (pe_callTy call_tuple_of (by rfl) T.m_tuple (by decide +kernel) (pa_cons (pv 20) pa_nil)) (pk_cons (pv 4) pk_nil))))))))
      (pss_cons (ps_if (pt_not (pt_val (pe_call G_law_agrees hr_law_agrees (by rfl) T.g_law_agrees T.F_law_agrees.kp T.b_law_agrees .nil pass0 (pa_cons (pv 21) (pa_cons (pv 18) (pa_cons (pv 15) (pa_cons (pe_ix ix_list (pv 10) pe_int (fun _ _ => rfl)) (pa_cons (pv 16) (pa_cons (pv 11) pa_nil))))))))) (pss_one (ps_ret pe_bl)) pss_nil)
      (pss_cons (ps_if (pt_not (pt_val (pe_call G_law_agrees hr_law_agrees (by rfl) T.g_law_agrees T.F_law_agrees.kp T.b_law_agrees .nil pass0 (pa_cons (pv 22) (pa_cons (pv 20) (pa_cons (pv 15) (pa_cons (pe_ix ix_list (pv 10) pe_int (fun _ _ => rfl)) (pa_cons (pv 16) (pa_cons (pv 11) pa_nil))))))))) (pss_one (ps_ret pe_bl)) pss_nil)
      (pss_cons (ps_if (PW.pt (pw_or (pt_cmpR (OwnOp.op_neTS hr.units) (pe_fld (pv 21) rfl) (pe_callTy call_tuple_of (by rfl) T.m_tuple (by decide +kernel) (pa_cons (pv 18) pa_nil)) (nomark _)) (pw_or (pt_cmpR (OwnOp.op_neTS hr.units) (pe_fld (pv 21) rfl) (pv 8) (nomark _)) (pw_or1 (pt_cmpR (OwnOp.op_neTS hr.units) (pe_fld (pv 22) rfl) (pe_callTy call_tuple_of (by rfl) T.m_tuple (by decide +kernel) (pa_cons (pv 20) pa_nil)) (nomark _)))))) (pss_one (ps_ret pe_bl)) pss_nil)
      (C8.pss_cut (ps_if (pt_cmpR op_gt (pv 2) pe_int (nomark _)) (pss_cons (ps_if (pt_not (pt_val (pe_call G_law_twice_holds hr_law_twice_holds (by rfl) T.g_law_twice_holds T.F_law_twice_holds.kp T.b_law_twice_holds .nil pass0 (pa_cons (pv 1) (pa_cons (pv 21) (pa_cons (pe_ix ix_tup (pv 4) pe_int (fun _ _ => rfl)) (pa_cons (pv 18) (pa_cons (pv 15) (pa_cons (pe_ix ix_list (pv 10) pe_int (fun _ _ => rfl)) (pa_cons (pv 16) pa_nil)))))))))) (pss_one (ps_ret pe_bl)) pss_nil)
      (pss_one (ps_if (pt_not (pt_val (pe_call G_law_labelled_holds hr_law_labelled_holds (by rfl) T.g_law_labelled_holds T.F_law_labelled_holds.kp T.b_law_labelled_holds .nil pass0 (pa_cons (pv 1) (pa_cons (pv 21) (pa_cons (pv 18) (pa_cons (pv 15) (pa_cons (pe_ix ix_list (pv 10) pe_int (fun _ _ => rfl)) (pa_cons (pv 16) pa_nil))))))))) (pss_one (ps_ret pe_bl)) pss_nil))) pss_nil)
      (pss_one (ps_ret (pe_call G_law_agrees hr_law_agrees (by rfl) T.g_law_agrees T.F_law_agrees.kp T.b_law_agrees .nil pass0 (pa_cons (pv 21) (pa_cons (pv 18) (pa_cons (pv 15) (pa_cons (pe_ix ix_list (pv 10) pe_int (fun _ _ => rfl)) (pa_cons (pv 16) (pa_cons (pe_slice sl_list (pv 11) po_none (po_some pe_int)) pa_nil))))))))))))))))))))))))))))), ?_⟩
    refine ⟨_, rfl, scr, row, rfl, hscr, fun H1 r s1 nr R1 => ?_⟩
    refine ⟨_, rfl, r, 16, rfl, R1, by decide, fun fv H2 f0 f1 b2 R2 => ?_⟩
    refine ⟨_, rfl, r, _, rfl, R2, .inl ⟨_, rfl, by decide +kernel, by decide +kernel, fun stem H3 hstem b3 R3 => ?_⟩⟩
    refine ⟨by show 6 ≤ sizeLine; decide, fun q1 nq1 => no_part ⟨_, rfl, r, 6, rfl, R3.new nq1, by decide, fun v4 H4 v40 v41 b4 R4 => ⟨_, _, rfl, rfl, _, rfl, q1, marks6.map V.str, rfl, SqL.of (b4 _ _ (R3.ne nq1).symm upd_same), fun pt npt => ?_⟩⟩⟩
    obtain ⟨j1, hj1⟩ : ∃ j : Nat, (1 : Int) + v4 = (j : Int) := ⟨(1 + v4).toNat, by omega⟩
    have ecut : cutV (marks6.map V.str) none (some (1 + v4)) = (marks6.take j1).map V.str := by
      rw [hj1, cut_to (by show j1 ≤ 6; omega), List.map_take]
    rw [ecut]
    obtain ⟨mks, hmks⟩ : ∃ mks, mks = marks6.take j1 := ⟨_, rfl⟩
    rw [← hmks]
    have lmks : mks.length = j1 := by
      rw [hmks, List.length_take]
      show min j1 6 = j1
      omega
    have t5 := same_upd (o := .lst (mks.map V.str)) npt
    have hpt := upd_at (o := .lst (mks.map V.str)) npt
    refine ⟨pt, rfl, ⟨_, SqL.of hpt⟩, fun nl nnl => ?_⟩
    refine lc_list (K := K) (a := pt) (xs := mks.map V.str) (fun i H' => Same _ H' ∧ H' nl = some (.lst (((mks.take i).map fun m => sg stem ++ m).map V.str))) ⟨same_upd nnl, upd_same⟩ (fun i H' _ ⟨s, _⟩ => SqL.of (s _ _ hpt)) ?_ ?_
    · rintro i v H5 hv ⟨s5, hnl⟩
      rw [List.getElem?_map] at hv
      obtain ⟨mk, hmk⟩ : ∃ x, mks[i]? = some x := by
        cases e : mks[i]? with
        | none =>
          rw [e] at hv
          cases hv
        | some x => exact ⟨x, rfl⟩
      rw [hmk] at hv
      obtain rfl : V.str mk = v := Option.some.inj hv
      have mm : mk ∈ marks6 := by
        have := List.mem_of_getElem? hmk
        rw [hmks] at this
        exact List.mem_of_mem_take this
      have lm : mk.length ≤ 10 := marks_len mk mm
      refine ⟨rfl, _, rfl, _, rfl, _, _, rfl, rfl, ?_, _, hnl, sz2 (by rw [List.length_map, List.length_map, List.length_take]; omega), same_mut s5 nnl, ?_⟩
      · rw [sg_one]
        exact Nat.le_trans (show 1 + mk.length ≤ 11 by omega) (by decide)
      · rw [upd_same, takeN hmk, List.map_append, List.map_append]
        rfl
    rintro H5 ⟨s5, hnl⟩
    rw [List.length_map, List.take_length] at hnl
    obtain ⟨ns, hns⟩ : ∃ ns : List Str, ns = mks.map fun m => sg stem ++ m := ⟨_, rfl⟩
    rw [← hns] at hnl
    have nnlr : nl ≠ r := ((R4.same t5).ne nnl).symm
    have R5 := (R4.same t5).same s5
    refine ⟨by show 4 ≤ sizeLine; decide, fun q2 nq2 => no_part ⟨_, rfl, r, 4, rfl, R5.new nq2, by decide, fun v6 H6 v60 v61 b6 R6 => ⟨_, _, rfl, rfl, _, rfl, q2, sorts4.map V.str, rfl, SqL.of (b6 _ _ (R5.ne nq2).symm upd_same), fun sl nsl => ?_⟩⟩⟩
    obtain ⟨j2, hj2⟩ : ∃ j : Nat, (1 : Int) + v6 = (j : Int) := ⟨(1 + v6).toNat, by omega⟩
    have ecut2 : cutV (sorts4.map V.str) none (some (1 + v6)) = (sorts4.take j2).map V.str := by
      rw [hj2, cut_to (by show j2 ≤ 4; omega), List.map_take]
    rw [ecut2]
    obtain ⟨ss, hss⟩ : ∃ ss, ss = sorts4.take j2 := ⟨_, rfl⟩
    rw [← hss]
    have lss : ss.length = j2 := by
      rw [hss, List.length_take]
      show min j2 4 = j2
      omega
    have t7 := same_upd (o := .lst (ss.map V.str)) nsl
    have hsl := upd_at (o := .lst (ss.map V.str)) nsl
    have nslr : sl ≠ r := (R6.ne nsl).symm
    have R7 := R6.same t7
    have b57 := ((But.new nq2).trans b6).trans (.of t7)
    have hnl7 := b57 _ _ nnlr hnl
    obtain ⟨H7, hH7⟩ : ∃ H7, H7 = upd H6 sl (.lst (ss.map V.str)) := ⟨_, rfl⟩
    rw [← hH7] at hsl R7 hnl7 ⊢
    have nsa : ∀ x ∈ ns, x ≠ "error" ∧ x ≠ "root" ∧ x ≠ "" ∧ x.length ≤ 100 ∧ x ∉ ss := fun x hx => by
      rw [hns] at hx
      obtain ⟨m, hm, rfl⟩ := List.mem_map.mp hx
      rw [hmks] at hm
      obtain ⟨a1, a2, a3, a4, a5⟩ := names_ok stem hstem m (List.mem_of_mem_take hm)
      exact ⟨a1, a2, a3, a4, fun z => a5 (by rw [hss] at z; exact List.mem_of_mem_take z)⟩
    have ssa : ∀ x ∈ ss, x ≠ "error" ∧ x ≠ "root" ∧ x ≠ "" ∧ x.length ≤ 100 ∧ x ≠ "h" := fun x hx => by
      rw [hss] at hx
      exact sorts_ok x (List.mem_of_mem_take hx)
    have lns : ns.length = j1 := by rw [hns, List.length_map, lmks]
    clear hnl s5 t5 hpt npt nnl nq1 nq2 hH7 nsl t7 b57 R6 R5 R4 R3 R2 R1 b2 b3 b4 b6 ecut ecut2 hns hmks hss nr
    refine ⟨fun σ H' => ReelAt H' r ∧ ∃ (nl sl wl G ak : Addr) (ns ss : List Str) (al : List Way) (skip : Nat) (y7 y9 y12 y13 : Option V), LawIn fv r nl sl wl G ak ns ss al skip H' ∧ σ = [some (.ref scr), some (.ref r), some (.int fv), some (.str (sg stem)), some (.ref nl), none, some (.ref sl), y7, some (.ref wl), y9, some (.ref G), some (.ref ak), y12, y13, none, none, none, none, none, none, none, none, none], ?_, ?_⟩
    · refine ts_ite (A := fv = 0) (ts_eqI rfl) (fun hf => ?_) (fun hf => ?_)
      · refine ⟨by show 2 ≤ sizeLine; decide, fun n2 nn2 => ?_⟩
        have a1 := same_upd (o := .lst [.str "s", .str "h"]) nn2
        have hn2 := upd_at (o := .lst [.str "s", .str "h"]) nn2
        have n2r : n2 ≠ r := (R7.ne nn2).symm
        have R8 := R7.same a1
        have lss0 : 0 < ss.length := by omega
        refine ⟨_, rfl, _, rfl, r, .ref sl, rfl, R8, .inr ⟨sl, _, rfl, nslr, SqL.of (a1 _ _ hsl), by rw [List.length_map]; exact lss0, fun v H8 hv b8 R8 => ?_⟩⟩
        obtain ⟨sort, hsort, rfl⟩ := List.mem_map.mp hv
        obtain ⟨se, sr, s1, s100, sh⟩ := ssa sort hsort
        refine ⟨_, rfl, by show 1 ≤ sizeLine; decide, fun q1 nq1 => ?_⟩
        refine ⟨r, q1, "s", ["h"], rfl, R8.new nq1, upd_same, (R8.ne nq1).symm, by show 1 ≤ 8; decide, fun v0 w0 H9 hw0 e01 e02 e03 e04 b9 R9 => ⟨by show 1 ≤ sizeLine; decide, fun W1 nW1 => ?_⟩⟩
        have R10 := R9.new (o := .lst [v0]) nW1
        have hW1 := upd_at (o := .lst [v0]) nW1
        obtain ⟨H10, hH10⟩ : ∃ H10, H10 = upd H9 W1 (.lst [v0]) := ⟨_, rfl⟩
        have w010 : WayAt H10 v0 w0 := hw0.tups (by rw [hH10]; exact tups_new nW1)
        have B10 : But r H7 H10 := (((But.of a1).trans b8).trans ((But.new nq1).trans b9)).trans (by rw [hH10]; exact .new nW1)
        have W1r : W1 ≠ r := (R9.ne nW1).symm
        have Bn : But r (upd H7 n2 (.lst [.str "s", .str "h"])) H10 := (b8.trans ((But.new nq1).trans b9)).trans (by rw [hH10]; exact .new nW1)
        have hn10 := Bn _ _ n2r hn2
        rw [← hH10] at R10 hW1 ⊢
        obtain ⟨rw5, hrw5⟩ : ∃ x : List (List Str), x = [[], [("h" : Str), sort], [("h" : Str), sort], [sort, ("h" : Str)], [sort, ("h" : Str)]] := ⟨_, rfl⟩
        refine ⟨_, rfl, by show 0 ≤ sizeLine; decide, fun l0 nl0 => ⟨_, rfl, by show 2 ≤ sizeLine; decide, fun l1 nl1 => ⟨_, rfl, by show 2 ≤ sizeLine; decide, fun l2 nl2 => ⟨_, rfl, by show 2 ≤ sizeLine; decide, fun l3 nl3 => ⟨_, rfl, by show 2 ≤ sizeLine; decide, fun l4 nl4 => ⟨by show 5 ≤ sizeLine; decide, fun lo nlo => ?_⟩⟩⟩⟩⟩⟩
        have k0 := same_upd (o := .lst []) nl0
        have k1 := same_upd (o := .lst [.str "h", .str sort]) nl1
        have k2 := same_upd (o := .lst [.str "h", .str sort]) nl2
        have k3 := same_upd (o := .lst [.str sort, .str "h"]) nl3
        have k4 := same_upd (o := .lst [.str sort, .str "h"]) nl4
        have k5 := same_upd (o := .lst [.ref l0, .ref l1, .ref l2, .ref l3, .ref l4]) nlo
        have g0 := k5 _ _ (k4 _ _ (k3 _ _ (k2 _ _ (k1 _ _ (upd_same (a := l0) (o := .lst []))))))
        have g1 := k5 _ _ (k4 _ _ (k3 _ _ (k2 _ _ (upd_same (a := l1) (o := .lst [.str "h", .str sort])))))
        have g2 := k5 _ _ (k4 _ _ (k3 _ _ (upd_same (a := l2) (o := .lst [.str "h", .str sort]))))
        have g3 := k5 _ _ (k4 _ _ (upd_same (a := l3) (o := .lst [.str sort, .str "h"])))
        have g4 := k5 _ _ (upd_same (a := l4) (o := .lst [.str sort, .str "h"]))
        have glo := upd_at (o := .lst [.ref l0, .ref l1, .ref l2, .ref l3, .ref l4]) nlo
        have k05 := ((((k0.trans k1).trans k2).trans k3).trans k4).trans k5
        have R11 := R10.same k05
        have nr0 : l0 ≠ r := (R10.ne nl0).symm
        have nr1 : l1 ≠ r := ((R10.same k0).ne nl1).symm
        have nr2 : l2 ≠ r := ((R10.same (k0.trans k1)).ne nl2).symm
        have nr3 : l3 ≠ r := ((R10.same ((k0.trans k1).trans k2)).ne nl3).symm
        have nr4 : l4 ≠ r := ((R10.same (((k0.trans k1).trans k2).trans k3)).ne nl4).symm
        have nlor : lo ≠ r := ((R10.same ((((k0.trans k1).trans k2).trans k3).trans k4)).ne nlo).symm
        obtain ⟨H11, hH11⟩ : ∃ H11, H11 = upd (upd (upd (upd (upd (upd H10 l0 (.lst [])) l1 (.lst [.str "h", .str sort])) l2 (.lst [.str "h", .str sort])) l3 (.lst [.str sort, .str "h"])) l4 (.lst [.str sort, .str "h"])) lo (.lst [.ref l0, .ref l1, .ref l2, .ref l3, .ref l4]) := ⟨_, rfl⟩
        rw [← hH11] at g0 g1 g2 g3 g4 glo k05 R11 ⊢
        have P5 : Paired (fun (v : V) (x : List Str) => ∃ a, v = .ref a ∧ a ≠ r ∧ H11 a = some (.lst (x.map V.str)) ∧ x.length ≤ 8) [V.ref l0, .ref l1, .ref l2, .ref l3, .ref l4] rw5 := by
          rw [hrw5]
          exact .cons ⟨l0, rfl, nr0, g0, by show 0 ≤ 8; decide⟩ (.cons ⟨l1, rfl, nr1, g1, by show 2 ≤ 8; decide⟩ (.cons ⟨l2, rfl, nr2, g2, by show 2 ≤ 8; decide⟩ (.cons ⟨l3, rfl, nr3, g3, by show 2 ≤ 8; decide⟩ (.cons ⟨l4, rfl, nr4, g4, by show 2 ≤ 8; decide⟩ .nil))))
        have B11 := B10.trans (.of k05)
        have hW11 := k05 _ _ hW1
        have hn11 := k05 _ _ hn10
        have w011 := w010.tups (same_tps k05)
        clear k0 k1 k2 k3 k4 k5 g0 g1 g2 g3 g4 k05 hH11 hH10 nl0 nl1 nl2 nl3 nl4 nlo nr0 nr1 nr2 nr3 nr4 R10 B10 w010 R9 b9 nW1 nq1 hw0 b8 R8 a1 nn2 hW1
        refine ⟨lo, rfl, ⟨_, SqL.of glo⟩, fun D nD => ?_⟩
        have nDr : D ≠ r := (R11.ne nD).symm
        refine lc_list (K := K) (a := lo) (xs := [.ref l0, .ref l1, .ref l2, .ref l3, .ref l4]) (fun i H' => But r H11 H' ∧ ReelAt H' r ∧ ∃ (vs : List V) (wys : List Way), H' D = some (.lst vs) ∧ Paired (WayAt H') vs wys ∧ wys.length = i ∧ Paired (fun (w : Way) (x : List Str) => w.sy = x ∧ w.lb.length = x.length ∧ ∀ l ∈ w.lb, l.length ≤ 100) wys (rw5.take i)) ⟨.new nD, R11.new nD, [], [], upd_same, .nil, rfl, .nil⟩ (fun i H' _ ⟨b, _⟩ => SqL.of (b _ _ nlor glo)) ?_ ?_
        · rintro i v H12 hv ⟨b12, R12, vs, wys, hD, pw, lw, ps⟩
          obtain ⟨x, hx⟩ : ∃ x, rw5[i]? = some x := ⟨_, List.getElem?_eq_getElem (by rw [← paired_len P5]; exact (List.getElem?_eq_some_iff.mp hv).1)⟩
          obtain ⟨v', hv', a, rfl, nar, ha, lx⟩ := paired_get P5 hx
          obtain rfl : v = .ref a := Option.some.inj (hv.symm.trans hv')
          refine ⟨rfl, _, rfl, _, rfl, r, a, "h", x, rfl, R12, b12 _ _ nar ha, nar, lx, fun v wy H13 hwy e1 e2 e3 e4 b13 R13 => ?_⟩
          have i5 : i < 5 := (List.getElem?_eq_some_iff.mp hv).1
          have lvs := paired_len pw
          have hD13 := b13 _ _ nDr hD
          refine ⟨_, hD13, sz2 (by omega), (b12.trans b13).updN nD, R13.updN nDr, vs ++ [v], wys ++ [wy], upd_same, paired_app (Paired.mapP pw fun _ _ z => (z.tups (b13.tups R12)).tups (tups_lst hD13)) (.cons (hwy.tups (tups_lst hD13)) .nil), by rw [List.length_append, lw]; rfl, ?_⟩
          rw [takeN hx]
          exact paired_app ps (.cons ⟨e2, e3, e4⟩ .nil)
        rintro H12 ⟨b12, R12, vs, wys, hD, pw, lw, ps⟩
        have lvs := paired_len pw
        have hW12 := b12 _ _ W1r hW11
        have hn12 := b12 _ _ n2r hn11
        have w012 := w011.tups (b12.tups R11)
        refine ⟨W1, D, _, _, rfl, rfl, hW12, hD, szM (by rw [lvs, lw]; show 1 + 5 ≤ _; decide), fun W2 nW2 => ?_⟩
        have hW2 := upd_at (o := .lst ([v0] ++ vs)) nW2
        have nW2r : W2 ≠ r := (R12.ne nW2).symm
        have R13 := R12.new (o := .lst ([v0] ++ vs)) nW2
        have hn13 := same_upd (o := .lst ([v0] ++ vs)) nW2 _ _ hn12
        have pal : Paired (WayAt (upd H12 W2 (.lst ([v0] ++ vs)))) ([v0] ++ vs) (w0 :: wys) := .cons (w012.tups (tups_new nW2)) (Paired.mapP pw fun _ _ z => z.tups (tups_new nW2))
        obtain ⟨H13, hH13⟩ : ∃ H13, H13 = upd H12 W2 (.lst ([v0] ++ vs)) := ⟨_, rfl⟩
        have B13 : But r H7 H13 := (B11.trans b12).trans (by rw [hH13]; exact .new nW2)
        rw [← hH13] at hW2 R13 pal hn13 ⊢
        have ps : Paired (fun (w : Way) (x : List Str) => w.sy = x ∧ w.lb.length = x.length ∧ ∀ l ∈ w.lb, l.length ≤ 100) wys [[], [("h" : Str), sort], [("h" : Str), sort], [sort, ("h" : Str)], [sort, ("h" : Str)]] := by
          rw [hrw5] at ps
          exact ps
        obtain ⟨DW, shal⟩ : DeepW (w0 :: wys) sort ∧ ShortW (w0 :: wys) := deep_ways e03 e04 ps
        have lal : (w0 :: wys).length = 6 := by rw [List.length_cons, lw]; rfl
        clear hW12 w012 b12 R12 pw hD hH13 nW2 ps nD glo P5 R11 B11 hW11 w011
        refine ⟨_, rfl, _, rfl, _, rfl, _, rfl, r, 40, rfl, R13, by decide, fun v H14 p0 p1 b14 R14 => ?_⟩
        obtain ⟨dm, hdm⟩ : ∃ n : Nat, (1010 : Int) + v = (n : Int) := ⟨(1010 + v).toNat, by omega⟩
        have ldm : 1010 ≤ dm ∧ dm ≤ 1060 := by omega
        have B14 := B13.trans b14
        refine ⟨_, _, rfl, rfl, r, W2, sort, dm, [v0] ++ vs, w0 :: wys, by show [V.ref r, V.ref W2, V.str sort, V.int (1010 + v)] = _; rw [hdm], R14, b14 _ _ nW2r hW2, Paired.mapP pal fun _ _ z => z.tups (b14.tups R13), nW2r, DW, sh, by omega, fun G H15 gx ⟨R0, L0, us0, hG0, hR0, l0⟩ b15 R15 nG => ?_⟩
        have hW15 := (b14.trans b15) _ _ nW2r hW2
        have pal15 : Paired (WayAt H15) ([v0] ++ vs) (w0 :: wys) := Paired.mapP pal fun _ _ z => z.tups ((b14.trans b15).tups R13)
        have B15 := B14.trans b15
        have Gr : G ≠ r := (R14.ne nG).symm
        refine ⟨_, rfl, r, 100, rfl, R15, by decide, fun v3 H16 p30 p31 b16 R16 => ⟨_, _, rfl, rfl, ?_⟩⟩
        obtain ⟨R1, L1, us1, rows, labs, pt, hG, hR1, pr1, hL1, gt, ef, el, l2210, lsk, nR1r, nL1r, _⟩ := gx.out R15
        obtain ⟨e1, e2⟩ : R0 = R1 ∧ L0 = L1 := by
          rw [hG] at hG0
          injection hG0 with z
          injection z with z
          injection z with z1 z
          injection z with z2 _
          injection z1 with z1
          injection z2 with z2
          exact ⟨z1.symm, z2.symm⟩
        subst e1 e2
        obtain rfl : us1 = us0 := by
          rw [hR1] at hR0
          injection hR0 with z
          injection z
        have lus := paired_len pr1
        have hG16 := b16 _ _ Gr hG
        have hR16 := b16 _ _ nR1r hR1
        refine ⟨_, rfl, G, _, 0, .ref R0, rfl, rfl, SqL.of hG16, rfl, ?_⟩
        refine ⟨_, us1.length, rfl, .inl ⟨us1, SqL.of hR16, rfl⟩, _, _, rfl, rfl, by show 3 ≤ sizeLine; decide, fun ak nak => ?_⟩
        obtain ⟨d9, hd9⟩ : ∃ n : Nat, (900 : Int) + v3 = (n : Int) := ⟨(900 + v3).toNat, by omega⟩
        have eak : HO.lst [V.int 0, (fun i j : Int => V.int (i + j)) 900 v3, (fun i j : Int => V.int (i - j)) ((us1.length : Nat) : Int) 1] = HO.lst ((natsZ [0, d9, rows.length - 1]).map V.int) := by
          show HO.lst [V.int 0, V.int (900 + v3), V.int (((us1.length : Nat) : Int) - 1)] = HO.lst [V.int ((0 : Nat) : Int), V.int ((d9 : Nat) : Int), V.int ((rows.length - 1 : Nat) : Int)]
          rw [hd9, lus, show ((rows.length : Nat) : Int) - 1 = ((rows.length - 1 : Nat) : Int) by omega]
          rfl
        rw [eak]
        have sz := same_upd (o := .lst ((natsZ [0, d9, rows.length - 1]).map V.int)) nak
        have B17 := b16.trans (.of sz)
        have B717 := B15.trans B17
        refine ⟨R16.same sz, n2, sl, W2, G, ak, ["s", "h"], ss, w0 :: wys, 0, _, _, _, _, ⟨?_, ?_, ?_, ⟨"s", rfl⟩, ?_, by show 2 ≤ 10; decide, by omega, by omega, by omega, shal, n2r, nslr, nW2r, Gr, (R16.ne nak).symm, ?_⟩, rfl⟩
        · exact B17 _ _ n2r ((b14.trans b15) _ _ n2r hn13)
        · exact B717 _ _ nslr hsl
        · exact ⟨_, B17 _ _ nW2r hW15, Paired.mapP pal15 fun _ _ z => z.tups (B17.tups R15)⟩
        · obtain ⟨s0, h0⟩ : ∃ x, ss[0]? = some x := ⟨_, List.getElem?_eq_getElem lss0⟩
          have := ssa s0 (List.mem_of_getElem? h0)
          exact ⟨s0, h0, this.1, this.2.1⟩
        · refine ⟨R0, L0, us1, rows, labs, pt, [0, d9, rows.length - 1], B17 _ _ Gr hG, B17 _ _ nR1r hR1, Paired.mapP pr1 fun _ _ z => z.tups (B17.tups R15), B17 _ _ nL1r hL1, gt, ef, el, by omega, by omega, nR1r, nL1r, upd_same, fun k hk => ?_, fun z => by omega⟩
          rcases List.mem_cons.mp hk with rfl | hk
          · omega
          rcases List.mem_cons.mp hk with rfl | hk
          · omega
          rw [List.mem_singleton.mp hk]
          omega
      · have fpos : 0 < fv := by omega
        have lss0 : 0 < ss.length := by omega
        refine ⟨by show 0 ≤ sizeLine; decide, fun wl nwl => ?_⟩
        have a1 := same_upd (o := .lst []) nwl
        have hwl := upd_at (o := .lst []) nwl
        have wlr : wl ≠ r := (R7.ne nwl).symm
        have R8 := R7.same a1
        refine ⟨_, rfl, _, rfl, _, rfl, r, nl, sl, ns, ss, rfl, R8, a1 _ _ hnl7, a1 _ _ hsl, nnlr, nslr, by omega, lss0, by omega, fun D H9 WA nD b9 R9 => ?_⟩
        obtain ⟨dus, ws, hD, pws, wok, lws, hdw⟩ := WA.ex
        have Dr : D ≠ r := (R8.ne nD).symm
        have Dwl : D ≠ wl := (ne_of_none hwl nD).symm
        have hwl9 := b9 _ _ wlr hwl
        have B9 : But r H7 H9 := (But.of a1).trans b9
        have ldus := paired_len pws
        refine ⟨D, rfl, ⟨_, SqL.of hD⟩, ?_⟩
        refine for_list (K := K) (a := D) (xs := dus) (fun i σ H' => But r H7 H' ∧ ReelAt H' r ∧ Tups H9 H' ∧ H' D = some (.lst dus) ∧ (∃ y12 : Option V, σ = [some (.ref scr), some (.ref r), some (.int fv), some (.str (sg stem)), some (.ref nl), none, some (.ref sl), none, some (.ref wl), none, none, none, y12, none, none, none, none, none, none, none, none, none, none]) ∧ ∃ (us : List V) (al : List Way), H' wl = some (.lst us) ∧ Paired (WayAt H') us al ∧ al.length = i ∧ ∀ w, w ∈ al ↔ w ∈ ws.take i)
          ⟨B9, R9, Tups.refl _, hD, ⟨none, rfl⟩, [], [], hwl9, .nil, rfl, fun w => Iff.rfl⟩ (fun i σ H' _ ⟨_, _, _, h, _⟩ => SqL.of h) ?_ ?_
        · rintro i v σ HB hv ⟨bB, RB, tB, hDB, ⟨y12, rfl⟩, us, al, hwlB, pal, lal, mal⟩
          have hi : i < ws.length := by rw [← ldus]; exact (List.getElem?_eq_some_iff.mp hv).1
          obtain ⟨w1, hw⟩ : ∃ w, ws[i]? = some w := ⟨_, List.getElem?_eq_getElem hi⟩
          obtain ⟨v', hv', hvw⟩ := paired_get pws hw
          obtain rfl : v = v' := Option.some.inj (hv.symm.trans hv')
          have lus := paired_len pal
          refine ⟨_, rfl, .inl ⟨rfl, _, SqL.of hwlB⟩, _, rfl, ?_⟩
          refine ⟨_, rfl, wl, _, rfl, .inl (SqL.of hwlB), _, _, rfl, rfl, r, _, rfl, RB, by show (0 : Int) < ((us.length : Nat) : Int) + 1; omega, fun z HC z0 z1 bC RC => ?_⟩
          have z1 : z < ((us.length : Nat) : Int) + 1 := z1
          have hwlC := bC _ _ wlr hwlB
          have hDC := bC _ _ Dr hDB
          refine ⟨_, rfl, wl, us, z, v, rfl, rfl, hwlC, sz2 (by omega), z0, by omega, ?_⟩
          have tC := tB.trans (bC.tups RB)
          have tI : Tups HC (upd HC wl (.lst (us.take z.toNat ++ [v] ++ us.drop z.toNat))) := tups_lst hwlC
          refine ⟨(bB.trans bC).updN nwl, RC.updN wlr, tC.trans tI, by rw [upd_ne Dwl]; exact hDC, ⟨_, rfl⟩, us.take z.toNat ++ [v] ++ us.drop z.toNat, al.take z.toNat ++ [w1] ++ al.drop z.toNat, upd_same, ?_, ?_, fun x => ?_⟩
          · have pal' := Paired.mapP pal fun _ _ y => (y.tups (bC.tups RB)).tups tI
            exact paired_app (paired_app (paired_take _ pal') (.cons (hvw.tups (tC.trans tI)) .nil)) (paired_drop _ pal')
          · rw [List.length_append, List.length_append, List.length_take, List.length_drop]
            show min z.toNat al.length + 1 + (al.length - z.toNat) = i + 1
            omega
          · rw [takeN hw, List.mem_append, List.mem_append, List.mem_append, ← mal x]
            have : x ∈ al ↔ x ∈ al.take z.toNat ∨ x ∈ al.drop z.toNat := by
              rw [← List.mem_append, List.take_append_drop]
            rw [this]
            constructor
            · rintro ((h | h) | h)
              · exact .inl (.inl h)
              · exact .inr h
              · exact .inl (.inr h)
            · rintro ((h | h) | h)
              · exact .inl (.inl h)
              · exact .inr h
              · exact .inl (.inr h)
        · rintro σ HB ⟨bB, RB, tB, hDB, ⟨y12, rfl⟩, us, al, hwlB, pal, lal, mal⟩
          rw [ldus] at lal mal
          rw [List.take_length] at mal
          have hnlB := bB _ _ nnlr hnl7
          have hslB := bB _ _ nslr hsl
          have lns0 : 0 < ns.length := by omega
          obtain ⟨n0, hn0⟩ : ∃ x, ns[0]? = some x := ⟨_, List.getElem?_eq_getElem lns0⟩
          have hn0' : (ns.map V.str)[0]? = some (.str n0) := by rw [List.getElem?_map, hn0]; rfl
          have wok2 : ∀ w ∈ al, WayOk ns ss w := fun w hw => wok w ((mal w).mp hw)
          have hdw2 : ∀ x ∈ ns, ∃ w ∈ al, w.hd = x := fun x hx => by
            obtain ⟨j, hj⟩ := List.mem_iff_getElem?.mp hx
            obtain ⟨w, hw, e⟩ := hdw j x (List.getElem?_eq_some_iff.mp hj).1 hj
            exact ⟨w, (mal w).mpr hw, e⟩
          have lal30 : al.length ≤ 30 := by omega
          have lal0 : 0 < al.length := by
            obtain ⟨w, hw, _⟩ := hdw2 n0 (List.mem_of_getElem? hn0)
            exact List.length_pos_of_mem hw
          refine ⟨_, rfl, r, 2, rfl, RB, by decide, fun rt HC c0 c1 bC RC => ?_⟩
          refine ⟨_, rfl, _, rfl, _, rfl, _, rfl, ?_⟩
          refine te_any (fun x H' => ∃ start : Str, x = .str start ∧ start ∈ ns ∧ But r HC H' ∧ ReelAt H' r) (fun Q' k => ?_) ?_
          · have hnlC := bC _ _ nnlr hnlB
            refine ⟨_, rfl, rfl, _, rfl, ite2 (fun _ => ?_) (fun _ => ?_)⟩
            · exact ⟨_, rfl, nl, _, 0, .str n0, rfl, rfl, SqL.of hnlC, atI_nat (j := 0) hn0', k _ _ ⟨n0, rfl, List.mem_of_getElem? hn0, .refl _ _, RC⟩⟩
            · refine ⟨_, rfl, _, rfl, r, .ref nl, rfl, RC, .inr ⟨nl, _, rfl, nnlr, SqL.of hnlC, by rw [List.length_map]; exact lns0, fun v HD hv bD RD => ?_⟩⟩
              obtain ⟨x, hx, rfl⟩ := List.mem_map.mp hv
              exact k _ _ ⟨x, rfl, hx, bD, RD⟩
          rintro x HE ⟨start, rfl, hst, bE, RE⟩
          have bBE := bC.trans bE
          have b7E := bB.trans bBE
          have hnlE := b7E _ _ nnlr hnl7
          have hslE := b7E _ _ nslr hsl
          have hwlE := bBE _ _ wlr hwlB
          have palE : Paired (WayAt HE) us al := Paired.mapP pal fun _ _ y => y.tups (bBE.tups RB)
          refine ⟨_, rfl, r, nl, sl, wl, ns, ss, us, al, start, rt, rfl, RE, hnlE, hslE, hwlE, palE, nnlr, nslr, wlr, fun x hx => ?_, wok2, hdw2, fun x hx => (nsa x hx).2.2.2.2, hst, by omega, lss0, by omega, lal30, fun G HG ga bG RG nG => ?_⟩
          · rcases List.mem_append.mp hx with h | h
            · obtain ⟨a1, a2, a3, a4, _⟩ := nsa x h
              exact ⟨a1, a2, a3, a4⟩
            · obtain ⟨a1, a2, a3, a4, _⟩ := ssa x h
              exact ⟨a1, a2, a3, a4⟩
          have Gr : G ≠ r := (RE.ne nG).symm
          refine ⟨fun σ H' => But r HG H' ∧ ReelAt H' r ∧ ∃ (G2 : Addr) (skip : Nat), G2 ≠ r ∧ skip ≤ 1 ∧ GrownX al start skip 110 H' G2 ∧ σ = [some (.ref scr), some (.ref r), some (.int fv), some (.str (sg stem)), some (.ref nl), none, some (.ref sl), none, some (.ref wl), none, some (.ref G2), none, y12, some (.int rt), none, none, none, none, none, none, none, none, none], ?_, ?_⟩
          · refine ts_ite (A := rt = 1) (ts_eqI rfl) (fun h1 => ?_) (fun h1 => ?_)
            · rw [h1] at ga
              exact ⟨_, rfl, _, rfl, al, start, r, G, rfl, RG, ga, Gr, fun G2 HH gx bH RH nG2 => ⟨bH, RH, G2, 1, (RG.ne nG2).symm, Nat.le_refl _, gx, rfl⟩⟩
            · have h0 : rt = 0 := by omega
              rw [h0] at ga
              exact ⟨.refl _ _, RG, G, 0, Gr, Nat.zero_le _, ga.x, rfl⟩
          · rintro σ HH ⟨bH, RH, G2, skip, G2r, sk1, gx, rfl⟩
            obtain ⟨R1, L1, us1, rows, labs, pt, hG, hR1, pr1, hL1, gt, ef, el, l110, lsk, nR1r, nL1r, hsy, hrt⟩ := gx.out RH
            have lus1 := paired_len pr1
            have bEH := bG.trans bH
            refine ⟨_, rfl, G2, _, 0, .ref R1, rfl, rfl, SqL.of hG, rfl, _, us1.length, rfl, .inl ⟨us1, SqL.of hR1, rfl⟩, _, rfl, by omega, by omega, fun ak nak => ?_⟩
            have akr : ak ≠ r := (RH.ne nak).symm
            refine lc_range (lo := 0) (n := ((us1.length : Nat) : Int).toNat) (fun i H' => Same HH H' ∧ H' ak = some (.lst ((natsZ (List.range i)).map V.int))) ⟨same_upd nak, upd_same⟩ ?_ ?_
            · rintro i HI hi ⟨sI, hak⟩
              refine ⟨rfl, _, rfl, _, hak, sz2 (by rw [List.length_map, natsZ_len, List.length_range]; omega), same_mut sI nak, ?_⟩
              rw [upd_same, List.range_succ, show (0 : Int) + (i : Int) = (i : Int) by omega]
              unfold natsZ
              rw [List.map_append, List.map_append]
              rfl
            rintro HI ⟨sI, hak⟩
            rw [show ((us1.length : Nat) : Int).toNat = rows.length by omega] at hak
            have bHI := But.of (r := r) sI
            have bEI := bEH.trans bHI
            have b7I := b7E.trans bEI
            refine ⟨RH.same sI, nl, sl, wl, G2, ak, ns, ss, al, skip, _, _, _, _, ⟨b7I _ _ nnlr hnl7, b7I _ _ nslr hsl, ⟨us, bEI _ _ wlr hwlE, Paired.mapP palE fun _ _ y => y.tups (bEI.tups RE)⟩, ⟨n0, hn0⟩, ?_, by omega, by omega, lal0, lal30, fun w hw => (wok2 w hw).sh, nnlr, nslr, wlr, G2r, akr, ?_⟩, rfl⟩
            · obtain ⟨s0, h0⟩ : ∃ x, ss[0]? = some x := ⟨_, List.getElem?_eq_getElem lss0⟩
              have := ssa s0 (List.mem_of_getElem? h0)
              exact ⟨s0, h0, this.1, this.2.1⟩
            · refine ⟨R1, L1, us1, rows, labs, pt, List.range rows.length, sI _ _ hG, sI _ _ hR1, Paired.mapP pr1 fun _ _ z => z.tups (same_tps sI), sI _ _ hL1, gt, ef, el, by omega, by omega, nR1r, nL1r, hak, fun k hk => List.mem_range.mp hk, fun _ => ⟨l110, sk1, lsk, ?_, hrt sk1⟩⟩
              obtain ⟨x, hx, e1, e2⟩ := hsy
              exact ⟨x, hx, by rw [e1]; exact hst, e2⟩
    · rintro σ HA ⟨RA, nl, sl, wl, G, ak, ns, ss, al, skip, y7, y9, y12, y13, LI, rfl⟩
      obtain ⟨R0, L, us0, rows0, labs, pt, asks, hG, hR0, pr0, hL, gt, ef, el, lr0, r0, nR0r, nLr, hak, haks, hpos⟩ := LI.ex
      obtain ⟨wus, hwl, pw⟩ := LI.ways
      have lss := LI.lss
      have lns := LI.lns
      have lal := LI.lal
      have lal0 := LI.lal0
      refine ⟨_, rfl, G, _, 0, .ref R0, rfl, rfl, SqL.of hG, rfl, R0, us0, rows0, rfl, hR0, pr0, by rw [← ef]; exact gt.alone, by omega, fun F us rows HB hF pr fe ⟨wts, fo⟩ nF sB => ?_⟩
      have lrr : rows.length = rows0.length := (paired_len fe).symm
      have elev : rows.map Prod.fst = rows0.map Prod.fst := fit_levs fe
      refine ⟨_, rfl, F, rows, rfl, ⟨⟨us, hF, pr⟩, by rw [elev, ← ef]; exact Fl_lev pt, True.intro⟩, by omega, fun m as t HC sC nm hm las hras nt => ?_⟩
      have fe2 := fe
      rw [← ef] at fe2
      obtain ⟨aok, elt, fok, lok⟩ := grown_tree gt fe2 fo las hras
      have TI : TreeIn K T.C_Node HC F m us rows as t := ⟨⟨sC _ _ hF, Paired.mapP pr fun _ _ x => x.tups (same_tps sC)⟩, hm, las, hras, nt, fok.wok, by omega⟩
      have sAC := sB.trans sC
      have RC := RA.same sAC
      have nFr : F ≠ r := (RA.ne nF).symm
      have nmr : m ≠ r := ((RA.same sB).ne nm).symm
      have hslC := sAC _ _ LI.sorts
      have hnlC := sAC _ _ LI.names
      have hLC := sAC _ _ hL
      have hGC := sAC _ _ hG
      have hakC := sAC _ _ hak
      have hwlC := sAC _ _ hwl
      have pwC := Paired.mapP pw fun _ _ x => x.tups (same_tps sAC)
      have hlabs : labsT al t "" = labs := by rw [elt, el]
      rw [el] at lok
      clear sB sC hF pr hm nt nF nm sAC hras fe2 las
      refine ⟨_, rfl, sl, _, rfl, .inl (SqL.of hslC), _, rfl, by rw [List.length_map]; omega, by rw [List.length_map]; omega, fun p1 np1 => ?_⟩
      refine lc_range (lo := 0) (n := (((ss.map V.str).length : Nat) : Int).toNat) (fun j H' => Same HC H' ∧ ∃ pvs, H' p1 = some (.lst pvs) ∧ pvs.length = j ∧ Paired (KindAt H') pvs (ss.take j)) ⟨same_upd np1, [], upd_same, rfl, .nil⟩ ?_ ?_
      · rintro j HD hj ⟨sD, pvs, hp1, lpv, pk⟩
        rw [List.length_map] at hj
        have hj : j < ss.length := by omega
        obtain ⟨sk, hsk⟩ : ∃ x, ss[j]? = some x := ⟨_, List.getElem?_eq_getElem hj⟩
        have hsk2 : (ss.map V.str)[j]? = some (.str sk) := by rw [List.getElem?_map, hsk]; rfl
        have ej : (0 : Int) + (j : Int) = ((j : Nat) : Int) := by omega
        rw [ej]
        refine ⟨rfl, _, rfl, _, rfl, sl, _, _, .str sk, rfl, rfl, SqL.of (sD _ _ hslC), atI_nat hsk2, ?_⟩
        have l4 : ("+a0z" : Str).cps.toList.length = 4 := by decide +kernel
        have hch : ("+a0z" : Str).cps.toList[j]? = some (("+a0z" : Str).cps.toList[j]'(by omega)) := List.getElem?_eq_getElem _
        refine ⟨_, rfl, _, _, _, rfl, rfl, by decide +kernel, atI_nat hch, by show 2 ≤ sizeLine; decide, fun t1 nt1 => ⟨by show 4 ≤ sizeLine; decide, fun t2 nt2 => ⟨by show 2 ≤ sizeLine; decide, fun t3 nt3 => ?_⟩⟩⟩
        have w1 := ((same_upd nt1).trans (same_upd nt2)).trans (same_upd (o := .tup [.str sk, .ref t2]) nt3)
        have hp1' := w1 _ _ hp1
        refine ⟨_, hp1', sz2 (by omega), same_mut (sD.trans w1) np1, pvs ++ [.ref t3], upd_same, by rw [List.length_append, lpv]; rfl, ?_⟩
        rw [takeN hsk]
        have tu : Tups HD _ := Tups.trans (same_tps w1) (tups_lst (o := .lst (pvs ++ [.ref t3])) hp1')
        exact paired_app (Paired.mapP pk fun _ _ x => x.tups tu) (.cons ⟨t3, _, rfl, tups_lst hp1' _ _ upd_same⟩ .nil)
      rintro HD ⟨sD, pvs, hp1, lpv, pk⟩
      rw [List.length_map] at lpv pk
      have lpv : pvs.length = ss.length := by omega
      have pk : Paired (KindAt HD) pvs ss := by
        rw [show (((ss.length : Nat) : Int)).toNat = ss.length by omega, List.take_length] at pk
        exact pk
      obtain ⟨s0, hs0, s0e, s0r⟩ := LI.s0
      have hs0' : (ss.map V.str)[0]? = some (.str s0) := by rw [List.getElem?_map, hs0]; rfl
      refine ⟨_, rfl, sl, _, 0, .str s0, rfl, rfl, SqL.of (sD _ _ hslC), atI_nat (j := 0) hs0', by show 2 ≤ sizeLine; decide, fun t1 nt1 => ⟨by show 2 ≤ sizeLine; decide, fun t2 nt2 => ⟨by show 1 ≤ sizeLine; decide, fun t3 nt3 => ?_⟩⟩⟩
      have w1 := same_upd (o := .tup [.str "set", .str "+"]) nt1
      have w2 := w1.trans (same_upd (o := .tup [.str s0, .ref t1]) nt2)
      have w3 := w2.trans (same_upd (o := .lst [.ref t2]) nt3)
      have ht2 := same_upd (o := .lst [.ref t2]) nt3 _ _ (upd_same (a := t2) (o := .tup [.str s0, .ref t1]))
      refine ⟨_, rfl, _, rfl, no_part ⟨p1, pvs, rfl, SqL.of (w3 _ _ hp1), fun t4 nt4 => ?_⟩⟩
      have lss0 : 0 < ss.length := (List.getElem?_eq_some_iff.mp hs0).1
      have ec1 : cutV pvs (some 1) none = pvs.drop 1 := cut_from (a := 1) (by omega)
      rw [ec1]
      have w4 := w3.trans (same_upd (o := .lst (pvs.drop 1)) nt4)
      refine ⟨t3, t4, _, _, rfl, rfl, same_upd (o := .lst (pvs.drop 1)) nt4 _ _ upd_same, upd_same, szM (by rw [List.length_drop]; show 1 + _ ≤ _; omega), fun t5 nt5 => ?_⟩
      have w5 := w4.trans (same_upd (o := .lst ([.ref t2] ++ pvs.drop 1)) nt5)
      refine ⟨t5, _, rfl, .inl ⟨SqL.of upd_same, fun kp nkp => ?_⟩⟩
      have w6 := w5.trans (same_upd (o := .tup ([.ref t2] ++ pvs.drop 1)) nkp)
      have hkp := upd_at (o := .tup ([.ref t2] ++ pvs.drop 1)) nkp
      have w36 := ((same_upd (o := .lst (pvs.drop 1)) nt4).trans (same_upd (o := .lst ([.ref t2] ++ pvs.drop 1)) nt5)).trans (same_upd (o := .tup ([.ref t2] ++ pvs.drop 1)) nkp)
      obtain ⟨HE, hHE⟩ : ∃ HE, HE = upd (upd (upd (upd (upd (upd HD t1 (.tup [.str "set", .str "+"])) t2 (.tup [.str s0, .ref t1])) t3 (.lst [.ref t2])) t4 (.lst (pvs.drop 1))) t5 (.lst ([.ref t2] ++ pvs.drop 1))) kp (.tup ([.ref t2] ++ pvs.drop 1)) := ⟨_, rfl⟩
      rw [← hHE] at w6 w36 hkp ⊢
      have pkk : Paired (KindAt HE) ([.ref t2] ++ pvs.drop 1) ss := by
        have e1 : ss = s0 :: ss.drop 1 := by
          cases ss with
          | nil => cases hs0
          | cons x xs =>
            obtain rfl : x = s0 := Option.some.inj hs0
            rfl
        rw [e1]
        exact .cons ⟨t2, _, rfl, w36 _ _ ht2⟩ (Paired.mapP (paired_drop 1 pk) fun _ _ x => x.tups (same_tps w6))
      obtain ⟨kus, hkus⟩ : ∃ kus, kus = [V.ref t2] ++ pvs.drop 1 := ⟨_, rfl⟩
      rw [← hkus] at hkp pkk
      have sCE := sD.trans w6
      clear w1 w2 w3 w4 w5 w6 w36 ht2 nt1 nt2 nt3 nt4 nt5 nkp hp1 pk hHE sD np1
      have RE := RC.same sCE
      have hnlE := sCE _ _ hnlC
      refine ⟨_, rfl, nl, rfl, ⟨_, SqL.of hnlE⟩, fun vl nvl => ?_⟩
      have nvlr : vl ≠ r := (RE.ne nvl).symm
      refine lc_list (K := K) (a := nl) (xs := ns.map V.str) (fun i H' => But r HE H' ∧ ReelAt H' r ∧ ∃ hid : List Str, H' vl = some (.lst (hid.map V.str)) ∧ hid.length ≤ i) ⟨.new nvl, RE.new nvl, [], upd_same, Nat.le_refl _⟩ (fun i H' _ ⟨b, _⟩ => SqL.of (b _ _ LI.nnl hnlE)) ?_ ?_
      · rintro i v HF hv ⟨bF, RF, hid, hvl, lh⟩
        rw [List.getElem?_map] at hv
        obtain ⟨nk, hnk⟩ : ∃ x, ns[i]? = some x := by
          cases e : ns[i]? with
          | none =>
            rw [e] at hv
            cases hv
          | some x => exact ⟨x, rfl⟩
        rw [hnk] at hv
        obtain rfl : V.str nk = v := Option.some.inj hv
        have hin := (List.getElem?_eq_some_iff.mp hnk).1
        refine ⟨rfl, ?_⟩
        refine ⟨_, rfl, rfl, _, rfl, ite2 (fun _ => iteT ⟨_, rfl, _, hvl, sz2 (by rw [List.length_map]; omega), bF.updN nvl, RF.updN nvlr, hid ++ [nk], by rw [upd_same, List.map_append]; rfl, by rw [List.length_append]; show _ + 1 ≤ _; omega⟩) (fun _ => ⟨_, rfl, r, 2, rfl, RF, by decide, fun v HG _ _ bG RG => ⟨rfl, _, rfl, ite2 (fun _ => ?_) (fun _ => ?_)⟩⟩)⟩
        · have hvG := bG _ _ nvlr hvl
          exact ⟨_, rfl, _, hvG, sz2 (by rw [List.length_map]; omega), (bF.trans bG).updN nvl, RG.updN nvlr, hid ++ [nk], by rw [upd_same, List.map_append]; rfl, by rw [List.length_append]; show _ + 1 ≤ _; omega⟩
        · exact ⟨bF.trans bG, RG, hid, bG _ _ nvlr hvl, by omega⟩
      rintro HF ⟨bF, RF, hid, hvl, lh⟩
      rw [List.length_map] at lh
      have hnlF := bF _ _ LI.nnl hnlE
      refine ⟨_, rfl, nl, rfl, ⟨_, SqL.of hnlF⟩, fun ol nol => ?_⟩
      have nolr : ol ≠ r := (RF.ne nol).symm
      refine lc_list (K := K) (a := nl) (xs := ns.map V.str) (fun i H' => But r HF H' ∧ ReelAt H' r ∧ ∃ hid : List Str, H' ol = some (.lst (hid.map V.str)) ∧ hid.length ≤ i) ⟨.new nol, RF.new nol, [], upd_same, Nat.le_refl _⟩ (fun i H' _ ⟨b, _⟩ => SqL.of (b _ _ LI.nnl hnlF)) ?_ ?_
      · rintro i v HG hv ⟨bG, RG, hid, hvl, lh⟩
        rw [List.getElem?_map] at hv
        obtain ⟨nk, hnk⟩ : ∃ x, ns[i]? = some x := by
          cases e : ns[i]? with
          | none =>
            rw [e] at hv
            cases hv
          | some x => exact ⟨x, rfl⟩
        rw [hnk] at hv
        obtain rfl : V.str nk = v := Option.some.inj hv
        have hin := (List.getElem?_eq_some_iff.mp hnk).1
        refine ⟨rfl, _, rfl, r, 2, rfl, RG, by decide, fun v HI _ _ bI RI => ⟨rfl, _, rfl, ite2 (fun _ => ?_) (fun _ => ?_)⟩⟩
        · have hvI := bI _ _ nolr hvl
          exact ⟨_, rfl, _, hvI, sz2 (by rw [List.length_map]; omega), (bG.trans bI).updN nol, RI.updN nolr, hid ++ [nk], by rw [upd_same, List.map_append]; rfl, by rw [List.length_append]; show _ + 1 ≤ _; omega⟩
        · exact ⟨bG.trans bI, RI, hid, bI _ _ nolr hvl, by omega⟩
      rintro HG ⟨bG, RG, oth, hol, lo⟩
      rw [List.length_map] at lo
      have hvlG := bG _ _ nvlr hvl
      have hnlG := bG _ _ LI.nnl hnlF
      have BEG := bF.trans bG
      have BCG := (But.of sCE).trans BEG
      have hwlG := BCG _ _ LI.nwl hwlC
      have pwG : Paired (WayAt HG) wus al := Paired.mapP pwC fun _ _ x => x.tups (BCG.tups RC)
      have hkpG := BEG.tups RE _ _ hkp
      have pkG : Paired (KindAt HG) kus ss := Paired.mapP pkk fun _ _ x => x.tups (BEG.tups RE)
      clear bF bG RF hvl hnlE hnlF hkp pkk
      refine ⟨_, rfl, nl, _, rfl, .inl ⟨SqL.of hnlG, fun nt nnt => ?_⟩⟩
      have x1 := same_upd (o := .tup (ns.map V.str)) nnt
      refine ⟨_, rfl, wl, _, rfl, .inl ⟨SqL.of (x1 _ _ hwlG), fun wt nwt => ?_⟩⟩
      have x2 := x1.trans (same_upd (o := .tup wus) nwt)
      have hwt := upd_at (o := .tup wus) nwt
      have hnt := same_upd (o := .tup wus) nwt _ _ (upd_same (a := nt) (o := .tup (ns.map V.str)))
      obtain ⟨HH, hHH⟩ : ∃ HH, HH = upd (upd HG nt (.tup (ns.map V.str))) wt (.tup wus) := ⟨_, rfl⟩
      rw [← hHH] at x2 hwt hnt ⊢
      have BCH := BCG.trans (.of x2)
      have RH := RG.same x2
      have hvlH := x2 _ _ hvlG
      have holH := x2 _ _ hol
      have hkpH := x2 _ _ hkpG
      have pkH : Paired (KindAt HH) kus ss := Paired.mapP pkG fun _ _ x => x.tups (same_tps x2)
      have pwH : Paired (WayAt HH) wus al := Paired.mapP pwG fun _ _ x => x.tups (same_tps x2)
      clear x1 hvlG hol hkpG pkG pwG hHH nnt nwt hwlG hnlG
      refine ⟨_, rfl, _, rfl, _, rfl, _, rfl, vl, _, rfl, .inl ⟨SqL.of hvlH, fun hd1 nhd1 => ⟨_, rfl, rfl, rfl, fun g1 dx1 ng1 ndx1 hne1 => ?_⟩⟩⟩
      have y1 := same_upd (o := .tup (hid.map V.str)) nhd1
      have hhd1 : (upd HH hd1 (.tup (hid.map V.str))) hd1 = some (.tup (hid.map V.str)) := upd_same
      have su1 : Same (upd HH hd1 (.tup (hid.map V.str))) _ := (same_upd (o := .own g1) ndx1).trans (same_upd (o := .ins T.C_Grammar dx1 []) (by rw [upd_ne hne1.symm]; exact ng1))
      obtain ⟨gm1, hgm1⟩ : ∃ gm : Gm, gm = ⟨"drawn", " ", kp, nt, wt, hd1, nt, T.T0_Grammar_inner, T.T0_Grammar_steps⟩ := ⟨_, rfl⟩
      have sw1 : Same (upd HH hd1 (.tup (hid.map V.str))) (upd (upd (upd (upd HH hd1 (.tup (hid.map V.str))) dx1 (.own g1)) g1 (.ins T.C_Grammar dx1 [])) g1 (.ins T.C_Grammar dx1 (gfl gm1))) := by
        rw [upd_upd]
        exact (same_upd ndx1).trans (same_upd (by rw [upd_ne hne1.symm]; exact ng1))
      have hg1 : (upd (upd (upd (upd HH hd1 (.tup (hid.map V.str))) dx1 (.own g1)) g1 (.ins T.C_Grammar dx1 [])) g1 (.ins T.C_Grammar dx1 (gfl gm1))) g1 = some (.ins T.C_Grammar dx1 (gfl gm1)) := upd_same
      have s1u := y1.trans su1
      refine ⟨g1, dx1, gm1, upd_same, by rw [hgm1]; rfl, ⟨_, by rw [hgm1]; exact SqT.of (s1u _ _ hkpH)⟩, ⟨_, by rw [hgm1]; exact SqT.of (s1u _ _ hnt)⟩, ⟨_, by rw [hgm1]; exact SqT.of (s1u _ _ hwt)⟩, ⟨_, by rw [hgm1]; exact SqT.of (su1 _ _ hhd1)⟩, ⟨_, by rw [hgm1]; exact SqT.of (s1u _ _ hnt)⟩, ⟨[], by rw [hgm1]; exact t0_sq T.t0_Grammar_inner _⟩, ⟨[], by rw [hgm1]; exact t0_sq T.t0_Grammar_steps _⟩, rfl, ?_⟩
      have s1w := y1.trans sw1
      obtain ⟨HI, hHI⟩ : ∃ HI, HI = upd (upd (upd (upd HH hd1 (.tup (hid.map V.str))) dx1 (.own g1)) g1 (.ins T.C_Grammar dx1 [])) g1 (.ins T.C_Grammar dx1 (gfl gm1)) := ⟨_, rfl⟩
      rw [← hHI] at s1w hg1 sw1 ⊢
      have hhd1 := sw1 _ _ hhd1
      clear y1 su1 s1u nhd1 ng1 ndx1 hHI sw1
      refine ⟨_, rfl, _, rfl, _, rfl, _, rfl, ol, _, rfl, .inl ⟨SqL.of (s1w _ _ holH), fun hd2 nhd2 => ⟨_, rfl, rfl, rfl, fun g2 dx2 ng2 ndx2 hne2 => ?_⟩⟩⟩
      have y2 := same_upd (o := .tup (oth.map V.str)) nhd2
      have hhd2 : (upd HI hd2 (.tup (oth.map V.str))) hd2 = some (.tup (oth.map V.str)) := upd_same
      have su2 : Same (upd HI hd2 (.tup (oth.map V.str))) _ := (same_upd (o := .own g2) ndx2).trans (same_upd (o := .ins T.C_Grammar dx2 []) (by rw [upd_ne hne2.symm]; exact ng2))
      obtain ⟨gm2, hgm2⟩ : ∃ gm : Gm, gm = ⟨"drawn", " ", kp, nt, wt, hd2, nt, T.T0_Grammar_inner, T.T0_Grammar_steps⟩ := ⟨_, rfl⟩
      have sw2 : Same (upd HI hd2 (.tup (oth.map V.str))) (upd (upd (upd (upd HI hd2 (.tup (oth.map V.str))) dx2 (.own g2)) g2 (.ins T.C_Grammar dx2 [])) g2 (.ins T.C_Grammar dx2 (gfl gm2))) := by
        rw [upd_upd]
        exact (same_upd ndx2).trans (same_upd (by rw [upd_ne hne2.symm]; exact ng2))
      have hg2 : (upd (upd (upd (upd HI hd2 (.tup (oth.map V.str))) dx2 (.own g2)) g2 (.ins T.C_Grammar dx2 [])) g2 (.ins T.C_Grammar dx2 (gfl gm2))) g2 = some (.ins T.C_Grammar dx2 (gfl gm2)) := upd_same
      have s2u := (s1w.trans y2).trans su2
      refine ⟨g2, dx2, gm2, upd_same, by rw [hgm2]; rfl, ⟨_, by rw [hgm2]; exact SqT.of (s2u _ _ hkpH)⟩, ⟨_, by rw [hgm2]; exact SqT.of (s2u _ _ hnt)⟩, ⟨_, by rw [hgm2]; exact SqT.of (s2u _ _ hwt)⟩, ⟨_, by rw [hgm2]; exact SqT.of (su2 _ _ hhd2)⟩, ⟨_, by rw [hgm2]; exact SqT.of (s2u _ _ hnt)⟩, ⟨[], by rw [hgm2]; exact t0_sq T.t0_Grammar_inner _⟩, ⟨[], by rw [hgm2]; exact t0_sq T.t0_Grammar_steps _⟩, rfl, ?_⟩
      have s2w := y2.trans sw2
      obtain ⟨HJ, hHJ⟩ : ∃ HJ, HJ = upd (upd (upd (upd HI hd2 (.tup (oth.map V.str))) dx2 (.own g2)) g2 (.ins T.C_Grammar dx2 [])) g2 (.ins T.C_Grammar dx2 (gfl gm2)) := ⟨_, rfl⟩
      rw [← hHJ] at s2w hg2 sw2 ⊢
      have hhd2 := sw2 _ _ hhd2
      have sHJ := s1w.trans s2w
      have hhd1 := s2w _ _ hhd1
      have hg1 := s2w _ _ hg1
      have BCJ := BCH.trans (.of sHJ)
      have RJ := RH.same sHJ
      have hvlJ := sHJ _ _ hvlH
      have holJ := sHJ _ _ holH
      have hntJ := sHJ _ _ hnt
      have hwtJ := sHJ _ _ hwt
      have pwJ : Paired (WayAt HJ) wus al := Paired.mapP pwH fun _ _ x => x.tups (same_tps sHJ)
      have GI1 : GrIn K T.C_Grammar HJ g1 gm1 al hid := ⟨⟨dx1, hg1⟩, ⟨wus, by rw [hgm1]; exact hwtJ, pwJ⟩, by rw [hgm1]; exact hhd1, LI.sh⟩
      have GI2 : GrIn K T.C_Grammar HJ g2 gm2 al oth := ⟨⟨dx2, hg2⟩, ⟨wus, by rw [hgm2]; exact hwtJ, pwJ⟩, by rw [hgm2]; exact hhd2, LI.sh⟩
      have GM1 : GrMore HJ gm1 ss ns := ⟨⟨kus, by rw [hgm1]; exact sHJ _ _ hkpH, Paired.mapP pkH fun _ _ x => x.tups (same_tps sHJ)⟩, by rw [hgm1]; exact hntJ, ⟨_, by rw [hgm1]; exact hntJ⟩⟩
      clear s1w s2w s2u su2 y2 sw2 hHJ hkpH hnt hwt pkH pwH hvlH holH nhd2 ng2 ndx2 sHJ RH BCH
      have TIJ := TI.but BCJ RC nFr nmr
      have hGJ := BCJ _ _ LI.nG hGC
      have hLJ := BCJ _ _ nLr hLC
      have hakJ := BCJ _ _ LI.nak hakC
      have haks2 : ∀ k ∈ asks, k < rows.length := fun k hk => by rw [lrr]; exact haks k hk
      refine ⟨_, rfl, _, rfl, _, rfl, _, rfl, G, _, 1, .ref L, rfl, rfl, SqL.of hGJ, rfl, _, rfl, _, rfl, g1, vl, F, L, m, ak, gm1, us, rows, as, t, al, hid, labs, asks, rfl, GI1, TIJ, aok, lok, hLJ, hvlJ, hakJ, haks2, fun HK sK => ⟨true, rfl, iteF ?_⟩⟩
      refine ⟨_, rfl, _, rfl, _, rfl, _, rfl, G, _, 1, .ref L, rfl, rfl, SqL.of (sK _ _ hGJ), rfl, _, rfl, _, rfl, g2, ol, F, L, m, ak, gm2, us, rows, as, t, al, oth, labs, asks, rfl, GI2.same sK, TIJ.same sK, aok, lok, sK _ _ hLJ, sK _ _ holJ, sK _ _ hakJ, haks2, fun HM sM => ⟨true, rfl, iteF ?_⟩⟩
      have sJM := sK.trans sM
      have hg1M := sJM _ _ hg1
      have hg2M := sJM _ _ hg2
      have hhd1M := sJM _ _ hhd1
      have hwtM := sJM _ _ hwtJ
      have strI : ∀ (xs : List Str), ∀ v ∈ xs.map V.str, OwnOp.itemB v := fun xs v hv => by
        obtain ⟨x, _, rfl⟩ := List.mem_map.mp hv
        exact .inl rfl
      refine ⟨_, rfl, _, _, _, _, _, rfl, hg1M, T.CL_Grammar, T.NA_Grammar_hidden, gf_hidden _, _, rfl, vl, _, rfl, .inl ⟨SqL.of (sJM _ _ hvlJ), fun h3 nh3 => ⟨gm1.hd, h3, hid.map V.str, rfl, rfl, ?_, SqT.of upd_same, strI _, _, rfl, iteF ?_⟩⟩⟩
      · rw [hgm1]
        exact SqT.of (same_upd nh3 _ _ hhd1M)
      have y3 := same_upd (o := .tup (hid.map V.str)) nh3
      have hg1N := y3 _ _ hg1M
      have hg2N := y3 _ _ hg2M
      refine ⟨_, rfl, _, _, _, _, _, rfl, hg1N, T.CL_Grammar, T.NA_Grammar_alternatives, gf_alternatives _, _, rfl, gm1.al, wt, wus, rfl, rfl, ?_, SqT.of (y3 _ _ hwtM), ?_, _, rfl, iteF ?_⟩
      · rw [hgm1]
        exact SqT.of (y3 _ _ hwtM)
      · intro v hv
        obtain ⟨w, _, gw, _, _, rfl, _⟩ := paired_mem_l pwJ hv
        exact .inr ⟨gw, rfl⟩
      refine ⟨_, rfl, _, _, _, _, _, rfl, hg2N, T.CL_Grammar, T.NA_Grammar_hidden, gf_hidden _, _, rfl, ol, _, rfl, .inl ⟨SqL.of (y3 _ _ (sJM _ _ holJ)), fun h4 nh4 => ⟨gm2.hd, h4, oth.map V.str, rfl, rfl, ?_, SqT.of upd_same, strI _, _, rfl, iteF ?_⟩⟩⟩
      · rw [hgm2]
        exact SqT.of (same_upd nh4 _ _ (y3 _ _ (sJM _ _ hhd2)))
      have sJN := sJM.trans (y3.trans (same_upd (o := .tup (oth.map V.str)) nh4))
      obtain ⟨HN, hHN⟩ : ∃ HN, HN = upd (upd HM h3 (.tup (hid.map V.str))) h4 (.tup (oth.map V.str)) := ⟨_, rfl⟩
      rw [← hHN] at sJN ⊢
      have GIN := GI1.same sJN
      have GMN := GM1.tups (same_tps sJN)
      have TIN := TIJ.same sJN
      have RN := RJ.same sJN
      have hLN := sJN _ _ hLJ
      have hGN := sJN _ _ hGJ
      have hvlN := sJN _ _ hvlJ
      have hakN := sJN _ _ hakJ
      have hntN := sJN _ _ hntJ
      clear hHN y3 hg1M hg2M hg1N hg2N hhd1M hwtM sJM sK sM sJN TIJ GI1 GI2 GM1 RJ hLJ hGJ hvlJ hakJ nh3 nh4 BCJ hntJ hwtJ pwJ
      have hntN' : HN nt = some (.tup (ns.map V.str)) := hntN
      obtain ⟨n0, hn0⟩ := LI.n0
      have hn0' : (ns.map V.str)[0]? = some (.str n0) := by rw [List.getElem?_map, hn0]; rfl
      refine ⟨fun σ H' => But r HN H' ∧ ReelAt H' r ∧ ∃ y5 : Option V, σ = [some (.ref scr), some (.ref r), some (.int fv), some (.str (sg stem)), some (.ref nt), none, some (.ref sl), y7, some (.ref wt), y9, some (.ref G), some (.ref ak), y12, y13, none, some (.ref F), some (.ref m), some (.ref kp), some (.ref vl), y5, some (.ref ol), some (.ref g1), some (.ref g2)], ?_, ?_⟩
      · refine ts_ite (A := 0 < fv) (ts_gtI rfl) (fun hf => ?_) (fun hf => ?_)
        · obtain ⟨l110, sk1, lsk, ⟨xs0, hxs0, xsy, xst⟩, hrt⟩ := hpos hf
          have hrt2 : ∀ x, rows[0]? = some x → (x.2.kind = ("root" : Str) ↔ skip = 1) := fun x hx => by
            obtain ⟨x0, hx0, e⟩ := fit_get fe hx
            have := hrt x0 hx0
            rw [← fitE_kind e] at this
            exact this
          have hsk2 : ∃ x, rows[skip]? = some x ∧ x.2.sym ∈ ns ∧ 0 ≤ x.2.st := by
            obtain ⟨x, hx, e⟩ := fit_got fe hxs0
            exact ⟨x, hx, by rw [fitE_sym e]; exact xsy, by rw [fitE_st e]; exact xst⟩
          have hlab2 : ∀ {H' : Hp}, H' L = some (.lst (labs.map V.str)) → H' L = some (.lst ((labsT al t "").map V.str)) := fun h => by rw [hlabs]; exact h
          refine ⟨_, rfl, _, rfl, _, rfl, nt, _, 0, .str n0, rfl, rfl, SqT.of hntN, atI_nat (j := 0) hn0', _, rfl, _, rfl, _, rfl, G, _, 1, .ref L, rfl, rfl, SqL.of hGN, rfl, _, rfl, al, r, g1, vl, F, L, m, gm1, us, rows, as, t, hid, n0, skip, rfl, RN, GIN, TIN, fok, aok, hlab2 hLN, hvlN, by omega, by omega, sk1, hrt2, nFr, nmr, nLr, nvlr, fun HO bO RO => ⟨true, rfl, iteF ?_⟩⟩
          refine ⟨_, rfl, _, rfl, _, rfl, _, rfl, _, rfl, G, _, 1, .ref L, rfl, rfl, SqL.of (bO _ _ LI.nG hGN), rfl, _, rfl, al, ss, ns, r, g1, vl, F, L, m, gm1, us, rows, as, t, hid, skip, s0, n0, rfl, RO, GIN.but bO RN, GMN.tups (bO.tups RN), TIN.but bO RN nFr nmr, fok, aok, hlab2 (bO _ _ nLr hLN), bO _ _ nvlr hvlN, by omega, by omega, sk1, hrt2, hsk2, hs0, s0e, s0r, hn0, by omega, lns, lal0, lal, nFr, nmr, nLr, nvlr, fun HP bP RP => ⟨true, rfl, iteF ?_⟩⟩
          exact ⟨bO.trans bP, RP, _, rfl⟩
        · exact ⟨.refl _ _, RN, _, rfl⟩
      · rintro σ HO ⟨bO, RO, y5, rfl⟩
        refine ⟨_, rfl, _, rfl, _, rfl, _, rfl, G, _, 1, .ref L, rfl, rfl, SqL.of (bO _ _ LI.nG hGN), rfl, _, rfl, _, rfl, no_part ⟨_, rfl, ak, _, rfl, SqL.of (bO _ _ LI.nak hakN), fun z1 nz1 => ?_⟩⟩
        have sz := same_upd (o := .lst (cutV ((natsZ asks).map V.int) none (some 2))) nz1
        have ecz : cutV ((natsZ asks).map V.int) none (some 2) = (natsZ (asks.take 2)).map V.int := by
          rw [show (2 : Int) = ((2 : Nat) : Int) from rfl, cutV_takeA, ← List.map_take]
          unfold natsZ
          rw [← List.map_take]
        refine ⟨g1, vl, F, L, m, z1, gm1, us, rows, as, t, al, hid, labs, asks.take 2, rfl, (GIN.but bO RN).same sz, (TIN.but bO RN nFr nmr).same sz, aok, lok, sz _ _ (bO _ _ nLr hLN), sz _ _ (bO _ _ nvlr hvlN), by rw [upd_same, ecz], fun k hk => haks2 k (List.mem_of_mem_take hk), fun H' s' => q H'⟩

theorem ok_top (T : Txt K mg) : FnOk P w K mg base CX0 11 T.a_law T.fd_law ["script"] (spLaw K) := ok_law T
end
theorem all_mk {l : PySem.W.OpenLaw} {w : World} {K : PySem.W.Frag} {h : Heap} {mg : Str → Option Value} {fa : Addr} (X : K.In h) (G : h.Ns mainGlobals mg) (hfa : mg "law" = some (.ref fa))
    {C_Node : Addr} (g_Node : PySem.W.nsIn K mainGlobals "Node" = some (some (.ref C_Node)))
    {C_Grammar : Addr} (g_Grammar : PySem.W.nsIn K mainGlobals "Grammar" = some (some (.ref C_Grammar)))
    {f0 : Addr} {od0 an0 : Option Addr} {sl0 : Array (Option Value)} {oc0 kV0 dc0 pm0 cd0 ct0 : Value}
    {f1 : Addr} {od1 an1 : Option Addr} {sl1 : Array (Option Value)} {oc1 kV1 dc1 pm1 cd1 ct1 : Value}
    {f2 : Addr} {od2 an2 : Option Addr} {sl2 : Array (Option Value)} {oc2 dc2 pm2 cd2 ct2 : Value}
    {kD2 : Addr}
    {f3 : Addr} {od3 an3 : Option Addr} {sl3 : Array (Option Value)} {oc3 dc3 pm3 cd3 ct3 : Value}
    {kD3 : Addr}
    {f4 : Addr} {od4 an4 : Option Addr} {sl4 : Array (Option Value)} {oc4 kV4 dc4 pm4 cd4 ct4 : Value}
    {f5 : Addr} {od5 an5 : Option Addr} {sl5 : Array (Option Value)} {oc5 kV5 dc5 pm5 cd5 ct5 : Value}
    {f6 : Addr} {od6 an6 : Option Addr} {sl6 : Array (Option Value)} {oc6 kV6 dc6 pm6 cd6 ct6 : Value}
    {f7 : Addr} {od7 an7 : Option Addr} {sl7 : Array (Option Value)} {oc7 kV7 dc7 pm7 cd7 ct7 : Value}
    {f8 : Addr} {od8 an8 : Option Addr} {sl8 : Array (Option Value)} {oc8 kV8 dc8 pm8 cd8 ct8 : Value}
    {f9 : Addr} {od9 an9 : Option Addr} {sl9 : Array (Option Value)} {oc9 kV9 dc9 pm9 cd9 ct9 : Value}
    {f10 : Addr} {od10 an10 : Option Addr} {sl10 : Array (Option Value)} {oc10 kV10 dc10 pm10 cd10 ct10 : Value}
    {f11 : Addr} {od11 an11 : Option Addr} {sl11 : Array (Option Value)} {oc11 kV11 dc11 pm11 cd11 ct11 : Value}
    {f12 : Addr} {od12 an12 : Option Addr} {sl12 : Array (Option Value)} {oc12 kV12 dc12 pm12 cd12 ct12 : Value}
    {f13 : Addr} {od13 an13 : Option Addr} {sl13 : Array (Option Value)} {oc13 kV13 dc13 pm13 cd13 ct13 : Value}
    {f14 : Addr} {od14 an14 : Option Addr} {sl14 : Array (Option Value)} {oc14 kV14 dc14 pm14 cd14 ct14 : Value}
    {f15 : Addr} {od15 an15 : Option Addr} {sl15 : Array (Option Value)} {oc15 kV15 dc15 pm15 cd15 ct15 : Value}
    {f16 : Addr} {od16 an16 : Option Addr} {sl16 : Array (Option Value)} {oc16 kV16 dc16 pm16 cd16 ct16 : Value}
    {f17 : Addr} {od17 an17 : Option Addr} {sl17 : Array (Option Value)} {oc17 kV17 dc17 pm17 cd17 ct17 : Value}
    {f18 : Addr} {od18 an18 : Option Addr} {sl18 : Array (Option Value)} {oc18 kV18 dc18 pm18 cd18 ct18 : Value}
    {f19 : Addr} {od19 an19 : Option Addr} {sl19 : Array (Option Value)} {oc19 kV19 dc19 pm19 cd19 ct19 : Value}
    {f20 : Addr} {od20 an20 : Option Addr} {sl20 : Array (Option Value)} {oc20 kV20 dc20 pm20 cd20 ct20 : Value}
    {f21 : Addr} {od21 an21 : Option Addr} {sl21 : Array (Option Value)} {oc21 kV21 dc21 pm21 cd21 ct21 : Value}
    {f22 : Addr} {od22 an22 : Option Addr} {sl22 : Array (Option Value)} {oc22 kV22 dc22 pm22 cd22 ct22 : Value}
    {f23 : Addr} {od23 an23 : Option Addr} {sl23 : Array (Option Value)} {oc23 kV23 dc23 pm23 cd23 ct23 : Value}
    {f24 : Addr} {od24 an24 : Option Addr} {sl24 : Array (Option Value)} {oc24 kV24 dc24 pm24 cd24 ct24 : Value}
    {f25 : Addr} {od25 an25 : Option Addr} {sl25 : Array (Option Value)} {oc25 kV25 dc25 pm25 cd25 ct25 : Value}
    {f26 : Addr} {od26 an26 : Option Addr} {sl26 : Array (Option Value)} {oc26 kV26 dc26 pm26 cd26 ct26 : Value}
    (a0 : PySem.W.nsIn K mainGlobals "seen" = some (some (.ref f0)))
    (l0 : K.lookup f0 = some ⟨oc0, od0, .func (PySem.W.fnOf "seen" "seen" (defArgs s_seen) (defBody s_seen) (defScope s_seen) .none kV0 dc0 pm0 an0 cd0 ct0), sl0⟩) (c0 : PySem.W.codeIn K cd0 "seen" = true) (k0 : PySem.W.keepIn K (.ref f0) = true)
    (a1 : PySem.W.nsIn K mainGlobals "_children" = some (some (.ref f1)))
    (l1 : K.lookup f1 = some ⟨oc1, od1, .func (PySem.W.fnOf "_children" "_children" (defArgs s_children) (defBody s_children) (defScope s_children) .none kV1 dc1 pm1 an1 cd1 ct1), sl1⟩) (c1 : PySem.W.codeIn K cd1 "_children" = true) (k1 : PySem.W.keepIn K (.ref f1) = true)
    (a2 : PySem.W.findIn K (.ref C_Grammar) "__init__" = some (some (.ref f2)))
    (l2 : K.lookup f2 = some ⟨oc2, od2, .func (PySem.W.fnOf "__init__" "Grammar.__init__" (defArgs s_Grammar_init) (defBody s_Grammar_init) (defScope s_Grammar_init) .none (.ref kD2) dc2 pm2 an2 cd2 ct2), sl2⟩) (c2 : PySem.W.codeIn K cd2 "Grammar.__init__" = true) (k2 : PySem.W.keepIn K (.ref f2) = true)
    {kk2_skip : Tok} (kd2_skip : PySem.W.nsIn K kD2 "skip" = some (some (.str "" kk2_skip)))
    {kT2_hidden : Addr} {koc2_hidden : Option Addr} {kn2_hidden : Nat} {ksl2_hidden : Array (Option Value)} (kd2_hidden : PySem.W.nsIn K kD2 "hidden" = some (some (.ref kT2_hidden))) (kt2_hidden : K.lookup kT2_hidden = some ⟨.type "tuple", koc2_hidden, .seq #[] kn2_hidden, ksl2_hidden⟩)
    {kT2_recover : Addr} {koc2_recover : Option Addr} {kn2_recover : Nat} {ksl2_recover : Array (Option Value)} (kd2_recover : PySem.W.nsIn K kD2 "recover" = some (some (.ref kT2_recover))) (kt2_recover : K.lookup kT2_recover = some ⟨.type "tuple", koc2_recover, .seq #[] kn2_recover, ksl2_recover⟩)
    {kT2_inner : Addr} {koc2_inner : Option Addr} {kn2_inner : Nat} {ksl2_inner : Array (Option Value)} (kd2_inner : PySem.W.nsIn K kD2 "inner" = some (some (.ref kT2_inner))) (kt2_inner : K.lookup kT2_inner = some ⟨.type "tuple", koc2_inner, .seq #[] kn2_inner, ksl2_inner⟩)
    {kT2_steps : Addr} {koc2_steps : Option Addr} {kn2_steps : Nat} {ksl2_steps : Array (Option Value)} (kd2_steps : PySem.W.nsIn K kD2 "steps" = some (some (.ref kT2_steps))) (kt2_steps : K.lookup kT2_steps = some ⟨.type "tuple", koc2_steps, .seq #[] kn2_steps, ksl2_steps⟩)
    (a3 : PySem.W.findIn K (.ref C_Node) "__init__" = some (some (.ref f3)))
    (l3 : K.lookup f3 = some ⟨oc3, od3, .func (PySem.W.fnOf "__init__" "Node.__init__" (defArgs s_Node_init) (defBody s_Node_init) (defScope s_Node_init) .none (.ref kD3) dc3 pm3 an3 cd3 ct3), sl3⟩) (c3 : PySem.W.codeIn K cd3 "Node.__init__" = true) (k3 : PySem.W.keepIn K (.ref f3) = true)
    {kk3_alternative : Tok} (kd3_alternative : PySem.W.nsIn K kD3 "alternative" = some (some (.int (-1) kk3_alternative)))
    {kT3 : Addr} {koc3 : Option Addr} {kn3 : Nat} {ksl3 : Array (Option Value)} (kd3_nodes : PySem.W.nsIn K kD3 "nodes" = some (some (.ref kT3))) (kt3 : K.lookup kT3 = some ⟨.type "tuple", koc3, .seq #[] kn3, ksl3⟩)
    {kk3_popped : Tok} (kd3_popped : PySem.W.nsIn K kD3 "popped" = some (some (.int (0) kk3_popped)))
    (a4 : PySem.W.nsIn K mainGlobals "_law_reel" = some (some (.ref f4)))
    (l4 : K.lookup f4 = some ⟨oc4, od4, .func (PySem.W.fnOf "_law_reel" "_law_reel" (defArgs s_law_reel) (defBody s_law_reel) (defScope s_law_reel) .none kV4 dc4 pm4 an4 cd4 ct4), sl4⟩) (c4 : PySem.W.codeIn K cd4 "_law_reel" = true) (k4 : PySem.W.keepIn K (.ref f4) = true)
    (a5 : PySem.W.nsIn K mainGlobals "_law_draw" = some (some (.ref f5)))
    (l5 : K.lookup f5 = some ⟨oc5, od5, .func (PySem.W.fnOf "_law_draw" "_law_draw" (defArgs s_law_draw) (defBody s_law_draw) (defScope s_law_draw) .none kV5 dc5 pm5 an5 cd5 ct5), sl5⟩) (c5 : PySem.W.codeIn K cd5 "_law_draw" = true) (k5 : PySem.W.keepIn K (.ref f5) = true)
    (a6 : PySem.W.nsIn K mainGlobals "_law_pick" = some (some (.ref f6)))
    (l6 : K.lookup f6 = some ⟨oc6, od6, .func (PySem.W.fnOf "_law_pick" "_law_pick" (defArgs s_law_pick) (defBody s_law_pick) (defScope s_law_pick) .none kV6 dc6 pm6 an6 cd6 ct6), sl6⟩) (c6 : PySem.W.codeIn K cd6 "_law_pick" = true) (k6 : PySem.W.keepIn K (.ref f6) = true)
    (a7 : PySem.W.nsIn K mainGlobals "_law_label" = some (some (.ref f7)))
    (l7 : K.lookup f7 = some ⟨oc7, od7, .func (PySem.W.fnOf "_law_label" "_law_label" (defArgs s_law_label) (defBody s_law_label) (defScope s_law_label) .none kV7 dc7 pm7 an7 cd7 ct7), sl7⟩) (c7 : PySem.W.codeIn K cd7 "_law_label" = true) (k7 : PySem.W.keepIn K (.ref f7) = true)
    (a8 : PySem.W.nsIn K mainGlobals "_law_way" = some (some (.ref f8)))
    (l8 : K.lookup f8 = some ⟨oc8, od8, .func (PySem.W.fnOf "_law_way" "_law_way" (defArgs s_law_way) (defBody s_law_way) (defScope s_law_way) .none kV8 dc8 pm8 an8 cd8 ct8), sl8⟩) (c8 : PySem.W.codeIn K cd8 "_law_way" = true) (k8 : PySem.W.keepIn K (.ref f8) = true)
    (a9 : PySem.W.nsIn K mainGlobals "_law_ways" = some (some (.ref f9)))
    (l9 : K.lookup f9 = some ⟨oc9, od9, .func (PySem.W.fnOf "_law_ways" "_law_ways" (defArgs s_law_ways) (defBody s_law_ways) (defScope s_law_ways) .none kV9 dc9 pm9 an9 cd9 ct9), sl9⟩) (c9 : PySem.W.codeIn K cd9 "_law_ways" = true) (k9 : PySem.W.keepIn K (.ref f9) = true)
    (a10 : PySem.W.nsIn K mainGlobals "_law_leaf_row" = some (some (.ref f10)))
    (l10 : K.lookup f10 = some ⟨oc10, od10, .func (PySem.W.fnOf "_law_leaf_row" "_law_leaf_row" (defArgs s_law_leaf_row) (defBody s_law_leaf_row) (defScope s_law_leaf_row) .none kV10 dc10 pm10 an10 cd10 ct10), sl10⟩) (c10 : PySem.W.codeIn K cd10 "_law_leaf_row" = true) (k10 : PySem.W.keepIn K (.ref f10) = true)
    (a11 : PySem.W.nsIn K mainGlobals "_law_grown" = some (some (.ref f11)))
    (l11 : K.lookup f11 = some ⟨oc11, od11, .func (PySem.W.fnOf "_law_grown" "_law_grown" (defArgs s_law_grown) (defBody s_law_grown) (defScope s_law_grown) .none kV11 dc11 pm11 an11 cd11 ct11), sl11⟩) (c11 : PySem.W.codeIn K cd11 "_law_grown" = true) (k11 : PySem.W.keepIn K (.ref f11) = true)
    (a12 : PySem.W.nsIn K mainGlobals "_law_deep" = some (some (.ref f12)))
    (l12 : K.lookup f12 = some ⟨oc12, od12, .func (PySem.W.fnOf "_law_deep" "_law_deep" (defArgs s_law_deep) (defBody s_law_deep) (defScope s_law_deep) .none kV12 dc12 pm12 an12 cd12 ct12), sl12⟩) (c12 : PySem.W.codeIn K cd12 "_law_deep" = true) (k12 : PySem.W.keepIn K (.ref f12) = true)
    (a13 : PySem.W.nsIn K mainGlobals "_law_rooted" = some (some (.ref f13)))
    (l13 : K.lookup f13 = some ⟨oc13, od13, .func (PySem.W.fnOf "_law_rooted" "_law_rooted" (defArgs s_law_rooted) (defBody s_law_rooted) (defScope s_law_rooted) .none kV13 dc13 pm13 an13 cd13 ct13), sl13⟩) (c13 : PySem.W.codeIn K cd13 "_law_rooted" = true) (k13 : PySem.W.keepIn K (.ref f13) = true)
    (a14 : PySem.W.nsIn K mainGlobals "_law_is_leaf" = some (some (.ref f14)))
    (l14 : K.lookup f14 = some ⟨oc14, od14, .func (PySem.W.fnOf "_law_is_leaf" "_law_is_leaf" (defArgs s_law_is_leaf) (defBody s_law_is_leaf) (defScope s_law_is_leaf) .none kV14 dc14 pm14 an14 cd14 ct14), sl14⟩) (c14 : PySem.W.codeIn K cd14 "_law_is_leaf" = true) (k14 : PySem.W.keepIn K (.ref f14) = true)
    (a15 : PySem.W.nsIn K mainGlobals "_law_fitted" = some (some (.ref f15)))
    (l15 : K.lookup f15 = some ⟨oc15, od15, .func (PySem.W.fnOf "_law_fitted" "_law_fitted" (defArgs s_law_fitted) (defBody s_law_fitted) (defScope s_law_fitted) .none kV15 dc15 pm15 an15 cd15 ct15), sl15⟩) (c15 : PySem.W.codeIn K cd15 "_law_fitted" = true) (k15 : PySem.W.keepIn K (.ref f15) = true)
    (a16 : PySem.W.nsIn K mainGlobals "_law_made" = some (some (.ref f16)))
    (l16 : K.lookup f16 = some ⟨oc16, od16, .func (PySem.W.fnOf "_law_made" "_law_made" (defArgs s_law_made) (defBody s_law_made) (defScope s_law_made) .none kV16 dc16 pm16 an16 cd16 ct16), sl16⟩) (c16 : PySem.W.codeIn K cd16 "_law_made" = true) (k16 : PySem.W.keepIn K (.ref f16) = true)
    (a17 : PySem.W.nsIn K mainGlobals "_law_kids" = some (some (.ref f17)))
    (l17 : K.lookup f17 = some ⟨oc17, od17, .func (PySem.W.fnOf "_law_kids" "_law_kids" (defArgs s_law_kids) (defBody s_law_kids) (defScope s_law_kids) .none kV17 dc17 pm17 an17 cd17 ct17), sl17⟩) (c17 : PySem.W.codeIn K cd17 "_law_kids" = true) (k17 : PySem.W.keepIn K (.ref f17) = true)
    (a18 : PySem.W.nsIn K mainGlobals "_law_end" = some (some (.ref f18)))
    (l18 : K.lookup f18 = some ⟨oc18, od18, .func (PySem.W.fnOf "_law_end" "_law_end" (defArgs s_law_end) (defBody s_law_end) (defScope s_law_end) .none kV18 dc18 pm18 an18 cd18 ct18), sl18⟩) (c18 : PySem.W.codeIn K cd18 "_law_end" = true) (k18 : PySem.W.keepIn K (.ref f18) = true)
    (a19 : PySem.W.nsIn K mainGlobals "_law_places" = some (some (.ref f19)))
    (l19 : K.lookup f19 = some ⟨oc19, od19, .func (PySem.W.fnOf "_law_places" "_law_places" (defArgs s_law_places) (defBody s_law_places) (defScope s_law_places) .none kV19 dc19 pm19 an19 cd19 ct19), sl19⟩) (c19 : PySem.W.codeIn K cd19 "_law_places" = true) (k19 : PySem.W.keepIn K (.ref f19) = true)
    (a20 : PySem.W.nsIn K mainGlobals "_law_ups" = some (some (.ref f20)))
    (l20 : K.lookup f20 = some ⟨oc20, od20, .func (PySem.W.fnOf "_law_ups" "_law_ups" (defArgs s_law_ups) (defBody s_law_ups) (defScope s_law_ups) .none kV20 dc20 pm20 an20 cd20 ct20), sl20⟩) (c20 : PySem.W.codeIn K cd20 "_law_ups" = true) (k20 : PySem.W.keepIn K (.ref f20) = true)
    (a21 : PySem.W.nsIn K mainGlobals "_law_seen" = some (some (.ref f21)))
    (l21 : K.lookup f21 = some ⟨oc21, od21, .func (PySem.W.fnOf "_law_seen" "_law_seen" (defArgs s_law_seen) (defBody s_law_seen) (defScope s_law_seen) .none kV21 dc21 pm21 an21 cd21 ct21), sl21⟩) (c21 : PySem.W.codeIn K cd21 "_law_seen" = true) (k21 : PySem.W.keepIn K (.ref f21) = true)
    (a22 : PySem.W.nsIn K mainGlobals "_law_is" = some (some (.ref f22)))
    (l22 : K.lookup f22 = some ⟨oc22, od22, .func (PySem.W.fnOf "_law_is" "_law_is" (defArgs s_law_is) (defBody s_law_is) (defScope s_law_is) .none kV22 dc22 pm22 an22 cd22 ct22), sl22⟩) (c22 : PySem.W.codeIn K cd22 "_law_is" = true) (k22 : PySem.W.keepIn K (.ref f22) = true)
    (a23 : PySem.W.nsIn K mainGlobals "_law_agrees" = some (some (.ref f23)))
    (l23 : K.lookup f23 = some ⟨oc23, od23, .func (PySem.W.fnOf "_law_agrees" "_law_agrees" (defArgs s_law_agrees) (defBody s_law_agrees) (defScope s_law_agrees) .none kV23 dc23 pm23 an23 cd23 ct23), sl23⟩) (c23 : PySem.W.codeIn K cd23 "_law_agrees" = true) (k23 : PySem.W.keepIn K (.ref f23) = true)
    (a24 : PySem.W.nsIn K mainGlobals "_law_twice_holds" = some (some (.ref f24)))
    (l24 : K.lookup f24 = some ⟨oc24, od24, .func (PySem.W.fnOf "_law_twice_holds" "_law_twice_holds" (defArgs s_law_twice_holds) (defBody s_law_twice_holds) (defScope s_law_twice_holds) .none kV24 dc24 pm24 an24 cd24 ct24), sl24⟩) (c24 : PySem.W.codeIn K cd24 "_law_twice_holds" = true) (k24 : PySem.W.keepIn K (.ref f24) = true)
    (a25 : PySem.W.nsIn K mainGlobals "_law_labelled_holds" = some (some (.ref f25)))
    (l25 : K.lookup f25 = some ⟨oc25, od25, .func (PySem.W.fnOf "_law_labelled_holds" "_law_labelled_holds" (defArgs s_law_labelled_holds) (defBody s_law_labelled_holds) (defScope s_law_labelled_holds) .none kV25 dc25 pm25 an25 cd25 ct25), sl25⟩) (c25 : PySem.W.codeIn K cd25 "_law_labelled_holds" = true) (k25 : PySem.W.keepIn K (.ref f25) = true)
    (a26 : PySem.W.nsIn K mainGlobals "law" = some (some (.ref f26)))
    (l26 : K.lookup f26 = some ⟨oc26, od26, .func (PySem.W.fnOf "law" "law" (defArgs s_law) (defBody s_law) (defScope s_law) .none kV26 dc26 pm26 an26 cd26 ct26), sl26⟩) (c26 : PySem.W.codeIn K cd26 "law" = true) (k26 : PySem.W.keepIn K (.ref f26) = true)
    (hn : PySem.W.specialIn K (.builtin "object.__class__") "__get__" = some (some (.builtin "getset_descriptor.__get__"))) (ht : PySem.W.takesIn K (.builtin "object.__class__") = some true)
    (pg_Node : PySem.W.plainGet K C_Node Str.empty = true)
    (hdo_Node : PySem.W.hasDictIn K C_Node = true)
    (po_Node : PySem.W.plainOver K C_Node = true)
    (sao_Node : PySem.W.findIn K (.ref C_Node) "__setattr__" = some (some (.builtin "object.__setattr__")))
    (mkC_Node : PySem.W.makesIn K C_Node = true)
    (kcC_Node : PySem.W.keepIn K (.ref C_Node) = true)
    (ha_Node : PySem.W.findIn K (.ref C_Node) "__class__" = some (some (.builtin "object.__class__")))
    (hm_Node : PySem.W.mroIn K C_Node (.type "object") = some true)
    (sC_Node : PySem.W.subIn K (.ref C_Node) (.ref C_Node) = some true)
    (iC_Node : PySem.W.isClsIn K C_Node = true)
    (tY_Node : PySem.W.typeIn K (.ref C_Node) = some (.type "type"))
    (na_Node_kind : PySem.W.findIn K (.ref C_Node) "kind" = some none)
    (na_Node_symbol : PySem.W.findIn K (.ref C_Node) "symbol" = some none)
    (na_Node_state : PySem.W.findIn K (.ref C_Node) "state" = some none)
    (na_Node_lead : PySem.W.findIn K (.ref C_Node) "lead" = some none)
    (na_Node_width : PySem.W.findIn K (.ref C_Node) "width" = some none)
    (na_Node_look : PySem.W.findIn K (.ref C_Node) "look" = some none)
    (na_Node_alternative : PySem.W.findIn K (.ref C_Node) "alternative" = some none)
    (na_Node_nodes : PySem.W.findIn K (.ref C_Node) "nodes" = some none)
    (na_Node_popped : PySem.W.findIn K (.ref C_Node) "popped" = some none)
    (if_Node__init__ : PySem.W.isFn K (.ref f3) = true)
    (pg_Grammar : PySem.W.plainGet K C_Grammar Str.empty = true)
    (hdo_Grammar : PySem.W.hasDictIn K C_Grammar = true)
    (po_Grammar : PySem.W.plainOver K C_Grammar = true)
    (sao_Grammar : PySem.W.findIn K (.ref C_Grammar) "__setattr__" = some (some (.builtin "object.__setattr__")))
    (mkC_Grammar : PySem.W.makesIn K C_Grammar = true)
    (kcC_Grammar : PySem.W.keepIn K (.ref C_Grammar) = true)
    (ha_Grammar : PySem.W.findIn K (.ref C_Grammar) "__class__" = some (some (.builtin "object.__class__")))
    (hm_Grammar : PySem.W.mroIn K C_Grammar (.type "object") = some true)
    (sC_Grammar : PySem.W.subIn K (.ref C_Grammar) (.ref C_Grammar) = some true)
    (iC_Grammar : PySem.W.isClsIn K C_Grammar = true)
    (tY_Grammar : PySem.W.typeIn K (.ref C_Grammar) = some (.type "type"))
    (na_Grammar_name : PySem.W.findIn K (.ref C_Grammar) "name" = some none)
    (na_Grammar_skip : PySem.W.findIn K (.ref C_Grammar) "skip" = some none)
    (na_Grammar_kinds : PySem.W.findIn K (.ref C_Grammar) "kinds" = some none)
    (na_Grammar_rules : PySem.W.findIn K (.ref C_Grammar) "rules" = some none)
    (na_Grammar_alternatives : PySem.W.findIn K (.ref C_Grammar) "alternatives" = some none)
    (na_Grammar_hidden : PySem.W.findIn K (.ref C_Grammar) "hidden" = some none)
    (na_Grammar_recover : PySem.W.findIn K (.ref C_Grammar) "recover" = some none)
    (na_Grammar_inner : PySem.W.findIn K (.ref C_Grammar) "inner" = some none)
    (na_Grammar_steps : PySem.W.findIn K (.ref C_Grammar) "steps" = some none)
    (if_Grammar__init__ : PySem.W.isFn K (.ref f2) = true)
    (z0 : PySem.W.nsIn K mainGlobals "range" = some none)
    (z1 : PySem.W.nsIn K mainGlobals "min" = some none)
    (z2 : PySem.W.nsIn K mainGlobals "max" = some none)
    (z3 : PySem.W.nsIn K mainGlobals "len" = some none)
    (z4 : PySem.W.nsIn K mainGlobals "abs" = some none)
    (z5 : PySem.W.nsIn K mainGlobals "int" = some none)
    (z6 : PySem.W.nsIn K mainGlobals "sum" = some none)
    (z7 : PySem.W.nsIn K mainGlobals "isinstance" = some none)
    (z8 : PySem.W.nsIn K mainGlobals "bool" = some none)
    (z9 : PySem.W.nsIn K mainGlobals "list" = some none)
    (z10 : PySem.W.nsIn K mainGlobals "tuple" = some none)
    (z11 : PySem.W.nsIn K mainGlobals "str" = some none)
    (z12 : PySem.W.nsIn K mainGlobals "zip" = some none)
    : ∃ fd : FuncData, (∀ (s : Shared) (v : Value), BindsTo s fd ⟨[v], []⟩ [("script", v)]) ∧ ∀ base : Heap, K.In base → base.Ns mainGlobals mg → FnOk l.prog w K mg base CX0 11 fa fd ["script"] (spLaw K) := by
  have e := hfa.symm.trans (PySem.W.mg_of X G a26)
  cases e
  have F0 := fun_mk (st := s_seen) l0 c0 k0
  have b0 := F0.binds (ps := ["grammar", "node"]) fun _ _ _ _ _ _ us hl => match us, hl with | [_, _], _ => rfl
  have F1 := fun_mk (st := s_children) l1 c1 k1
  have b1 := F1.binds (ps := ["grammar", "node", "offset", "outer"]) fun _ _ _ _ _ _ us hl => match us, hl with | [_, _, _, _], _ => rfl
  have F2 := fun_mk (st := s_Grammar_init) l2 c2 k2
  have F3 := fun_mk (st := s_Node_init) l3 c3 k3
  have F4 := fun_mk (st := s_law_reel) l4 c4 k4
  have b4 := F4.binds (ps := ["script"]) fun _ _ _ _ _ _ us hl => match us, hl with | [_], _ => rfl
  have F5 := fun_mk (st := s_law_draw) l5 c5 k5
  have b5 := F5.binds (ps := ["reel", "size"]) fun _ _ _ _ _ _ us hl => match us, hl with | [_, _], _ => rfl
  have F6 := fun_mk (st := s_law_pick) l6 c6 k6
  have b6 := F6.binds (ps := ["reel", "row"]) fun _ _ _ _ _ _ us hl => match us, hl with | [_, _], _ => rfl
  have F7 := fun_mk (st := s_law_label) l7 c7 k7
  have b7 := F7.binds (ps := ["reel"]) fun _ _ _ _ _ _ us hl => match us, hl with | [_], _ => rfl
  have F8 := fun_mk (st := s_law_way) l8 c8 k8
  have b8 := F8.binds (ps := ["reel", "name", "row"]) fun _ _ _ _ _ _ us hl => match us, hl with | [_, _, _], _ => rfl
  have F9 := fun_mk (st := s_law_ways) l9 c9 k9
  have b9 := F9.binds (ps := ["reel", "names", "sorts"]) fun _ _ _ _ _ _ us hl => match us, hl with | [_, _, _], _ => rfl
  have F10 := fun_mk (st := s_law_leaf_row) l10 c10 k10
  have b10 := F10.binds (ps := ["reel", "level", "symbol", "skipped"]) fun _ _ _ _ _ _ us hl => match us, hl with | [_, _, _, _], _ => rfl
  have F11 := fun_mk (st := s_law_grown) l11 c11 k11
  have b11 := F11.binds (ps := ["reel", "names", "sorts", "ways", "start", "depth"]) fun _ _ _ _ _ _ us hl => match us, hl with | [_, _, _, _, _, _], _ => rfl
  have F12 := fun_mk (st := s_law_deep) l12 c12 k12
  have b12 := F12.binds (ps := ["reel", "ways", "sort", "deep"]) fun _ _ _ _ _ _ us hl => match us, hl with | [_, _, _, _], _ => rfl
  have F13 := fun_mk (st := s_law_rooted) l13 c13 k13
  have b13 := F13.binds (ps := ["reel", "grown"]) fun _ _ _ _ _ _ us hl => match us, hl with | [_, _], _ => rfl
  have F14 := fun_mk (st := s_law_is_leaf) l14 c14 k14
  have b14 := F14.binds (ps := ["row"]) fun _ _ _ _ _ _ us hl => match us, hl with | [_], _ => rfl
  have F15 := fun_mk (st := s_law_fitted) l15 c15 k15
  have b15 := F15.binds (ps := ["rows"]) fun _ _ _ _ _ _ us hl => match us, hl with | [_], _ => rfl
  have F16 := fun_mk (st := s_law_made) l16 c16 k16
  have b16 := F16.binds (ps := ["rows"]) fun _ _ _ _ _ _ us hl => match us, hl with | [_], _ => rfl
  have F17 := fun_mk (st := s_law_kids) l17 c17 k17
  have b17 := F17.binds (ps := ["rows"]) fun _ _ _ _ _ _ us hl => match us, hl with | [_], _ => rfl
  have F18 := fun_mk (st := s_law_end) l18 c18 k18
  have b18 := F18.binds (ps := ["rows", "at"]) fun _ _ _ _ _ _ us hl => match us, hl with | [_, _], _ => rfl
  have F19 := fun_mk (st := s_law_places) l19 c19 k19
  have b19 := F19.binds (ps := ["rows", "start"]) fun _ _ _ _ _ _ us hl => match us, hl with | [_, _], _ => rfl
  have F20 := fun_mk (st := s_law_ups) l20 c20 k20
  have b20 := F20.binds (ps := ["rows"]) fun _ _ _ _ _ _ us hl => match us, hl with | [_], _ => rfl
  have F21 := fun_mk (st := s_law_seen) l21 c21 k21
  have b21 := F21.binds (ps := ["rows", "labels", "places", "ups", "veiled", "at"]) fun _ _ _ _ _ _ us hl => match us, hl with | [_, _, _, _, _, _], _ => rfl
  have F22 := fun_mk (st := s_law_is) l22 c22 k22
  have b22 := F22.binds (ps := ["told", "due", "made"]) fun _ _ _ _ _ _ us hl => match us, hl with | [_, _, _], _ => rfl
  have F23 := fun_mk (st := s_law_agrees) l23 c23 k23
  have b23 := F23.binds (ps := ["grammar", "veiled", "rows", "labels", "made", "asked"]) fun _ _ _ _ _ _ us hl => match us, hl with | [_, _, _, _, _, _], _ => rfl
  have F24 := fun_mk (st := s_law_twice_holds) l24 c24 k24
  have b24 := F24.binds (ps := ["reel", "grammar", "name", "veiled", "rows", "labels", "made"]) fun _ _ _ _ _ _ us hl => match us, hl with | [_, _, _, _, _, _, _], _ => rfl
  have F25 := fun_mk (st := s_law_labelled_holds) l25 c25 k25
  have b25 := F25.binds (ps := ["reel", "grammar", "veiled", "rows", "labels", "made"]) fun _ _ _ _ _ _ us hl => match us, hl with | [_, _, _, _, _, _], _ => rfl
  have F26 := fun_mk (st := s_law) l26 c26 k26
  have b26 := F26.binds (ps := ["script"]) fun _ _ _ _ _ _ us hl => match us, hl with | [_], _ => rfl
  let T : Txt K mg :=
    { C_Node := C_Node,
      G_Node := PySem.W.mg_of X G g_Node,
      C_Grammar := C_Grammar,
      G_Grammar := PySem.W.mg_of X G g_Grammar,
      a_seen := _, fd_seen := _, F_seen := F0, b_seen := b0, g_seen := PySem.W.mg_of X G a0,
      a_children := _, fd_children := _, F_children := F1, b_children := b1, g_children := PySem.W.mg_of X G a1,
      a_Grammar_init := _, fd_Grammar_init := _, F_Grammar_init := F2, T0_Grammar_hidden := kT2_hidden, t0_Grammar_hidden := ⟨_, _, _, kt2_hidden⟩, T0_Grammar_recover := kT2_recover, t0_Grammar_recover := ⟨_, _, _, kt2_recover⟩, T0_Grammar_inner := kT2_inner, t0_Grammar_inner := ⟨_, _, _, kt2_inner⟩, T0_Grammar_steps := kT2_steps, t0_Grammar_steps := ⟨_, _, _, kt2_steps⟩, FD_Grammar_init := ⟨⟨_, _, _, _, _, _, _, _, _, _, rfl, l2, c2, .inl ⟨rfl, rfl⟩, .inr ⟨_, rfl, kwd_all5 ⟨_, kd2_skip, ⟨_, rfl⟩⟩ ⟨_, kd2_hidden, rfl⟩ ⟨_, kd2_recover, rfl⟩ ⟨_, kd2_inner, rfl⟩ ⟨_, kd2_steps, rfl⟩⟩⟩, k2⟩,
      a_Node_init := _, fd_Node_init := _, F_Node_init := F3, T0_Node := kT3, t0_Node := ⟨_, _, _, kt3⟩, FD_Node_init := ⟨⟨_, _, _, _, _, _, _, _, _, _, rfl, l3, c3, .inl ⟨rfl, rfl⟩, .inr ⟨_, rfl, kwd_all3 ⟨_, kd3_alternative, ⟨_, rfl⟩⟩ ⟨_, kd3_nodes, rfl⟩ ⟨_, kd3_popped, ⟨_, rfl⟩⟩⟩⟩, k3⟩,
      a_law_reel := _, fd_law_reel := _, F_law_reel := F4, b_law_reel := b4, g_law_reel := PySem.W.mg_of X G a4,
      a_law_draw := _, fd_law_draw := _, F_law_draw := F5, b_law_draw := b5, g_law_draw := PySem.W.mg_of X G a5,
      a_law_pick := _, fd_law_pick := _, F_law_pick := F6, b_law_pick := b6, g_law_pick := PySem.W.mg_of X G a6,
      a_law_label := _, fd_law_label := _, F_law_label := F7, b_law_label := b7, g_law_label := PySem.W.mg_of X G a7,
      a_law_way := _, fd_law_way := _, F_law_way := F8, b_law_way := b8, g_law_way := PySem.W.mg_of X G a8,
      a_law_ways := _, fd_law_ways := _, F_law_ways := F9, b_law_ways := b9, g_law_ways := PySem.W.mg_of X G a9,
      a_law_leaf_row := _, fd_law_leaf_row := _, F_law_leaf_row := F10, b_law_leaf_row := b10, g_law_leaf_row := PySem.W.mg_of X G a10,
      a_law_grown := _, fd_law_grown := _, F_law_grown := F11, b_law_grown := b11, g_law_grown := PySem.W.mg_of X G a11,
      a_law_deep := _, fd_law_deep := _, F_law_deep := F12, b_law_deep := b12, g_law_deep := PySem.W.mg_of X G a12,
      a_law_rooted := _, fd_law_rooted := _, F_law_rooted := F13, b_law_rooted := b13, g_law_rooted := PySem.W.mg_of X G a13,
      a_law_is_leaf := _, fd_law_is_leaf := _, F_law_is_leaf := F14, b_law_is_leaf := b14, g_law_is_leaf := PySem.W.mg_of X G a14,
      a_law_fitted := _, fd_law_fitted := _, F_law_fitted := F15, b_law_fitted := b15, g_law_fitted := PySem.W.mg_of X G a15,
      a_law_made := _, fd_law_made := _, F_law_made := F16, b_law_made := b16, g_law_made := PySem.W.mg_of X G a16,
      a_law_kids := _, fd_law_kids := _, F_law_kids := F17, b_law_kids := b17, g_law_kids := PySem.W.mg_of X G a17,
      a_law_end := _, fd_law_end := _, F_law_end := F18, b_law_end := b18, g_law_end := PySem.W.mg_of X G a18,
      a_law_places := _, fd_law_places := _, F_law_places := F19, b_law_places := b19, g_law_places := PySem.W.mg_of X G a19,
      a_law_ups := _, fd_law_ups := _, F_law_ups := F20, b_law_ups := b20, g_law_ups := PySem.W.mg_of X G a20,
      a_law_seen := _, fd_law_seen := _, F_law_seen := F21, b_law_seen := b21, g_law_seen := PySem.W.mg_of X G a21,
      a_law_is := _, fd_law_is := _, F_law_is := F22, b_law_is := b22, g_law_is := PySem.W.mg_of X G a22,
      a_law_agrees := _, fd_law_agrees := _, F_law_agrees := F23, b_law_agrees := b23, g_law_agrees := PySem.W.mg_of X G a23,
      a_law_twice_holds := _, fd_law_twice_holds := _, F_law_twice_holds := F24, b_law_twice_holds := b24, g_law_twice_holds := PySem.W.mg_of X G a24,
      a_law_labelled_holds := _, fd_law_labelled_holds := _, F_law_labelled_holds := F25, b_law_labelled_holds := b25, g_law_labelled_holds := PySem.W.mg_of X G a25,
      a_law := _, fd_law := _, F_law := F26, b_law := b26, g_law := PySem.W.mg_of X G a26,
      CL_Node := ⟨pg_Node, hdo_Node, po_Node, sao_Node⟩,
      MK_Node := ⟨mkC_Node, a3, if_Node__init__, kcC_Node⟩,
      IC_Node := ⟨⟨pg_Node, hdo_Node, po_Node, sao_Node⟩, ha_Node, hn, ht, hm_Node, kit_refT sC_Node iC_Node tY_Node⟩,
      NA_Node_kind := na_Node_kind,
      NA_Node_symbol := na_Node_symbol,
      NA_Node_state := na_Node_state,
      NA_Node_lead := na_Node_lead,
      NA_Node_width := na_Node_width,
      NA_Node_look := na_Node_look,
      NA_Node_alternative := na_Node_alternative,
      NA_Node_nodes := na_Node_nodes,
      NA_Node_popped := na_Node_popped,
      CL_Grammar := ⟨pg_Grammar, hdo_Grammar, po_Grammar, sao_Grammar⟩,
      MK_Grammar := ⟨mkC_Grammar, a2, if_Grammar__init__, kcC_Grammar⟩,
      IC_Grammar := ⟨⟨pg_Grammar, hdo_Grammar, po_Grammar, sao_Grammar⟩, ha_Grammar, hn, ht, hm_Grammar, kit_refT sC_Grammar iC_Grammar tY_Grammar⟩,
      NA_Grammar_name := na_Grammar_name,
      NA_Grammar_skip := na_Grammar_skip,
      NA_Grammar_kinds := na_Grammar_kinds,
      NA_Grammar_rules := na_Grammar_rules,
      NA_Grammar_alternatives := na_Grammar_alternatives,
      NA_Grammar_hidden := na_Grammar_hidden,
      NA_Grammar_recover := na_Grammar_recover,
      NA_Grammar_inner := na_Grammar_inner,
      NA_Grammar_steps := na_Grammar_steps,
      m_range := PySem.W.mg_none_of X G z0,
      m_min := PySem.W.mg_none_of X G z1,
      m_max := PySem.W.mg_none_of X G z2,
      m_len := PySem.W.mg_none_of X G z3,
      m_abs := PySem.W.mg_none_of X G z4,
      m_int := PySem.W.mg_none_of X G z5,
      m_sum := PySem.W.mg_none_of X G z6,
      m_isinstance := PySem.W.mg_none_of X G z7,
      m_bool := PySem.W.mg_none_of X G z8,
      m_list := PySem.W.mg_none_of X G z9,
      m_tuple := PySem.W.mg_none_of X G z10,
      m_str := PySem.W.mg_none_of X G z11,
      m_zip := PySem.W.mg_none_of X G z12 }
  exact ⟨PySem.W.fnOf "law" "law" (defArgs s_law) (defBody s_law) (defScope s_law) .none kV26 dc26 pm26 an26 cd26 ct26, fun s v => .of_eq rfl, fun base _ _ => ok_top T⟩
end M
open PySem PySem.W PyProof.Rows
set_option maxRecDepth 100000 in
set_option maxHeartbeats 0 in
theorem PySem.Challenge.cw_mendedtree_k36_seen_children_holds : PySem.Challenge.rw_mendedtree_k36_seen_children.Holds := by
  w_on; o_law; k_head; (case hw => w_witness2)
  k_fill
  refine L2.walk_of (l := PySem.Challenge.rw_mendedtree_k36_seen_children) (n := 63) (k := 11) (x := "script") (CX := fun _ => L2.CX0) (sp := fun w => M.spLaw _) rfl (by decide) rfl ⟨rfl, by decide, by decide⟩ (fun w h Y => PySem.W.kIn_of Y) ?F (fun _ _ a ns hl _ hS => ⟨a, ns, rfl, hS, hl, fun _ => rfl⟩) (fun _ _ _ _ _ h => h)
  case F =>
    intro w mg fa h KX G hmg
    refine' M.all_mk KX G hmg ?g_Node ?g_Grammar ?a0 ?l0 ?c0 ?k0 ?a1 ?l1 ?c1 ?k1 ?a2 ?l2 ?c2 ?k2 ?kd2_skip ?kd2_hidden ?kt2_hidden ?kd2_recover ?kt2_recover ?kd2_inner ?kt2_inner ?kd2_steps ?kt2_steps ?a3 ?l3 ?c3 ?k3 ?kd3_alternative ?kd3_nodes ?kt3 ?kd3_popped ?a4 ?l4 ?c4 ?k4 ?a5 ?l5 ?c5 ?k5 ?a6 ?l6 ?c6 ?k6 ?a7 ?l7 ?c7 ?k7 ?a8 ?l8 ?c8 ?k8 ?a9 ?l9 ?c9 ?k9 ?a10 ?l10 ?c10 ?k10 ?a11 ?l11 ?c11 ?k11 ?a12 ?l12 ?c12 ?k12 ?a13 ?l13 ?c13 ?k13 ?a14 ?l14 ?c14 ?k14 ?a15 ?l15 ?c15 ?k15 ?a16 ?l16 ?c16 ?k16 ?a17 ?l17 ?c17 ?k17 ?a18 ?l18 ?c18 ?k18 ?a19 ?l19 ?c19 ?k19 ?a20 ?l20 ?c20 ?k20 ?a21 ?l21 ?c21 ?k21 ?a22 ?l22 ?c22 ?k22 ?a23 ?l23 ?c23 ?k23 ?a24 ?l24 ?c24 ?k24 ?a25 ?l25 ?c25 ?k25 ?a26 ?l26 ?c26 ?k26 ?hn ?ht ?pg_Node ?hdo_Node ?po_Node ?sao_Node ?mkC_Node ?kcC_Node ?ha_Node ?hm_Node ?sC_Node ?iC_Node ?tY_Node ?na_Node_kind ?na_Node_symbol ?na_Node_state ?na_Node_lead ?na_Node_width ?na_Node_look ?na_Node_alternative ?na_Node_nodes ?na_Node_popped ?if_Node__init__ ?pg_Grammar ?hdo_Grammar ?po_Grammar ?sao_Grammar ?mkC_Grammar ?kcC_Grammar ?ha_Grammar ?hm_Grammar ?sC_Grammar ?iC_Grammar ?tY_Grammar ?na_Grammar_name ?na_Grammar_skip ?na_Grammar_kinds ?na_Grammar_rules ?na_Grammar_alternatives ?na_Grammar_hidden ?na_Grammar_recover ?na_Grammar_inner ?na_Grammar_steps ?if_Grammar__init__ ?z0 ?z1 ?z2 ?z3 ?z4 ?z5 ?z6 ?z7 ?z8 ?z9 ?z10 ?z11 ?z12
    (case g_Node => k_is); (case g_Grammar => k_is); (case a0 => k_is); (case l0 => k_is); (case c0 => k_is); (case k0 => k_is); (case a1 => k_is); (case l1 => k_is); (case c1 => k_is); (case k1 => k_is); (case a2 => k_is); (case l2 => k_is); (case c2 => k_is); (case k2 => k_is); (case kd2_skip => k_is); (case kd2_hidden => k_is); (case kt2_hidden => k_is); (case kd2_recover => k_is); (case kt2_recover => k_is); (case kd2_inner => k_is); (case kt2_inner => k_is); (case kd2_steps => k_is); (case kt2_steps => k_is); (case a3 => k_is); (case l3 => k_is); (case c3 => k_is); (case k3 => k_is); (case kd3_alternative => k_is); (case kd3_nodes => k_is); (case kt3 => k_is); (case kd3_popped => k_is); (case a4 => k_is); (case l4 => k_is); (case c4 => k_is); (case k4 => k_is); (case a5 => k_is); (case l5 => k_is); (case c5 => k_is); (case k5 => k_is); (case a6 => k_is); (case l6 => k_is); (case c6 => k_is); (case k6 => k_is); (case a7 => k_is); (case l7 => k_is); (case c7 => k_is); (case k7 => k_is); (case a8 => k_is); (case l8 => k_is); (case c8 => k_is); (case k8 => k_is); (case a9 => k_is); (case l9 => k_is); (case c9 => k_is); (case k9 => k_is); (case a10 => k_is); (case l10 => k_is); (case c10 => k_is); (case k10 => k_is); (case a11 => k_is); (case l11 => k_is); (case c11 => k_is); (case k11 => k_is); (case a12 => k_is); (case l12 => k_is); (case c12 => k_is); (case k12 => k_is); (case a13 => k_is); (case l13 => k_is); (case c13 => k_is); (case k13 => k_is); (case a14 => k_is); (case l14 => k_is); (case c14 => k_is); (case k14 => k_is); (case a15 => k_is); (case l15 => k_is); (case c15 => k_is); (case k15 => k_is); (case a16 => k_is); (case l16 => k_is); (case c16 => k_is); (case k16 => k_is); (case a17 => k_is); (case l17 => k_is); (case c17 => k_is); (case k17 => k_is); (case a18 => k_is); (case l18 => k_is); (case c18 => k_is); (case k18 => k_is); (case a19 => k_is); (case l19 => k_is); (case c19 => k_is); (case k19 => k_is); (case a20 => k_is); (case l20 => k_is); (case c20 => k_is); (case k20 => k_is); (case a21 => k_is); (case l21 => k_is); (case c21 => k_is); (case k21 => k_is); (case a22 => k_is); (case l22 => k_is); (case c22 => k_is); (case k22 => k_is); (case a23 => k_is); (case l23 => k_is); (case c23 => k_is); (case k23 => k_is); (case a24 => k_is); (case l24 => k_is); (case c24 => k_is); (case k24 => k_is); (case a25 => k_is); (case l25 => k_is); (case c25 => k_is); (case k25 => k_is); (case a26 => k_is); (case l26 => k_is); (case c26 => k_is); (case k26 => k_is); (case hn => k_is); (case ht => k_is); (case pg_Node => k_is); (case hdo_Node => k_is); (case po_Node => k_is); (case sao_Node => k_is); (case mkC_Node => k_is); (case kcC_Node => k_is); (case ha_Node => k_is); (case hm_Node => k_is); (case sC_Node => k_is); (case iC_Node => k_is); (case tY_Node => k_is); (case na_Node_kind => k_is); (case na_Node_symbol => k_is); (case na_Node_state => k_is); (case na_Node_lead => k_is); (case na_Node_width => k_is); (case na_Node_look => k_is); (case na_Node_alternative => k_is); (case na_Node_nodes => k_is); (case na_Node_popped => k_is); (case if_Node__init__ => k_is); (case pg_Grammar => k_is); (case hdo_Grammar => k_is); (case po_Grammar => k_is); (case sao_Grammar => k_is); (case mkC_Grammar => k_is); (case kcC_Grammar => k_is); (case ha_Grammar => k_is); (case hm_Grammar => k_is); (case sC_Grammar => k_is); (case iC_Grammar => k_is); (case tY_Grammar => k_is); (case na_Grammar_name => k_is); (case na_Grammar_skip => k_is); (case na_Grammar_kinds => k_is); (case na_Grammar_rules => k_is); (case na_Grammar_alternatives => k_is); (case na_Grammar_hidden => k_is); (case na_Grammar_recover => k_is); (case na_Grammar_inner => k_is); (case na_Grammar_steps => k_is); (case if_Grammar__init__ => k_is); (case z0 => k_is); (case z1 => k_is); (case z2 => k_is); (case z3 => k_is); (case z4 => k_is); (case z5 => k_is); (case z6 => k_is); (case z7 => k_is); (case z8 => k_is); (case z9 => k_is); (case z10 => k_is); (case z11 => k_is); (case z12 => k_is)
