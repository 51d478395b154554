import PyProof.Rows.All
import PySem.Challenge.RW_mendedtree_k33_tree_faults
import HandS.ForMost
import HandS.ForExc
import HandS.IsInst
import HandS.Codes
import HandS.FStr
import HandS.FStrTup
import HandS.ExcInit
import HandS.ExcIs
import HandS.ExcField
import HandS.ClsMeth
import HandS.ExcValue
import HandS.Style
import HandS.ClsMeth
import KE.KOpsOwn
import HandS.Walk
import HandS.MakeKwOnly
import HandS.Star
import HandS.Text
import HandS.Rev
import KE.KIntText
import HandS.OwnEq
import PyProof.StrBlock2
import HandS.TryOnly
import PyProof.Rows.StrCountLaw
set_option Elab.async false
set_option linter.all false
set_option maxRecDepth 100000
set_option maxHeartbeats 4000000
namespace L2
open PySem PySem.Spec PyProof.Rows
/-- what the written part says of an own base class whose __init__ is ValueError's -/
structure BaseC (K : PySem.W.Frag) (C0 : Addr) : Prop where
  ga : PySem.W.specialIn K (.ref C0) "__getattribute__" = some (some (.builtin "type.__getattribute__"))
  rd : PySem.W.readsIn K C0 (.type "type") = true
  fi : PySem.W.findCls K (.ref C0) (.type "type") "__init__" = some (.val (.builtin "ValueError.__init__"))
section
variable {X : Cx} {e : Expr} {es : List Expr} {ta : TA} {p1 p2 pos : Pos} {x : Str} {C0 : Addr}
/-- Base.__init__(self, ..), Base an own class over ValueError without an __init__ of its own -/
theorem pe_baseInit {later : Sem Bool} (hg : Gl X x) (hm : X.mg x = some (.ref C0)) (B : BaseC X.K C0) (ha : PA X (e :: es) ta) (hdb : (x == ("__debug__" : Str)) = false := by decide)
    (told : eval (.Call (.Attribute (.Name x p1) "__init__" p2) (e :: es) [] pos) X.env = (do
      let cls ← eval (.Name x p1) X.env
      standAt p2.atName
      let (m, bound) ← holding [cls] (getMethod cls "__init__" later)
      callWith pos m bound (backTo pos (starEach (e :: es) X.env)) (backToKw pos (keywordEach [] X.env))) := by rfl)
    (one : starEach (e :: es) X.env = (false, eval e X.env) :: starEach es X.env := by rfl) (plain : (backTo pos (starEach es X.env)).any (·.1) = false := by rfl) :
    PE X (.Call (.Attribute (.Name x p1) "__init__" p2) (e :: es) [] pos) (tVeI X.K ta) := by
  constructor
  intro pins s σ H Q I h
  refine PySem.W.methodCall_KW (ld_glob I hg hm (PySem.W.method_cls I.kIn B.ga (PySem.W.cls_value I.kIn B.rd B.fi rfl ?_)) hdb) told
  refine PyProof.Rows.callWith_method1 (id := "ValueError.__init__") (thn (ha.run pos pins _ σ H _ (I.tok _) h) ?_) one plain
  rintro us s1 ⟨vs, H1, I1, r1, a, C, ws, rfl, few, T, here, q⟩
  cases r1 with
  | @cons _ u _ us' ra rw' =>
    have eu : u = Value.ref a := ra
    subst eu
    have n : us'.length ≤ sizeLine := by
      have := Paired.length rw'
      rw [sizeLine_eq]
      omega
    exact oinit_ok T I1 here n fun s2 I2 => ⟨.non, H1, I2, rfl, q⟩
end
end L2

namespace PySem.W
open PySem PySem.Spec PySem.Calls PyProof.Rows
section
variable {prog : Program} {w : World} {A : Around} {E : Value → Shared → Prop} {K : Frag} {D : Addr}
/-- what BaseException's reading of __class__ gives, asked of an error with or without a dict -/
theorem bexc_class {x : Addr} {ox : Obj} {od : Option Obj} {s : Shared} {tk : Tok} {R : Value → Shared → Prop} (C : L2.ExcC K D) (X : K.In s.heap) (I : InstAt s.heap x ox D od) (q : R (.ref D) s)
    (hf : findObj K D od "__class__" = some (.bind (.builtin "getset_descriptor.__get__") (.builtin "object.__class__"))) :
    wpAny (model prog w) A (call (.builtin "BaseException.__getattribute__") [.ref x, .str "__class__" tk]) R E s := by
  have ty := I.type (M := model prog w)
  have isExc : Looks (model prog w) s.heap (isInstance (.ref x) (.type "BaseException")) true := ty.andThen (looks_subIn X C.hs)
  refine wpAny_call (codeAny_call_builtin PySem.F.excAttr_ValueError.ga.plain PySem.F.entry_bexc_ga (@check_slot (model prog w) _ _ s "BaseException.__getattribute__" "BaseException" "__getattribute__" (.ref x) [.str "__class__" tk] [] _ (by decide +kernel) (by decide +kernel) isExc (PySem.F.args_bexc_ga (.ref x) (.str "__class__" tk)) ?_))
  unfold Builtin.«object.__getattribute__»
  refine wpAny_bind (wpAny_of_eq (a := ((Value.ref x : Value), [Value.str "__class__" tk])) (by first | rfl | (simp only [slotArgs]; rfl)) (wpAny_bind (wpAny_pure (wpAny_bind (ty.at (wpAny_bind ((looks_find (M := model prog w) X I hf).at ?_)))))))
  exact wpAny_bind (wpAny_holding (wpAny_call (class_get (ox := ox) (od := od) X I C.hm (wpAny_pure (by first | exact wpAny_pure q | exact q)))))
theorem if_no {b : Bool} {m n : Sem Value} {R : Value → Shared → Prop} {F : Value → Shared → Prop} {u : Shared} (e : b = false) (k : wpAny (model prog w) A n R F u) : wpAny (model prog w) A (if b = true then m else n) R F u := by
  subst e
  exact k
theorem class_of_err {x : Addr} {ox od : Obj} {s : Shared} {Q : Option Value → Shared → Prop} (C : L2.ExcC K D) (X : K.In s.heap) (I : InstAt s.heap x ox D (some od)) (q : Q (some (.ref D)) { s with toks := s.toks + 1 }) :
    wpAny (model prog w) A (getAttr? (.ref x) "__class__") Q E s := by
  have some_cls : (clsIn K D).isSome = true := by
    obtain ⟨c, e, _⟩ := any_some C.hd
    rw [e] <;> rfl
  have found := findObj_data (od := od) some_cls C.ha C.hn C.ht
  have other : (Value.builtin "BaseException.__getattribute__" == Value.builtin "object.__getattribute__") = false := by decide +kernel
  obtain ⟨hp, g, d, t, os⟩ := s
  have ty := I.type (M := model prog w)
  unfold getAttr? getAttrBy? getAttrBy
  refine wpAny_bind (wpAny_mkText (wpAny_bind (wpAny_attempt (wpAny_holding (wpAny_bind (ty.at (wpAny_bind ((looks_findIn (M := model prog w) X C.hg).at ?_))))))))
  refine if_no (by rw [other]; rfl) ?_
  unfold getAttrByItsOwn hookBefore
  refine wpAny_bind ?_
  rw [if_pos (by rfl : onTheHeap (Value.ref D) = true)]
  refine (looks_findIn (M := model prog w) X C.hk).at (wpAny_bind (wpAny_attempt (wpAny_holding ?_)))
  unfold callGetattribute
  refine if_no (by rfl) ?_
  unfold boundAndCalled
  rw [PySem.F.excAttr_ValueError.ga.bind (.ref x)]
  refine wpAny_bind (wpAny_pure (bexc_class C X I ?_ found))
  first
    | exact wpAny_pure (wpAny_pure q)
    | exact wpAny_bind (wpAny_pure (wpAny_pure q))
    | exact wpAny_pure q
    | exact wpAny_pure (wpAny_bind (wpAny_pure (wpAny_pure q)))
/-- isinstance of an error that has a dict -/
theorem own_kitx {x : Addr} {ox : Obj} (C : L2.ExcC K D) : KitX K (.ref x) (.ref D) (fun h => ∃ od, InstAt h x ox D (some od)) :=
  { ty := fun _ _ _ ⟨_, I⟩ => I.type
    it := fun M h X _ A' Q' E' s' k q => (mc_isType (s := s') (fun b o e => k b o (X b o e)) C.hd).at q
    ne := (handS_kitx_exc (x := x) (ox := ox) C.hg C.hk C.hs C.hd C.ha C.hn C.ht C.hm).ne
    ca := fun X ⟨_, I⟩ q => class_of_err C X I q }
end
end PySem.W
namespace L2
open PySem PySem.Spec PyProof.Rows
section
variable {X : Cx} {a D dd : Addr} {oe : Obj} {pn : List (Addr × Obj)}
theorem suite_inst {pins : List (Addr × Obj)} {σ : L2.St} {H : Hp} {s : Shared} {fs : List (Str × V)} (I : Inv (X.suite a ((a, oe) :: pn)) pins σ H s) (hz : Zc (.ref D) (some dd) oe) (hf : ∃ vs, oe.data = .fields vs) (hx : H dd = some (.xd fs)) :
    ∃ od, PySem.W.InstAt s.heap a oe D (some od) := by
  have here := (I.pin (a, oe) (by simp [Cx.suite])).1
  obtain ⟨vs, hv⟩ := hf
  have hdx : ObjOk X.prog X.w H s.heap dd (.xd fs) := I.hok dd _ hx
  obtain ⟨m, names, _⟩ := hdx
  obtain ⟨o, ho, _⟩ := lookIn_ns names
  refine ⟨o, here, hz.1, ?_, by rw [hz.2]; exact ho⟩
  unfold PySem.W.notCls
  rw [hv] <;> rfl
/-- isinstance(e, c), e the exception that the suite holds, with its dict at dd -/
def rIsD (K : PySem.W.Frag) (D a dd : Addr) : List V → Hp → VK → Prop := fun xs H Q => ∃ (c : V) (cv : Value) (b : Bool) (fs : List (Str × V)), xs = [.ref a, c] ∧ ClsV c cv ∧ H dd = some (.xd fs) ∧ PySem.W.kitOne K (.ref D) cv = some b ∧ Q (.bl b) H
theorem call_isD (C : ExcC X.K D) (hz : Zc (.ref D) (some dd) oe) (hf : ∃ vs, oe.data = .fields vs) : CallR (X.suite a ((a, oe) :: pn)) (.builtin "isinstance") (rIsD X.K D a dd) := by
  rintro pins s σ H xs us Q I r ⟨c, cv, b, fs, rfl, hcv, hx, e, q⟩
  obtain ⟨w1, w2, rfl, p1, p2⟩ := vals2 r
  have e1 : w1 = Value.ref a := p1
  have e2 := hcv.eq p2
  subst e1 e2
  exact PySem.W.kia_one (PySem.W.own_kitx C) I.kIn (suite_inst I hz hf hx) e nofun fun tk => ⟨.bl b, H, I.kept (t' := tk) fun _ _ z => z, rfl, q⟩
/-- isinstance(e, (c1, c2, ..)) -/
def rIsDT (K : PySem.W.Frag) (D a dd : Addr) : List V → Hp → VK → Prop := fun xs H Q => ∃ (tp : Addr) (cs : List V) (us : List Value) (b : Bool) (fs : List (Str × V)), xs = [.ref a, .ref tp] ∧ H tp = some (.tup cs) ∧ Paired ClsV cs us ∧ H dd = some (.xd fs) ∧ PySem.W.kitAny K (.ref D) us = some b ∧ Q (.bl b) H
theorem call_isDT (C : ExcC X.K D) (hz : Zc (.ref D) (some dd) oe) (hf : ∃ vs, oe.data = .fields vs) : CallR (X.suite a ((a, oe) :: pn)) (.builtin "isinstance") (rIsDT X.K D a dd) := by
  rintro pins s σ H xs us Q I r ⟨tp, cs, ws, b, fs, rfl, hT, k, hx, e, q⟩
  obtain ⟨w1, w2, rfl, p1, p2⟩ := vals2 r
  have e1 : w1 = Value.ref a := p1
  have e2 : w2 = Value.ref tp := p2
  subst e1 e2
  have hok : ObjOk X.prog X.w H s.heap tp (.tup cs) := I.hok tp _ hT
  obtain ⟨_, its, rv, ⟨oc, od, dt, sl⟩, g1, g2, n, g3⟩ := hok
  have e3 := ClsV.all k rv
  dsimp only at g2 g3
  subst e3 g2 g3
  exact PySem.W.kia_tup (PySem.W.own_kitx C) I.kIn (suite_inst I hz hf hx) g1 e nofun fun tk => ⟨.bl b, H, I.kept (t' := tk) fun _ _ z => z, rfl, q⟩
end
end L2

namespace L2
open PySem PySem.Spec PyProof.Rows
/-- an own error class (name) at C, with an __init__ of its own at fI -/
structure ErrK (K : PySem.W.Frag) (mg : Str → Option Value) (name : Str) (C fI : Addr) : Prop where
  g : mg name = some (.ref C)
  oex : OexC K C
  iC : PySem.W.findIn K (.ref C) "__init__" = some (some (.ref fI))
  tI : PySem.W.typeIn K (.ref fI) = some (.type "function")
  exc : ExcC K C
  xf : XfC K C
  self : PySem.W.exmOne K (.ref C) (.ref C) = some true
theorem errK_mk {K : PySem.W.Frag} {mg : Str → Option Value} {name : Str} {C fI : Addr}
    {nm q : Str} {N : Addr} {bs bm : List Value} {sn : List Str} {sub : List Value} {ab : Bool} {col : Option Bool} {dd : Option Addr} {m0 m1 m2 m3 m5 : Option Value}
    (g : mg name = some (.ref C)) (xL : K.lookup C = some (excClassObj nm q C N bs bm true sn sub ab col dd m0 m1 m2 m3 m5 "ValueError.__new__")) (hbm : PySem.HandSPX.refsVE bm = true)
    (sa : PySem.W.findIn K (.ref C) "__setattr__" = some (some (.builtin "object.__setattr__"))) (ga : PySem.W.findIn K (.ref C) "__getattribute__" = some (some (.builtin "BaseException.__getattribute__"))) (gg : PySem.W.findIn K (.ref C) "__getattr__" = some none)
    (iC : PySem.W.findIn K (.ref C) "__init__" = some (some (.ref fI))) (tI : PySem.W.typeIn K (.ref fI) = some (.type "function")) (kC : PySem.W.keepIn K (.ref C) = true) (eC : PySem.W.subIn K (.ref C) (.type "BaseException") = some true) (tC : PySem.W.typeIn K (.ref C) = some (.type "type"))
    (hd : PySem.W.hasDictIn K C = true) (ha : PySem.W.findIn K (.ref C) "__class__" = some (some (.builtin "object.__class__"))) (hn : PySem.W.specialIn K (.builtin "object.__class__") "__get__" = some (some (.builtin "getset_descriptor.__get__")))
    (ht : PySem.W.takesIn K (.builtin "object.__class__") = some true) (hm : PySem.W.mroIn K C (.type "object") = some true) (sC : PySem.W.subIn K (.ref C) (.ref C) = some true) : ErrK K mg name C fI :=
  { g := g, oex := ⟨⟨nm, q, N, bs, bm, sn, sub, ab, col, dd, m0, m1, m2, m3, m5, xL, hbm⟩, sa, eC, tC, kC⟩, iC := iC, tI := tI, exc := ⟨ga, gg, eC, hd, ha, hn, ht, hm⟩, xf := ⟨ga, gg, eC, hd⟩, self := PySem.W.exm_ref eC hd tC sC }
/-- what making such an error with one field leaves: an error whose dict holds the field, all else as it was -/
def spInit1 (f : Str) (C : Addr) (ok : V → Prop) : Sp := fun vs H Q _ => ∃ (a : Addr) (v : V), vs = [.ref a, v] ∧ ok v ∧ H a = some (exo a C none) ∧ ∀ dx, H dx = none → dx ≠ a → Q .non (upd (upd H dx (exd dx [(f, v)])) a (exo a C (some dx)))
theorem made1 {H : Hp} {a dx C : Addr} {f : Str} {v : V} {fs : List (Str × V)} (na : H a = none) (nd : (upd H a (exo a C none)) dx = none) (hne : dx ≠ a) :
    H dx = none ∧ Same H (upd (del (upd (upd (upd H a (exo a C none)) dx (exd dx fs)) a (exo a C (some dx))) a) dx (.xd fs)) ∧ (upd (del (upd (upd (upd H a (exo a C none)) dx (exd dx fs)) a (exo a C (some dx))) a) dx (.xd fs)) dx = some (.xd fs) := by
  have nd' : H dx = none := by
    rw [upd_ne hne] at nd
    exact nd
  refine ⟨nd', fun b o e => ?_, upd_same⟩
  have h1 : b ≠ dx := ne_of_none e nd'
  have h2 : b ≠ a := ne_of_none e na
  rw [upd_ne h1, del_ne h2, upd_ne h2, upd_ne h1, upd_ne h2]
  exact e
/-- the reading of C(e), from such a promise of __init__ -/
theorem mk1 {C : Addr} {f : Str} {ok : V → Prop} {ta : TA} {σ : L2.St} {H : Hp} {Q : XK} (h : ta σ H fun vs H1 => ∃ v, vs = [v] ∧ ok v ∧ ∀ d H', Same H1 H' → H1 d = none → H' d = some (.xd [(f, v)]) → Q (.ref C) (some d) H')
    (mono : ∀ Q1 Q2 : List V → Hp → Prop, (∀ vs H1, Q1 vs H1 → Q2 vs H1) → ta σ H Q1 → ta σ H Q2) : tMkO C (spInit1 f C ok) [] ta σ H Q := by
  refine mono _ _ (fun vs H1 h1 => ?_) h
  obtain ⟨v, rfl, hv, q⟩ := h1
  refine ⟨by show 1 ≤ 1000; decide, fun a na => ⟨a, v, rfl, hv, upd_same, fun dx nd hne => ⟨rfl, dx, [(f, v)], upd_same, ?_, ?_, ?_⟩⟩⟩
  · rw [upd_ne hne, upd_same]
  · exact (made1 (f := f) (v := v) (fs := [(f, v)]) na nd hne).1
  · obtain ⟨m1, m2, m3⟩ := made1 (f := f) (v := v) (fs := [(f, v)]) na nd hne
    exact q dx _ m2 m1 m3
end L2
namespace L2
open PySem PySem.Spec PyProof.Rows
theorem kit_refT {K : PySem.W.Frag} {C D : Addr} (h : PySem.W.subIn K (.ref C) (.ref D) = some true) (i : PySem.W.isClsIn K D = true) (t : PySem.W.typeIn K (.ref D) = some (.type "type")) : PySem.W.kitOne K (.ref C) (.ref D) = some true := by
  unfold PySem.W.kitOne
  split
  · rfl
  · show (if ((PySem.W.clsIn K D).isSome && PySem.W.typeIn K (.ref D) == some (.type "type")) = true then PySem.W.subIn K (.ref C) (.ref D) else none) = some true
    have i' : (PySem.W.clsIn K D).isSome = true := i
    rw [i', t, h]
    rfl
theorem kit_refF {K : PySem.W.Frag} {C D : Addr} (h0 : PySem.W.subIn K (.ref C) (.ref C) = some true) (h : PySem.W.subIn K (.ref C) (.ref D) = some false) (i : PySem.W.isClsIn K D = true) (t : PySem.W.typeIn K (.ref D) = some (.type "type")) : PySem.W.kitOne K (.ref C) (.ref D) = some false := by
  have hne : (Value.ref C == Value.ref D) = false := by
    rw [beq_eq_false_iff_ne]
    intro e
    have e' : C = D := Value.ref.inj e
    rw [← e', h0] at h
    cases h
  unfold PySem.W.kitOne
  rw [hne]
  show (if ((PySem.W.clsIn K D).isSome && PySem.W.typeIn K (.ref D) == some (.type "type")) = true then PySem.W.subIn K (.ref C) (.ref D) else none) = some false
  have i' : (PySem.W.clsIn K D).isSome = true := i
  rw [i', t, h]
  rfl
theorem kit_refTy {K : PySem.W.Frag} {C : Addr} {T : String} {b : Bool} (h : PySem.W.subIn K (.ref C) (.type T) = some b) (m : PySem.W.kitMeta T = true) : PySem.W.kitOne K (.ref C) (.type T) = some b := by
  unfold PySem.W.kitOne
  have hne : (Value.ref C == Value.type T) = false := by
    rw [beq_eq_false_iff_ne]
    intro e
    cases e
  rw [hne]
  show (if PySem.W.kitMeta T = true then PySem.W.subIn K (.ref C) (.type T) else none) = some b
  rw [if_pos m, h]
end L2

namespace L2
open PySem PySem.Spec PyProof.Rows
theorem passX0 {P : Program} {w : World} {X : Cx} (e1 : X.prog = P) (e2 : X.w = w) : Passes (L2.CX P w) X E0 := fun _ _ _ _ _ _ _ c => by
  obtain ⟨_, _, _, _, _, _, _, _, _, _, _, _, z⟩ := c
  exact z.elim
section
variable {X : Cx} {a : Addr} {oe : Obj} {pn : List (Addr × Obj)} {cls : Value} {d : Option Addr}
/-- isinstance(e, c) in the suite that holds e -/
def rIsX (K : PySem.W.Frag) (a : Addr) (cls : Value) (d : Option Addr) : List V → Hp → VK → Prop := fun xs H Q => ∃ (D dd : Addr), cls = .ref D ∧ d = some dd ∧ ExcC K D ∧ rIsD K D a dd xs H Q
theorem call_isX (hz : Zc cls d oe) (hf : ∃ vs, oe.data = .fields vs) : CallR (X.suite a ((a, oe) :: pn)) (.builtin "isinstance") (rIsX X.K a cls d) := by
  rintro pins s σ H xs us Q I r ⟨D, dd, rfl, rfl, C, h⟩
  exact call_isD C hz hf pins s σ H xs us Q I r h
/-- isinstance(e, (c1, ..)) -/
def rIsXT (K : PySem.W.Frag) (a : Addr) (cls : Value) (d : Option Addr) : List V → Hp → VK → Prop := fun xs H Q => ∃ (D dd : Addr), cls = .ref D ∧ d = some dd ∧ ExcC K D ∧ rIsDT K D a dd xs H Q
theorem call_isXT (hz : Zc cls d oe) (hf : ∃ vs, oe.data = .fields vs) : CallR (X.suite a ((a, oe) :: pn)) (.builtin "isinstance") (rIsXT X.K a cls d) := by
  rintro pins s σ H xs us Q I r ⟨D, dd, rfl, rfl, C, h⟩
  exact call_isDT C hz hf pins s σ H xs us Q I r h
end
end L2

namespace L2
open PySem PySem.Spec PyProof.Rows
/-- an error object of the own class at C, held as a value, its dict at d -/
def erv (a C : Addr) (d : Option Addr) : HO := .ext fun hp => ∃ (oe : Obj) (vs : Array Value), hp.get? a = some oe ∧ Zc (.ref C) d oe ∧ oe.data = .fields vs
section
variable {X : Cx} {pins : List (Addr × Obj)} {σ : L2.St} {H : Hp} {s : Shared} {a C dd : Addr} {fs : List (Str × V)}
theorem erv_ok {P : Program} {w : World} {hp : Heap} {d : Option Addr} {oe : Obj} {vs : Array Value} (h1 : hp.get? a = some oe) (h2 : Zc (.ref C) d oe) (h3 : oe.data = .fields vs) : ObjOk P w H hp a (erv a C d) :=
  ⟨⟨oe, vs, h1, h2, h3⟩, ⟨oe, h1⟩, fun _ _ ⟨o1, v1, k1, k2, k3⟩ more => ⟨o1, v1, more _ k1, k2, k3⟩⟩
/-- what makes an error also gives it as a value -/
theorem pe_ofMk {e : Expr} {t : L2.St → Hp → XK → Prop} (h : PMk X e t) :
    PE X e (fun σ H Q => t σ H fun cls d H1 => ∃ C, cls = .ref C ∧ ∀ a, H1 a = none → Q (.ref a) (upd H1 a (erv a C d))) := by
  constructor
  intro pins s σ H Q I hw
  refine thn (h pins s σ H _ I hw) ?_
  rintro u s1 ⟨a, oe, vs, sI, H1, cls, d, eu, I1, kp, n1, ho, hz, hd, _, n2, os, bare, _, C, ec, q⟩
  subst eu
  subst ec
  refine ⟨.ref a, upd H1 a (erv a C d), ?_, rfl, q a n2⟩
  exact I1.call' (ch := []) os (Un.laidN kp n1 n2) (I1.hok.laidN kp n2 (erv_ok ho hz hd)) bare (by simp)
/-- where the error and its dict stand -/
theorem erv_inst (I : Inv X pins σ H s) (ha : H a = some (erv a C (some dd))) (hx : H dd = some (.xd fs)) :
    ∃ (oe : Obj) (m : Str → Option Value) (od : Option Obj), PySem.W.InstAt s.heap a oe C od ∧ (∃ o, od = some o) ∧ (∀ n, PySem.W.lookIn n (od.getD oe) = some (m n)) ∧ ∀ f, RelO (fs.lookup f) (m f) := by
  have k1 : ObjOk X.prog X.w H s.heap a (.ext fun hp => ∃ (oe : Obj) (vs : Array Value), hp.get? a = some oe ∧ Zc (.ref C) (some dd) oe ∧ oe.data = .fields vs) := I.hok a _ ha
  obtain ⟨⟨oe, vs, g1, g2, g3⟩, _⟩ := k1
  have k2 : ObjOk X.prog X.w H s.heap dd (.xd fs) := I.hok dd _ hx
  obtain ⟨m, k3, k4⟩ := k2
  obtain ⟨o, k5, k6⟩ := lookIn_ns k3
  refine ⟨oe, m, some o, ⟨g1, g2.1, ?_, ?_⟩, ⟨o, rfl⟩, k6, k4⟩
  · unfold PySem.W.notCls
    rw [g3] <;> rfl
  · rw [g2.2]
    exact k5
/-- isinstance(x, c), x an error that is held as a value -/
def rIsV (K : PySem.W.Frag) : List V → Hp → VK → Prop := fun xs H Q => ∃ (a C dd : Addr) (fs : List (Str × V)) (c : V) (cv : Value) (b : Bool), xs = [.ref a, c] ∧ H a = some (erv a C (some dd)) ∧ H dd = some (.xd fs) ∧ ExcC K C ∧ ClsV c cv ∧ PySem.W.kitOne K (.ref C) cv = some b ∧ Q (.bl b) H
theorem call_isV : CallR X (.builtin "isinstance") (rIsV X.K) := by
  rintro pins s σ H xs us Q I r ⟨a, C, dd, fs, c, cv, b, rfl, ha, hx, T, hcv, e, q⟩
  obtain ⟨w1, w2, rfl, p1, p2⟩ := vals2 r
  have e1 : w1 = Value.ref a := p1
  have e2 := hcv.eq p2
  subst e1 e2
  obtain ⟨oe, m, od, J, ⟨o, eo⟩, _⟩ := erv_inst I ha hx
  subst eo
  exact PySem.W.kia_one (PySem.W.own_kitx T) I.kIn ⟨o, J⟩ e nofun fun tk => ⟨.bl b, H, I.kept (t' := tk) fun _ _ z => z, rfl, q⟩
/-- x.f, x an error that is held as a value -/
def tFxE (K : PySem.W.Frag) (f : Str) (te : TE) : TE := fun σ H Q => te σ H fun x H1 => ∃ (a C dd : Addr) (fs : List (Str × V)) (v : V), x = .ref a ∧ XfC K C ∧ PySem.W.findIn K (.ref C) f = some none ∧ H1 a = some (erv a C (some dd)) ∧ H1 dd = some (.xd fs) ∧ fs.lookup f = some v ∧ Q v H1
theorem pe_fxE {e : Expr} {te : TE} {pos : Pos} {n : Str} (he : PE X e te) (hb : attributeBase e n X.env (eval e X.env) = eval e X.env := by rfl) : PE X (.Attribute e n pos) (tFxE X.K n te) := by
  constructor
  intro pins s σ H Q I h
  refine attr_of hb (thn (he.run pins s σ H _ I h) ?_)
  rintro y s1 ⟨x, H1, I1, rx, a, C, dd, fs, v, ex, T, hno, ha, hx, l, q⟩
  subst ex
  have ey : y = Value.ref a := rx
  subst ey
  obtain ⟨oe, m, od, J, ⟨o, eo⟩, k1, k2⟩ := erv_inst I1 ha hx
  subst eo
  have k3 := k2 n
  rw [l] at k3
  obtain ⟨val, k4, k5⟩ := RelO.some_of k3
  have k6 : PySem.W.lookIn n o = some (some val) := by
    rw [← k4]
    exact k1 n
  exact HandSPX.exc_get I1.kIn J T.ga T.gg T.exC (PySem.W.findObj_own T.hdC hno rfl k6) (handed_of k5) ⟨v, H1, I1.tok _, k5, q⟩
end
end L2

namespace L2
open PySem PySem.Spec PyProof.Rows
/-- a flat item as repr tells it -/
def sText : V → Str
  | .int i => toString i
  | .str y => reprText y
  | _ => Str.empty
def sOk : V → Prop
  | .int i => i.natAbs.log2 < 1920
  | .str y => ∀ c ∈ y.cps.toList, c < 16 ^ 8
  | _ => False
def sCost : V → Nat
  | .int _ => 1925
  | .str y => 10 * y.length + 4
  | _ => 0
theorem sText_len {v : V} (h : sOk v) : (sText v).length + 2 ≤ sCost v := by
  cases v with
  | int i =>
    have := PyProof.Rows.int_text_len_1921 (i := i) h
    show (Str.ofString (toString i)).length + 2 ≤ 1925
    omega
  | str y =>
    have := StrLaws.reprText_len y h
    show (reprText y).length + 2 ≤ 10 * y.length + 4
    omega
  | _ => exact False.elim h
def sCosts (l : List V) : Nat := (l.map sCost).sum
theorem sCosts_cons (v : V) (l : List V) : sCosts (v :: l) = sCost v + sCosts l := by
  unfold sCosts
  rw [List.map_cons, List.sum_cons]
theorem s_piled : ∀ l : List V, (∀ v ∈ l, sOk v) → piled (l.map sText) ≤ sCosts l
  | [], _ => Nat.zero_le _
  | v :: l, h => by
    have h1 := sText_len (h v List.mem_cons_self)
    have h2 := s_piled l fun x hx => h x (List.mem_cons_of_mem _ hx)
    rw [List.map_cons, piled_cons, sCosts_cons]
    omega
theorem repr_allS {prog : Program} {w : World} : ∀ {l : List V} {its : List Value}, Vals l its → (∀ v ∈ l, sOk v) → sCosts l ≤ sizeLine → ReprAll prog w its (l.map sText)
  | [], _, r, _, _ => by
    cases r
    exact .nil
  | v :: l, _, r, h, hz => by
    cases r with
    | @cons _ u _ us r1 r2 =>
      have h1 := h v List.mem_cons_self
      have hl := sText_len h1
      rw [sCosts_cons] at hz
      have k : ReprIs prog w u (sText v) := by
        cases v with
        | int i =>
          obtain ⟨t, rfl⟩ := r1
          exact ReprIs.int t h1
        | str y =>
          obtain ⟨t, rfl⟩ := r1
          exact ReprIs.str y t (by have : (reprText y).length + 2 ≤ sCost (.str y) := hl; omega)
        | _ => exact False.elim h1
      exact .cons k (repr_allS r2 (fun x hx => h x (List.mem_cons_of_mem _ hx)) (by omega))
section
variable {X : Cx}
/-- {t}, t a tuple of ints and texts: some text -/
def tFmtS (K : PySem.W.Frag) (te : TE) : TE := fun σ H Q => te σ H fun x H1 => ∃ (a : Addr) (l : List V), x = .ref a ∧ SqT K H1 a l ∧ (∀ v ∈ l, sOk v) ∧ sCosts l + 7 ≤ sizeLine ∧ ∀ m : Str, m.length ≤ sCosts l + 7 → Q (.str m) H1
theorem pe_fmtS {e : Expr} {te : TE} {pos : Pos} {k : Nat} (hr : Room k X.A) (he : PE X e te) : PE X (.FormattedValue e (-1) none pos) (tFmtS X.K te) := by
  refine ⟨fun pins s σ H Q I h => ?_⟩
  refine wpAny_FormattedValue_plain (thn (he.run pins s σ H _ I h) fun v s1 hv => ?_)
  obtain ⟨x, H1, I1, r1, a, l, rfl, ht, hc, hz, q⟩ := hv
  cases r1
  obtain ⟨its, rv, ⟨o, ho, hcl, n, hd⟩, _⟩ := I1.tuple ht
  have hp := s_piled l hc
  have htx := fmt_text (l.map sText)
  have hu := hr.units
  exact fmt_tuple (ts := l.map sText) (by omega) ho hcl hd (repr_allS rv hc (by omega)) (by omega) fun m u tk hm => ⟨.str m, H1, I1.tok _, ⟨u, rfl⟩, q m (by omega)⟩
end
/-- x = e and what follows, e's reading first -/
theorem seq_asg {te : TE} {g : TG} {b : TS} {D : Ends} {σ : L2.St} {H : Hp} (h : te σ H fun x H1 => g x σ H1 fun σ2 H2 => b D σ2 H2) : tSeq (tAsg te g) b D σ H := h
/-- what making an error leaves: an error whose dict holds the fields fs, all else as it was -/
def spInitN (C : Addr) (n : Nat) (ok : Hp → List V → Prop) (fs : List V → List (Str × V)) : Sp := fun vs H Q _ => ∃ (a : Addr) (ws : List V), vs = .ref a :: ws ∧ ws.length = n ∧ ok H ws ∧ H a = some (exo a C none) ∧
  ∀ dx H', H dx = none → dx ≠ a → H' a = some (exo a C (some dx)) → H' dx = some (exd dx (fs ws)) → (∀ b, b ≠ a → b ≠ dx → H' b = H b) → Q .non H'
theorem mkN {C : Addr} {n : Nat} {ok : Hp → List V → Prop} {fs : List V → List (Str × V)} {ta : TA} {σ : L2.St} {H : Hp} {Q : XK}
    (h : ta σ H fun ws H1 => ws.length = n ∧ ws.length ≤ 1000 ∧ (∀ a, H1 a = none → ok (upd H1 a (exo a C none)) ws) ∧ ∀ d H', Same H1 H' → H1 d = none → H' d = some (.xd (fs ws)) → Q (.ref C) (some d) H')
    (mono : ∀ Q1 Q2 : List V → Hp → Prop, (∀ vs H1, Q1 vs H1 → Q2 vs H1) → ta σ H Q1 → ta σ H Q2) : tMkO C (spInitN C n ok fs) [] ta σ H Q := by
  refine mono _ _ (fun ws H1 h1 => ?_) h
  obtain ⟨hn, hz, hk, q⟩ := h1
  refine ⟨hz, fun a na => ⟨a, ws, by rw [List.append_nil], hn, hk a na, upd_same, fun dx H' nd hne ha hd hb => ⟨rfl, dx, fs ws, ha, hd, ?_, ?_⟩⟩⟩
  · rw [upd_ne hne] at nd
    exact nd
  · rw [upd_ne hne] at nd
    refine q dx _ (fun b o e => ?_) nd upd_same
    have h1 : b ≠ a := ne_of_none e na
    have h2 : b ≠ dx := ne_of_none e nd
    rw [upd_ne h2, del_ne h1, hb b h1 h2, upd_ne h1]
    exact e
end L2

/-! ### list(reversed(t)), t a tuple -/
namespace OwnOp
open PySem PySem.Spec PyProof.Rows L2 RT
theorem nolen_rt : typeLookup (.type "reversed") "__len__" = pure none := by rw [typeLookup_type, builtinLookup_eq_fast]; kernel_rfl
theorem slot_rt_hint : Slot "reversed" "__length_hint__" "reversed.__length_hint__" :=
  .of (owner := "reversed") (n := "__length_hint__") (by rw [typeLookup_type, builtinLookup_eq_fast]; kernel_rfl) (by decide +kernel) (by decide +kernel) (by decide +kernel)
    (by first | exact .inl (by decide +kernel) | exact .inr (by decide +kernel)) (by rw [isSubtype_type]; kernel_rfl)
theorem entry_rt_hint : entryFor table "reversed.__length_hint__" = some Builtin.«reversed.__length_hint__» := entryFor_of_tree (by kernel_rfl)
theorem args_rt_hint (a : Value) : argsOk "reversed.__length_hint__" ⟨[a], []⟩ := by
  unfold argsOk; rw [signature?_of (id := "reversed.__length_hint__") (n := ['_', '_', 't', 'n', 'i', 'h', '_', 'h', 't', 'g', 'n', 'e', 'l', '_', '_']) (o := ['d', 'e', 's', 'r', 'e', 'v', 'e', 'r']) (by kernel_rfl) owner_rt]; kernel_rfl
theorem bind_hint (self : Value) : bindSpecial (.builtin "reversed.__length_hint__") self = pure (.builtin "reversed.__length_hint__", [self]) := by
  unfold bindSpecial
  kernel_rfl
section
variable {prog : Program} {w : World} {A : Around} {E : Value → Shared → Prop} {s : Shared}
theorem hint_rt {it t : Addr} {items : Array Value} {Q : Bool → Shared → Prop} (hit : IsRt s.heap it t ((items.size : Int) - 1)) (ht : IsTup s.heap t items) (hsz : items.size ≤ sizeLine)
    (h : ∀ tk k, Q k { s with toks := tk }) : wpAny (model prog w) A (Builtin.List.listLengthHint (.ref it)) Q E s := by
  obtain ⟨o, ho, hc, hd⟩ := id hit
  rw [sizeLine_eq] at hsz
  unfold Builtin.List.listLengthHint
  refine wpAny_bind (wpAny_specialOf hit.typeIs nolen_rt ?_)
  refine PySem.W.KFB.if_not rfl (PySem.W.KFB.if_not rfl ?_)
  refine wpAny_bind (wpAny_specialOf hit.typeIs slot_rt_hint.lookup ?_)
  refine wpAny_bind (m := isInstance (.ref it) (.type "reversed")) (wpAny_isInstance (b := true) hit.typeIs (by rw [isSubtype_type]; kernel_rfl) ?_)
  refine PySem.W.KFB.if_not rfl ?_
  refine PySem.W.KFB.if_not (by kernel_rfl) ?_
  refine wpAny_bind (wpAny_rule ?_)
  refine wpAny_bind (m := bindSpecial (.builtin "reversed.__length_hint__") (.ref it)) (wpAny_of_eq (bind_hint _) ?_)
  refine wpAny_bind (wpAny_attempt (wpAny_call_entry (T := "reversed") slot_rt_hint hit.typeIs entry_rt_hint ?_ (args_rt_hint _)))
  unfold Builtin.«reversed.__length_hint__»
  refine wpAny_bind (wpAny_of_eq (a := Value.ref it) rfl ?_)
  refine wpAny_bind (wpAny_field ho hd (x := .ref t) rfl ?_)
  refine PySem.W.KFB.if_not rfl ?_
  refine wpAny_bind (PyProof.Rows.len_tuple ht (by omega) ?_)
  refine wpAny_bind (m := asInt? _) (wpAny_of_eq (a := some (items.size : Int)) (by rfl) ?_)
  refine wpAny_bind (wpAny_field (s := { s with toks := s.toks + 1 + 1 }) ho hd (x := rawInt ((items.size : Int) - 1)) rfl ?_)
  show wpAny _ _ (if (items.size : Int) < (items.size : Int) - 1 + 1 then _ else _) _ _ _
  rw [if_neg (by omega)]
  have e : (items.size : Int) - 1 + 1 = (items.size : Int) := by omega
  rw [e]
  unfold retInt
  refine wpAny_bind (wpAny_mkInt ?_)
  refine wpAny_pure ⟨_, rfl, ?_⟩
  generalize hz : s.toks + 1 + 1 + 1 = tk
  try dsimp only
  refine wpAny_bind ?_
  unfold asInt?
  refine wpAny_pure ?_
  try dsimp only
  have f1 : Builtin.List.listFitsIndex (items.size : Int) = true := by
    unfold Builtin.List.listFitsIndex
    simp only [Bool.and_eq_true, decide_eq_true_eq]
    omega
  have f2 : Builtin.List.listTooLong ((items.size : Int)).toNat = false := by
    unfold Builtin.List.listTooLong
    rw [sizeLine_eq]
    simp only [Int.toNat_natCast, decide_eq_false_iff_not]
    omega
  rw [f1, if_neg (by decide), if_neg (by omega), f2, if_neg (by decide)]
  refine wpAny_pure ?_
  exact h _ _
end
section
variable {X : Cx}
theorem rev_at {xs : List V} {i : Nat} (h : i < xs.length) : xs.reverse[i]? = xs[xs.length - 1 - i]? := List.getElem?_reverse h
theorem rt_loop {A1 : Around} {pins : List (Addr × Obj)} {σ : L2.St} {H : Hp} {q t it : Addr} {xs : List V} {Rs : Result → Shared → Prop} (hA : A1.in1.handled = Option.none) (hq : H q = Option.none) (ht : ∀ o, SqT X.K (upd H q o) t xs) (hqi : it ≠ q)
    (fp : H it = Option.none ∧ it ≠ X.env.locals ∧ (it ∈ X.ex ∨ X.s_0.heap.objs.size ≤ it) ∧ (∀ x c, X.env.cells.lookup x = some c → c ≠ it) ∧ ∀ p ∈ X.pn ++ pins, p.1 ≠ it)
    (hdone : ∀ s, Inv X pins σ (upd H q (.lst xs.reverse)) s → Rs (.ok (.ret .none)) s) (hlen : xs.length < sizeLine) :
    ∀ (m i : Nat) (s : Shared), xs.length - i = m → i ≤ xs.length → Inv X pins σ (upd H q (.lst (xs.reverse.take i))) s → IsRt s.heap it t ((xs.length : Int) - 1 - (i : Int)) → codeAny (model X.prog X.w) A1 (.builtin "list.extend.loop" ⟨[.ref q, .ref it, .none], []⟩) Rs s := by
  obtain ⟨f0, f1, f3, f4, f5⟩ := fp
  have f0' : ∀ o, (upd H q o) it = Option.none := fun o => by rw [upd_ne hqi]; exact f0
  have rl : xs.reverse.length = xs.length := List.length_reverse
  intro m
  induction m with
  | zero =>
    intro i s hm hi I st
    have e : i = xs.length := by omega
    subst e
    rw [List.take_of_length_le (by omega)] at I
    rw [show (xs.length : Int) - 1 - (xs.length : Int) = -1 by omega] at st
    refine codeAny_builtin PySem.F.entry_extend_loop ?_
    rw [Around.under_plainId PySem.F.plain_extend_loop _]
    show wpAny _ A1.in1 (pyNext (.ref it) >>= _) _ _ s
    refine wpAny_bind (next_rt_end hA st fun h' eb => ?_)
    exact wpAny_pure (hdone _ (I.turned (t' := s.toks) (fun b o hb z => eb b o hb z) (f0' _) f1 f3 f4 f5))
  | succ m ih =>
    intro i s hm hi I st
    have hlt : i < xs.length := by omega
    obtain ⟨its, rv, p, hz⟩ := I.tuple (ht _)
    have hj : xs.length - 1 - i < xs.length := by omega
    obtain ⟨u, hu, ru⟩ := rv.get (List.getElem?_eq_getElem hj)
    rw [show (xs.length : Int) - 1 - (i : Int) = ((xs.length - 1 - i : Nat) : Int) by omega] at st
    refine codeAny_builtin PySem.F.entry_extend_loop ?_
    rw [Around.under_plainId PySem.F.plain_extend_loop _]
    show wpAny _ A1.in1 (pyNext (.ref it) >>= _) _ _ s
    have hl0 := rv.length
    refine wpAny_bind (next_rt_item st p (x := u) (by simpa using hu) (by rw [List.size_toArray]; omega) fun h' st' sb => ?_)
    have I1 : Inv X pins σ (upd H q (.lst (xs.reverse.take i))) { s with heap := h', toks := s.toks + 1 } := I.turned (t' := s.toks + 1) (fun b o hb z => (sb.2 b hb).trans z) (f0' _) f1 f3 f4 f5
    show wpAny _ A1.in1 (updateSeq q (·.push u) >>= _) _ _ _
    obtain ⟨z, its2, k, r2, hl, e⟩ := I1.lstM upd_same
    have lt2 : its2.length < sizeLine := by rw [← hl, List.length_take]; omega
    have I2 := I1.lset (its' := its2 ++ [u]) (ys := xs.reverse.take (i + 1)) (f := (·.push u)) (t' := s.toks + 1) upd_same e (by simp) (by rw [List.take_add_one, rev_at hlt, List.getElem?_eq_getElem hj]; exact r2.append (.cons ru .nil)) (by rw [List.length_take]; omega)
    rw [upd_upd] at I2
    refine wpAny_bind (wpAny_updateSeq e rfl (wpAny_pure ⟨plainId_quiet PySem.F.plain_extend_loop _, ?_⟩) (by rw [List.size_toArray]; omega) (by show (its2.toArray.push u).size ≤ sizeLine + 1; rw [Array.size_push, List.size_toArray]; omega))
    refine ih (i + 1) _ (by omega) (by omega) I2 ?_
    rw [show (xs.length : Int) - 1 - ((i + 1 : Nat) : Int) = ((xs.length - 1 - i : Nat) : Int) - 1 by omega]
    exact st'.at fun o z => (Heap.get?_update_other h' (Obj.mapSeq (·.push u)) (Ne.symm hqi)).trans z
def tLstRevT (K : PySem.W.Frag) (te : TE) : TE := fun σ H Q => te σ H fun v H1 => ∃ (a : Addr) (xs : List V), v = .ref a ∧ SqT K H1 a xs ∧ xs.length < sizeLine ∧ ∀ q, H1 q = Option.none → Q (.ref q) (upd H1 q (.lst xs.reverse))
theorem pe_lstRevT {e : Expr} {te : TE} {p p2 pos pos2 : Pos} (hg : Gl X "list") (hm : X.mg "list" = Option.none) (hg2 : Gl X "reversed") (hm2 : X.mg "reversed" = Option.none) (he : PE X e te) (hh : X.A.handled = Option.none)
    (hs : starEach [e] X.env = (false, eval e X.env) :: starEach [] X.env := by rfl)
    (hs2 : starEach [.Call (.Name "reversed" p2) [e] [] pos2] X.env = (false, eval (.Call (.Name "reversed" p2) [e] [] pos2) X.env) :: starEach [] X.env := by rfl) :
    PE X (.Call (.Name "list" p) [.Call (.Name "reversed" p2) [e] [] pos2] [] pos) (tLstRevT X.K te) := by
  refine ⟨fun pins s0 σ H0 Q I0 h => ?_⟩
  refine Call_ (ld_blt I0 hg hm PyProof.Rows.boot_list (PyProof.Rows.callWith_type1 (args_cons (Call_ (ld_blt I0 hg2 hm2 PyProof.Rows.boot_reversed (PyProof.Rows.callWith_type1 (args_cons (thn (he.run pins s0 σ H0 _ I0 h) fun u s1 ⟨v, H, I1, r1, q1⟩ => args_nil ?_) hs) hs rfl))) hs2) hs2 rfl))
  obtain ⟨t, xs, ev, hq0, hlen, k⟩ := q1
  subst ev
  obtain rfl : u = Value.ref t := r1
  obtain ⟨its, rv, p', hz⟩ := I1.tuple hq0
  have hl := rv.length
  have hn := line63
  have hsz : its.toArray.size ≤ sizeLine := by rw [List.size_toArray, ← hl]; omega
  refine call_reversed_tup p' (fun A E Q k => PyProof.Rows.len_tuple p' (by simp only [List.size_toArray] <;> omega) k) (args_nil ?_)
  obtain ⟨s, hs2e⟩ : ∃ s : Shared, s = { s1 with heap := s1.heap.push (rtObj t ((its.toArray.size : Int) - 1)), toks := s1.toks + 1 + 1 } := ⟨_, rfl⟩
  obtain ⟨it, hite⟩ : ∃ it, it = s1.heap.objs.size := ⟨_, rfl⟩
  have k0 : ∀ b o, s1.heap.get? b = some o → s.heap.get? b = some o := fun b o e => by rw [hs2e]; exact Heap.get?_push_of_some _ e
  have I : Inv X pins σ H s := by rw [hs2e]; exact I1.kept (t' := s1.toks + 1 + 1) (fun b o e => Heap.get?_push_of_some _ e)
  obtain ⟨f0, f1, f2, f3, f4, f5⟩ := I1.fpOk (H' := H) (b := s1.heap.objs.size) (Nat.le_refl _) (I1.hok.fresh (Nat.le_refl _))
  have st0 : IsRt s.heap it t ((its.toArray.size : Int) - 1) := by rw [hs2e, hite]; exact ⟨_, Heap.get?_push_size _ rfl, rfl, rfl⟩
  rw [← hite] at f0 f1 f3 f4 f5
  rw [← hs2e, ← hite]
  have pt : IsTup s.heap t its.toArray := by
    obtain ⟨its2, rv2, p2, hz2⟩ := I.tuple hq0
    rw [hs2e]
    exact p'.push _
  clear hs2e
  have hS : (s.heap.push { cls := .type "list", data := .seq #[] }).get? s.heap.objs.size = some { cls := .type "list", data := .seq #[] } := Heap.get?_push_size _ rfl
  have fr : H s.heap.objs.size = Option.none := I.hok.fresh (Nat.le_refl _)
  have hqi : it ≠ s.heap.objs.size := by
    obtain ⟨o, ho, _⟩ := id st0
    exact Nat.ne_of_lt (Heap.lt_size ho)
  have st1 : IsRt (s.heap.push { cls := .type "list", data := .seq #[] }) it t ((its.toArray.size : Int) - 1) := st0.at fun o e => Heap.get?_push_of_some _ e
  have I1' : Inv X pins σ (upd H s.heap.objs.size (.lst [])) { s with heap := s.heap.push { cls := .type "list", data := .seq #[] } } := I.lnew (its := []) (t' := s.toks) .nil (Nat.zero_le _)
  have I2 := I1'.lset (f := fun _ => #[]) (its := []) (its' := []) (ys := []) (t' := s.toks) upd_same hS rfl .nil (Nat.zero_le _)
  rw [upd_upd] at I2
  generalize hqa : s.heap.objs.size = q at *
  refine callType_codes (Q₁ := fun obj s₁ => obj = .ref q ∧ s₁ = { s with heap := s.heap.push { cls := .type "list", data := .seq #[] } }) PySem.F.called_list (PySem.F.typeCall_list_1 _) PySem.F.entry_list_init
    (by rw [← hqa]; exact code_list_new _ ⟨rfl, rfl⟩) fun obj s₁ h₁ => ?_
  obtain ⟨rfl, rfl⟩ := h₁
  refine ⟨⟨_, hS, rfl⟩, PySem.F.args_list_init_2 _ _, ?_⟩
  show wpAny _ _ (do let old ← Builtin.List.listItems (.ref q); Builtin.List.listUpdate (.ref q) (fun _ => #[]); letGo old.toList.reverse; Builtin.List.listExtendWith (.ref q) (.ref it) .none) _ _ _
  refine wpAny_bind ?_
  unfold Builtin.List.listItems
  refine wpAny_bind (wpAny_seqItems hS rfl (wpAny_pure ?_))
  show wpAny _ _ (updateSeq q (fun _ => #[]) >>= fun _ => letGo (#[] : Array Value).toList.reverse >>= fun _ => Builtin.List.listExtendWith (.ref q) (.ref it) .none) _ _ _
  refine wpAny_bind (wpAny_updateSeq hS rfl (wpAny_bind (wpAny_letGo ?_)))
  have ht2 : ∀ o, SqT X.K (upd H q o) t xs := fun o => hq0.ext (Ext.upd fr)
  have st2 := st1.at (h' := (s.heap.push { cls := .type "list", data := .seq #[] }).update q (Obj.mapSeq fun _ => #[])) fun o e => (Heap.get?_update_other _ _ (Ne.symm hqi)).trans e
  unfold Builtin.List.listExtendWith
  refine wpAny_bind (wpAny_typeOf st2.typeIs ?_)
  have e1 : Builtin.List.listSameRef (.ref q) (.ref it) = false := by simp [Builtin.List.listSameRef, Ne.symm hqi]
  have e2 : (Value.type "reversed" == Value.type "list") = false := rfl
  have e3 : (Value.type "reversed" == Value.type "tuple") = false := rfl
  simp only [e1, e2, e3, Bool.or_false, Bool.false_eq_true, if_false]
  refine wpAny_bind (iter_rt st2 ?_)
  obtain ⟨its2, rv2, p2, hz2⟩ := I2.tuple (ht2 _)
  have hsz2 : its2.toArray.size = its.toArray.size := by rw [List.size_toArray, List.size_toArray, ← rv2.length, hl]
  rw [← hsz2] at st2
  refine wpAny_bind (wpAny_holding (hint_rt st2 p2 (by rw [hsz2]; exact hsz) fun tk room => ?_))
  rw [show ((its2.toArray.size : Nat) : Int) - 1 = (xs.length : Int) - 1 - ((0 : Nat) : Int) by rw [hsz2, List.size_toArray, ← hl]; omega] at st2
  have I4 := I2.tok tk
  have loop := fun (Rs : Result → Shared → Prop) hd => rt_loop (A1 := X.A.in1) (Rs := Rs) (pins := pins) (σ := σ) (H := H) (q := q) (t := t) (it := it) (xs := xs) hh fr ht2 hqi ⟨f0, f1, f3, f4, f5⟩ hd hlen xs.length 0
  have fin : ∀ s4, Inv X pins σ (upd H q (.lst xs.reverse)) s4 → wants (fun r s₂ => r = .none ∧ EP X pins σ Q (.ref q) s₂) X.xe (.ok (.ret .none)) s4 := fun s4 I5 => ⟨rfl, .ref q, _, I5, rfl, k q fr⟩
  obtain ⟨z5, its5, k5, r5, hl5, e5⟩ := I4.lstM upd_same
  cases r5
  refine wpAny_ite_split (fun _ => ?_) (fun _ => wpAny_pure ⟨plainId_quiet PySem.F.plain_extend_loop _, loop _ fin _ (Nat.sub_zero _) (Nat.zero_le _) I4 st2⟩)
  refine wpAny_bind (wpAny_rule (wpAny_bind ?_))
  show wpAny _ _ (updateSeq q (·.push .none) >>= fun _ => updateSeq q (·.pop)) _ _ _
  refine wpAny_bind (wpAny_updateSeq e5 rfl ?_)
  have I6 := I4.lset (f := (·.push Value.none)) (its' := [Value.none]) (ys := [.non]) (t' := tk) upd_same e5 (by simp) (.cons rfl .nil) (by rw [List.length_singleton, sizeLine_eq]; decide)
  obtain ⟨z7, its7, k7, r7, hl7, e7⟩ := I6.lstM upd_same
  obtain ⟨u7, rfl, ru7⟩ := r7.one
  refine wpAny_updateSeq e7 rfl ?_ (by show 1 ≤ sizeLine; rw [sizeLine_eq]; decide) (by show 0 ≤ sizeLine + 1; exact Nat.zero_le _)
  have I8 := I6.lset (f := (·.pop)) (its := [u7]) (its' := []) (ys := []) (t' := tk) upd_same e7 (by rfl) .nil (Nat.zero_le _)
  rw [upd_upd, upd_upd] at I8
  refine wpAny_pure ⟨plainId_quiet PySem.F.plain_extend_loop _, loop _ fin _ (Nat.sub_zero _) (Nat.zero_le _) I8 (st2.at fun o z => ?_)⟩
  exact (Heap.get?_update_other _ _ (Ne.symm hqi)).trans ((Heap.get?_update_other _ _ (Ne.symm hqi)).trans z)
end
end OwnOp

/-! ### text * int -/
namespace OwnOp
open PySem PySem.Spec PyProof.Rows L2
theorem fold_app (a : Array Nat) : ∀ (n : Nat) (acc : Array Nat), ((List.replicate n a).foldl (· ++ ·) acc).toList = acc.toList ++ (List.replicate n a.toList).flatten
  | 0, acc => by simp
  | n + 1, acc => by
    rw [List.replicate_succ, List.foldl_cons, fold_app a n, List.replicate_succ, List.flatten_cons, Array.toList_append, List.append_assoc]
theorem mul_cs (z : Str) (n : Int) : (Txt.mul z n).cps.toList = (List.replicate n.toNat z.cps.toList).flatten := by
  unfold Txt.mul
  by_cases h1 : n < 1
  · rw [if_pos h1, show n.toNat = 0 by omega]
    rfl
  · rw [if_neg h1]
    by_cases h2 : n = 1
    · subst h2
      show z.cps.toList = _
      rw [show (1 : Int).toNat = 1 from rfl]
      simp
    · by_cases h3 : z.length = 0
      · have e : (n == 1 || z.length == 0) = true := by simp [h3]
        rw [if_pos e]
        have hz : z.cps.toList = [] := by
          have : z.cps.size = 0 := h3
          exact List.eq_nil_of_length_eq_zero (by rw [Array.length_toList]; exact this)
        rw [hz]
        induction n.toNat with
        | zero => rfl
        | succ m ih => rw [List.replicate_succ, List.flatten_cons, ← ih]; rfl
      · have e : ¬ (n == 1 || z.length == 0) = true := by simp [h2, h3]
        rw [if_neg e]
        show ((List.replicate n.toNat z.cps).foldl (· ++ ·) #[]).toList = _
        rw [fold_app]
        rfl
theorem mulOk {z : Str} {n : Int} (hz : z.length ≤ 4000) (h1 : -(2 ^ 62) ≤ n) (h2 : n ≤ 4000) : MulOk z n := by
  refine ⟨by simp; omega, fun h _ => ?_, fun h _ => ?_⟩
  · have : (z.length : Int) ≤ 4000 := by omega
    have h3 : (4000 : Int) ≤ (2 ^ 63 - 1) / n := by
      refine Int.le_ediv_of_mul_le (by omega) ?_
      have : (4000 : Int) * n ≤ 4000 * 4000 := Int.mul_le_mul_of_nonneg_left h2 (by decide)
      omega
    omega
  · unfold Builtin.Str.tooLong
    rw [sizeLine_eq]
    have : z.length * n.toNat ≤ 4000 * 4000 := Nat.mul_le_mul hz (by omega)
    simp only [decide_eq_false_iff_not]
    omega
theorem op_mulS {X : Cx} : OpR X (binaryOp .Mult) (fun x y H Q => ∃ z n, x = .str z ∧ y = .int n ∧ z.length ≤ 4000 ∧ -(2 ^ 62) ≤ n ∧ n ≤ 4000 ∧ Q (.str (Txt.mul z n)) H) := by
  intro pins s σ H x y v u Q I rx ry h
  obtain ⟨z, n, rfl, rfl, hz, h1, h2, q⟩ := h
  obtain ⟨t, rfl⟩ := rx
  obtain ⟨t', rfl⟩ := ry
  exact SB.mul (mulOk hz h1 h2) fun t' k => ⟨.str (Txt.mul z n), H, I.tok _, ⟨_, rfl⟩, q⟩
end OwnOp

namespace OwnOp
open PySem PySem.Spec PyProof.Rows L2
theorem mulOk2 {z : Str} {n : Int} (hz : z.length ≤ 2) (h1 : -(2 ^ 62) ≤ n) (h2 : n ≤ 4000000) : MulOk z n := by
  refine ⟨by simp; omega, fun h _ => ?_, fun h _ => ?_⟩
  · have : (z.length : Int) ≤ 4000 := by omega
    have h3 : (4000 : Int) ≤ (2 ^ 63 - 1) / n := by
      refine Int.le_ediv_of_mul_le (by omega) ?_
      have : (4000 : Int) * n ≤ 4000 * 4000000 := Int.mul_le_mul_of_nonneg_left h2 (by decide)
      omega
    omega
  · unfold Builtin.Str.tooLong
    rw [sizeLine_eq]
    have : z.length * n.toNat ≤ 2 * 4000000 := Nat.mul_le_mul hz (by omega)
    simp only [decide_eq_false_iff_not]
    omega
theorem op_mulN {X : Cx} : OpR X (binaryOp .Mult) (fun x y H Q => ∃ z n, x = .str z ∧ y = .int n ∧ z.length ≤ 2 ∧ -(2 ^ 62) ≤ n ∧ n ≤ 4000000 ∧ Q (.str (Txt.mul z n)) H) := by
  intro pins s σ H x y v u Q I rx ry h
  obtain ⟨z, n, rfl, rfl, hz, h1, h2, q⟩ := h
  obtain ⟨t, rfl⟩ := rx
  obtain ⟨t', rfl⟩ := ry
  exact SB.mul (mulOk2 hz h1 h2) fun t' k => ⟨.str (Txt.mul z n), H, I.tok _, ⟨_, rfl⟩, q⟩
end OwnOp

namespace M
open PySem PySem.Spec PyProof.Rows L2
def topS (i : Nat) : Stmt := PySem.Challenge.pw_mendedtree_k33_tree_faults.main.body.getD i (.Pass ⟨0, 0, 0, 0⟩)
abbrev s_TreeError_init : Stmt := inClass (topS 6) 0
theorem sc_TreeError_init : FnScope ["self", "place"] ["self", "place"] (defScope s_TreeError_init) := ⟨rfl, rfl, rfl, by decide +kernel, rfl, by decide +kernel, by decide +kernel⟩
abbrev s_Node_init : Stmt := inClass (topS 20) 0
theorem sc_Node_init : FnScope ["self", "kind", "symbol", "state", "lead", "width", "look", "alternative", "nodes", "popped"] ["self", "kind", "symbol", "state", "lead", "width", "look", "alternative", "nodes", "popped"] (defScope s_Node_init) := ⟨rfl, rfl, rfl, by decide +kernel, rfl, by decide +kernel, by decide +kernel⟩
abbrev s_read_tree : Stmt := topS 24
theorem sc_read_tree : FnScope ["notation", "reader", "opened", "words", "nodes", "node"] ["notation"] (defScope s_read_tree) := ⟨rfl, rfl, rfl, by decide +kernel, rfl, by decide +kernel, by decide +kernel⟩
abbrev s_node : Stmt := topS 25
theorem sc_node : FnScope ["words", "nodes", "kind", "symbol", "state", "lead", "width", "look", "alternative", "popped"] ["words", "nodes"] (defScope s_node) := ⟨rfl, rfl, rfl, by decide +kernel, rfl, by decide +kernel, by decide +kernel⟩
abbrev s_Reader_init : Stmt := inClass (topS 26) 0
theorem sc_Reader_init : FnScope ["self", "notation", "char"] ["self", "notation"] (defScope s_Reader_init) := ⟨rfl, rfl, rfl, by decide +kernel, rfl, by decide +kernel, by decide +kernel⟩
abbrev s_Reader__char : Stmt := inClass (topS 26) 1
theorem sc_Reader__char : FnScope ["self"] ["self"] (defScope s_Reader__char) := ⟨rfl, rfl, rfl, by decide +kernel, rfl, by decide +kernel, by decide +kernel⟩
abbrev s_Reader__pass_one_of : Stmt := inClass (topS 26) 2
theorem sc_Reader__pass_one_of : FnScope ["self", "chars"] ["self", "chars"] (defScope s_Reader__pass_one_of) := ⟨rfl, rfl, rfl, by decide +kernel, rfl, by decide +kernel, by decide +kernel⟩
abbrev s_Reader_sign : Stmt := inClass (topS 26) 3
theorem sc_Reader_sign : FnScope ["self", "char"] ["self", "char"] (defScope s_Reader_sign) := ⟨rfl, rfl, rfl, by decide +kernel, rfl, by decide +kernel, by decide +kernel⟩
abbrev s_Reader_goes_on : Stmt := inClass (topS 26) 4
theorem sc_Reader_goes_on : FnScope ["self"] ["self"] (defScope s_Reader_goes_on) := ⟨rfl, rfl, rfl, by decide +kernel, rfl, by decide +kernel, by decide +kernel⟩
abbrev s_Reader_finish : Stmt := inClass (topS 26) 5
theorem sc_Reader_finish : FnScope ["self"] ["self"] (defScope s_Reader_finish) := ⟨rfl, rfl, rfl, by decide +kernel, rfl, by decide +kernel, by decide +kernel⟩
abbrev s_Reader_words : Stmt := inClass (topS 26) 6
theorem sc_Reader_words : FnScope ["self", "words", "signed"] ["self"] (defScope s_Reader_words) := ⟨rfl, rfl, rfl, by decide +kernel, rfl, by decide +kernel, by decide +kernel⟩
abbrev s_Reader__name : Stmt := inClass (topS 26) 7
theorem sc_Reader__name : FnScope ["self", "begin"] ["self"] (defScope s_Reader__name) := ⟨rfl, rfl, rfl, by decide +kernel, rfl, by decide +kernel, by decide +kernel⟩
abbrev s_Reader__pass_literal : Stmt := inClass (topS 26) 8
theorem sc_Reader__pass_literal : FnScope ["self", "first"] ["self"] (defScope s_Reader__pass_literal) := ⟨rfl, rfl, rfl, by decide +kernel, rfl, by decide +kernel, by decide +kernel⟩
abbrev s_Reader__number : Stmt := inClass (topS 26) 9
theorem sc_Reader__number : FnScope ["self", "signed", "begin"] ["self", "signed"] (defScope s_Reader__number) := ⟨rfl, rfl, rfl, by decide +kernel, rfl, by decide +kernel, by decide +kernel⟩
abbrev s_law_reel : Stmt := topS 28
theorem sc_law_reel : FnScope ["script", "reel", "k", "cell", "rest", "turn", "mixed"] ["script"] (defScope s_law_reel) := ⟨rfl, rfl, rfl, by decide +kernel, rfl, by decide +kernel, by decide +kernel⟩
abbrev s_law_draw : Stmt := topS 29
theorem sc_law_draw : FnScope ["reel", "size", "count", "at"] ["reel", "size"] (defScope s_law_draw) := ⟨rfl, rfl, rfl, by decide +kernel, rfl, by decide +kernel, by decide +kernel⟩
abbrev s_law_pick : Stmt := topS 30
theorem sc_law_pick : FnScope ["reel", "row"] ["reel", "row"] (defScope s_law_pick) := ⟨rfl, rfl, rfl, by decide +kernel, rfl, by decide +kernel, by decide +kernel⟩
abbrev s_law_word : Stmt := topS 31
theorem sc_law_word : FnScope ["reel", "letters", "least", "most", "k"] ["reel", "letters", "least", "most"] (defScope s_law_word) := ⟨rfl, rfl, rfl, by decide +kernel, rfl, by decide +kernel, by decide +kernel⟩
abbrev s_law_quoted : Stmt := topS 32
theorem sc_law_quoted : FnScope ["chars", "text", "char"] ["chars"] (defScope s_law_quoted) := ⟨rfl, rfl, rfl, by decide +kernel, rfl, by decide +kernel, by decide +kernel⟩
abbrev s_law_literal : Stmt := topS 33
theorem sc_law_literal : FnScope ["reel", "plain", "chars", "turn"] ["reel"] (defScope s_law_literal) := ⟨rfl, rfl, rfl, by decide +kernel, rfl, by decide +kernel, by decide +kernel⟩
abbrev s_law_name : Stmt := topS 34
theorem sc_law_name : FnScope ["reel", "letters"] ["reel"] (defScope s_law_name) := ⟨rfl, rfl, rfl, by decide +kernel, rfl, by decide +kernel, by decide +kernel⟩
abbrev s_law_sort : Stmt := topS 35
theorem sc_law_sort : FnScope ["reel"] ["reel"] (defScope s_law_sort) := ⟨rfl, rfl, rfl, by decide +kernel, rfl, by decide +kernel, by decide +kernel⟩
abbrev s_law_comb : Stmt := topS 36
theorem sc_law_comb : FnScope ["reel", "deep", "right", "levels", "k"] ["reel", "deep"] (defScope s_law_comb) := ⟨rfl, rfl, rfl, by decide +kernel, rfl, by decide +kernel, by decide +kernel⟩
abbrev s_law_levels : Stmt := topS 37
theorem sc_law_levels : FnScope ["reel", "levels", "size", "turn", "drop"] ["reel"] (defScope s_law_levels) := ⟨rfl, rfl, rfl, by decide +kernel, rfl, by decide +kernel, by decide +kernel⟩
abbrev s_law_count : Stmt := topS 38
theorem sc_law_count : FnScope ["reel", "least", "form"] ["reel", "least"] (defScope s_law_count) := ⟨rfl, rfl, rfl, by decide +kernel, rfl, by decide +kernel, by decide +kernel⟩
abbrev s_law_row : Stmt := topS 39
theorem sc_law_row : FnScope ["reel", "level", "first", "second", "numbers", "least"] ["reel", "level"] (defScope s_law_row) := ⟨rfl, rfl, rfl, by decide +kernel, rfl, by decide +kernel, by decide +kernel⟩
abbrev s_law_joined : Stmt := topS 40
theorem sc_law_joined : FnScope ["levels", "table", "pieces", "last", "k"] ["levels", "table"] (defScope s_law_joined) := ⟨rfl, rfl, rfl, by decide +kernel, rfl, by decide +kernel, by decide +kernel⟩
abbrev s_law_place : Stmt := topS 41
theorem sc_law_place : FnScope ["reel", "size"] ["reel", "size"] (defScope s_law_place) := ⟨rfl, rfl, rfl, by decide +kernel, rfl, by decide +kernel, by decide +kernel⟩
abbrev s_law_odd_number : Stmt := topS 42
theorem sc_law_odd_number : FnScope ["reel", "words"] ["reel"] (defScope s_law_odd_number) := ⟨rfl, rfl, rfl, by decide +kernel, rfl, by decide +kernel, by decide +kernel⟩
abbrev s_law_sign : Stmt := topS 43
theorem sc_law_sign : FnScope ["reel", "signs"] ["reel"] (defScope s_law_sign) := ⟨rfl, rfl, rfl, by decide +kernel, rfl, by decide +kernel, by decide +kernel⟩
abbrev s_law_odd_word : Stmt := topS 44
theorem sc_law_odd_word : FnScope ["reel", "form", "sign", "words"] ["reel"] (defScope s_law_odd_word) := ⟨rfl, rfl, rfl, by decide +kernel, rfl, by decide +kernel, by decide +kernel⟩
abbrev s_law_other_words : Stmt := topS 45
theorem sc_law_other_words : FnScope ["reel", "levels", "table", "at", "slot", "word", "spoilt", "words"] ["reel", "levels", "table"] (defScope s_law_other_words) := ⟨rfl, rfl, rfl, by decide +kernel, rfl, by decide +kernel, by decide +kernel⟩
abbrev s_law_changed : Stmt := topS 46
theorem sc_law_changed : FnScope ["reel", "text", "form", "at", "sign"] ["reel", "text"] (defScope s_law_changed) := ⟨rfl, rfl, rfl, by decide +kernel, rfl, by decide +kernel, by decide +kernel⟩
abbrev s_law_next : Stmt := topS 47
theorem sc_law_next : FnScope ["slot", "mood", "size", "char", "letters", "digits"] ["slot", "mood", "size", "char"] (defScope s_law_next) := ⟨rfl, rfl, rfl, by decide +kernel, rfl, by decide +kernel, by decide +kernel⟩
abbrev s_law_fault : Stmt := topS 48
theorem sc_law_fault : FnScope ["text", "depth", "slot", "mood", "size", "k", "char"] ["text"] (defScope s_law_fault) := ⟨rfl, rfl, rfl, by decide +kernel, rfl, by decide +kernel, by decide +kernel⟩
abbrev s_law_again : Stmt := topS 49
theorem sc_law_again : FnScope ["root", "most", "pieces", "todo", "last", "turn", "level", "node", "numbers", "number", "words", "k"] ["root", "most"] (defScope s_law_again) := ⟨rfl, rfl, rfl, by decide +kernel, rfl, by decide +kernel, by decide +kernel⟩
abbrev s_law_refused : Stmt := topS 50
theorem sc_law_refused : FnScope ["text", "due", "e"] ["text", "due"] (defScope s_law_refused) := ⟨rfl, rfl, rfl, by decide +kernel, rfl, by decide +kernel, by decide +kernel⟩
abbrev s_law_refused_by_base : Stmt := topS 51
theorem sc_law_refused_by_base : FnScope ["text", "e"] ["text"] (defScope s_law_refused_by_base) := ⟨rfl, rfl, rfl, by decide +kernel, rfl, by decide +kernel, by decide +kernel⟩
abbrev s_law_spoilt : Stmt := topS 52
theorem sc_law_spoilt : FnScope ["reel", "levels", "table", "form", "text"] ["reel", "levels", "table"] (defScope s_law_spoilt) := ⟨rfl, rfl, rfl, by decide +kernel, rfl, by decide +kernel, by decide +kernel⟩
abbrev s_law : Stmt := topS 53
theorem sc_law : FnScope ["script", "reel", "levels", "many", "rows", "level", "table", "number", "row", "good", "texts", "turn", "dues", "text", "k"] ["script"] (defScope s_law) := ⟨rfl, rfl, rfl, by decide +kernel, rfl, by decide +kernel, by decide +kernel⟩
structure Txt (K : PySem.W.Frag) (mg : Str → Option Value) where
  a_TreeError_init : Addr
  fd_TreeError_init : FuncData
  F_TreeError_init : Fun K "__init__" "TreeError.__init__" s_TreeError_init a_TreeError_init fd_TreeError_init
  b_TreeError_init : Binds K fd_TreeError_init ["self", "place"] []
  a_Node_init : Addr
  fd_Node_init : FuncData
  F_Node_init : Fun K "__init__" "Node.__init__" s_Node_init a_Node_init fd_Node_init
  T0_Node : Addr
  t0_Node : ∃ (oc : Option Addr) (n : Nat) (sl : Array (Option Value)), K.lookup T0_Node = some ⟨.type "tuple", oc, .seq #[] n, sl⟩
  FD_Node_init : FunD K "__init__" "Node.__init__" (defArgs s_Node_init) (defBody s_Node_init) (defScope s_Node_init) [] [("alternative", V.int (-1)), ("nodes", V.ref T0_Node), ("popped", V.int (0))] a_Node_init fd_Node_init
  a_read_tree : Addr
  fd_read_tree : FuncData
  F_read_tree : Fun K "read_tree" "read_tree" s_read_tree a_read_tree fd_read_tree
  b_read_tree : Binds K fd_read_tree ["notation"] []
  g_read_tree : mg "read_tree" = some (.ref a_read_tree)
  a_node : Addr
  fd_node : FuncData
  F_node : Fun K "_node" "_node" s_node a_node fd_node
  b_node : Binds K fd_node ["words", "nodes"] []
  g_node : mg "_node" = some (.ref a_node)
  a_Reader_init : Addr
  fd_Reader_init : FuncData
  F_Reader_init : Fun K "__init__" "Reader.__init__" s_Reader_init a_Reader_init fd_Reader_init
  b_Reader_init : Binds K fd_Reader_init ["self", "notation"] []
  a_Reader__char : Addr
  fd_Reader__char : FuncData
  F_Reader__char : Fun K "_char" "Reader._char" s_Reader__char a_Reader__char fd_Reader__char
  b_Reader__char : Binds K fd_Reader__char ["self"] []
  a_Reader__pass_one_of : Addr
  fd_Reader__pass_one_of : FuncData
  F_Reader__pass_one_of : Fun K "_pass_one_of" "Reader._pass_one_of" s_Reader__pass_one_of a_Reader__pass_one_of fd_Reader__pass_one_of
  b_Reader__pass_one_of : Binds K fd_Reader__pass_one_of ["self", "chars"] []
  a_Reader_sign : Addr
  fd_Reader_sign : FuncData
  F_Reader_sign : Fun K "sign" "Reader.sign" s_Reader_sign a_Reader_sign fd_Reader_sign
  b_Reader_sign : Binds K fd_Reader_sign ["self", "char"] []
  a_Reader_goes_on : Addr
  fd_Reader_goes_on : FuncData
  F_Reader_goes_on : Fun K "goes_on" "Reader.goes_on" s_Reader_goes_on a_Reader_goes_on fd_Reader_goes_on
  b_Reader_goes_on : Binds K fd_Reader_goes_on ["self"] []
  a_Reader_finish : Addr
  fd_Reader_finish : FuncData
  F_Reader_finish : Fun K "finish" "Reader.finish" s_Reader_finish a_Reader_finish fd_Reader_finish
  b_Reader_finish : Binds K fd_Reader_finish ["self"] []
  a_Reader_words : Addr
  fd_Reader_words : FuncData
  F_Reader_words : Fun K "words" "Reader.words" s_Reader_words a_Reader_words fd_Reader_words
  b_Reader_words : Binds K fd_Reader_words ["self"] []
  a_Reader__name : Addr
  fd_Reader__name : FuncData
  F_Reader__name : Fun K "_name" "Reader._name" s_Reader__name a_Reader__name fd_Reader__name
  b_Reader__name : Binds K fd_Reader__name ["self"] []
  a_Reader__pass_literal : Addr
  fd_Reader__pass_literal : FuncData
  F_Reader__pass_literal : Fun K "_pass_literal" "Reader._pass_literal" s_Reader__pass_literal a_Reader__pass_literal fd_Reader__pass_literal
  b_Reader__pass_literal : Binds K fd_Reader__pass_literal ["self"] []
  a_Reader__number : Addr
  fd_Reader__number : FuncData
  F_Reader__number : Fun K "_number" "Reader._number" s_Reader__number a_Reader__number fd_Reader__number
  b_Reader__number : Binds K fd_Reader__number ["self", "signed"] []
  a_law_reel : Addr
  fd_law_reel : FuncData
  F_law_reel : Fun K "_law_reel" "_law_reel" s_law_reel a_law_reel fd_law_reel
  b_law_reel : Binds K fd_law_reel ["script"] []
  g_law_reel : mg "_law_reel" = some (.ref a_law_reel)
  a_law_draw : Addr
  fd_law_draw : FuncData
  F_law_draw : Fun K "_law_draw" "_law_draw" s_law_draw a_law_draw fd_law_draw
  b_law_draw : Binds K fd_law_draw ["reel", "size"] []
  g_law_draw : mg "_law_draw" = some (.ref a_law_draw)
  a_law_pick : Addr
  fd_law_pick : FuncData
  F_law_pick : Fun K "_law_pick" "_law_pick" s_law_pick a_law_pick fd_law_pick
  b_law_pick : Binds K fd_law_pick ["reel", "row"] []
  g_law_pick : mg "_law_pick" = some (.ref a_law_pick)
  a_law_word : Addr
  fd_law_word : FuncData
  F_law_word : Fun K "_law_word" "_law_word" s_law_word a_law_word fd_law_word
  b_law_word : Binds K fd_law_word ["reel", "letters", "least", "most"] []
  g_law_word : mg "_law_word" = some (.ref a_law_word)
  a_law_quoted : Addr
  fd_law_quoted : FuncData
  F_law_quoted : Fun K "_law_quoted" "_law_quoted" s_law_quoted a_law_quoted fd_law_quoted
  b_law_quoted : Binds K fd_law_quoted ["chars"] []
  g_law_quoted : mg "_law_quoted" = some (.ref a_law_quoted)
  a_law_literal : Addr
  fd_law_literal : FuncData
  F_law_literal : Fun K "_law_literal" "_law_literal" s_law_literal a_law_literal fd_law_literal
  b_law_literal : Binds K fd_law_literal ["reel"] []
  g_law_literal : mg "_law_literal" = some (.ref a_law_literal)
  a_law_name : Addr
  fd_law_name : FuncData
  F_law_name : Fun K "_law_name" "_law_name" s_law_name a_law_name fd_law_name
  b_law_name : Binds K fd_law_name ["reel"] []
  g_law_name : mg "_law_name" = some (.ref a_law_name)
  a_law_sort : Addr
  fd_law_sort : FuncData
  F_law_sort : Fun K "_law_sort" "_law_sort" s_law_sort a_law_sort fd_law_sort
  b_law_sort : Binds K fd_law_sort ["reel"] []
  g_law_sort : mg "_law_sort" = some (.ref a_law_sort)
  a_law_comb : Addr
  fd_law_comb : FuncData
  F_law_comb : Fun K "_law_comb" "_law_comb" s_law_comb a_law_comb fd_law_comb
  b_law_comb : Binds K fd_law_comb ["reel", "deep"] []
  g_law_comb : mg "_law_comb" = some (.ref a_law_comb)
  a_law_levels : Addr
  fd_law_levels : FuncData
  F_law_levels : Fun K "_law_levels" "_law_levels" s_law_levels a_law_levels fd_law_levels
  b_law_levels : Binds K fd_law_levels ["reel"] []
  g_law_levels : mg "_law_levels" = some (.ref a_law_levels)
  a_law_count : Addr
  fd_law_count : FuncData
  F_law_count : Fun K "_law_count" "_law_count" s_law_count a_law_count fd_law_count
  b_law_count : Binds K fd_law_count ["reel", "least"] []
  g_law_count : mg "_law_count" = some (.ref a_law_count)
  a_law_row : Addr
  fd_law_row : FuncData
  F_law_row : Fun K "_law_row" "_law_row" s_law_row a_law_row fd_law_row
  b_law_row : Binds K fd_law_row ["reel", "level"] []
  g_law_row : mg "_law_row" = some (.ref a_law_row)
  a_law_joined : Addr
  fd_law_joined : FuncData
  F_law_joined : Fun K "_law_joined" "_law_joined" s_law_joined a_law_joined fd_law_joined
  b_law_joined : Binds K fd_law_joined ["levels", "table"] []
  g_law_joined : mg "_law_joined" = some (.ref a_law_joined)
  a_law_place : Addr
  fd_law_place : FuncData
  F_law_place : Fun K "_law_place" "_law_place" s_law_place a_law_place fd_law_place
  b_law_place : Binds K fd_law_place ["reel", "size"] []
  g_law_place : mg "_law_place" = some (.ref a_law_place)
  a_law_odd_number : Addr
  fd_law_odd_number : FuncData
  F_law_odd_number : Fun K "_law_odd_number" "_law_odd_number" s_law_odd_number a_law_odd_number fd_law_odd_number
  b_law_odd_number : Binds K fd_law_odd_number ["reel"] []
  g_law_odd_number : mg "_law_odd_number" = some (.ref a_law_odd_number)
  a_law_sign : Addr
  fd_law_sign : FuncData
  F_law_sign : Fun K "_law_sign" "_law_sign" s_law_sign a_law_sign fd_law_sign
  b_law_sign : Binds K fd_law_sign ["reel"] []
  g_law_sign : mg "_law_sign" = some (.ref a_law_sign)
  a_law_odd_word : Addr
  fd_law_odd_word : FuncData
  F_law_odd_word : Fun K "_law_odd_word" "_law_odd_word" s_law_odd_word a_law_odd_word fd_law_odd_word
  b_law_odd_word : Binds K fd_law_odd_word ["reel"] []
  g_law_odd_word : mg "_law_odd_word" = some (.ref a_law_odd_word)
  a_law_other_words : Addr
  fd_law_other_words : FuncData
  F_law_other_words : Fun K "_law_other_words" "_law_other_words" s_law_other_words a_law_other_words fd_law_other_words
  b_law_other_words : Binds K fd_law_other_words ["reel", "levels", "table"] []
  g_law_other_words : mg "_law_other_words" = some (.ref a_law_other_words)
  a_law_changed : Addr
  fd_law_changed : FuncData
  F_law_changed : Fun K "_law_changed" "_law_changed" s_law_changed a_law_changed fd_law_changed
  b_law_changed : Binds K fd_law_changed ["reel", "text"] []
  g_law_changed : mg "_law_changed" = some (.ref a_law_changed)
  a_law_next : Addr
  fd_law_next : FuncData
  F_law_next : Fun K "_law_next" "_law_next" s_law_next a_law_next fd_law_next
  b_law_next : Binds K fd_law_next ["slot", "mood", "size", "char"] []
  g_law_next : mg "_law_next" = some (.ref a_law_next)
  a_law_fault : Addr
  fd_law_fault : FuncData
  F_law_fault : Fun K "_law_fault" "_law_fault" s_law_fault a_law_fault fd_law_fault
  b_law_fault : Binds K fd_law_fault ["text"] []
  g_law_fault : mg "_law_fault" = some (.ref a_law_fault)
  a_law_again : Addr
  fd_law_again : FuncData
  F_law_again : Fun K "_law_again" "_law_again" s_law_again a_law_again fd_law_again
  b_law_again : Binds K fd_law_again ["root", "most"] []
  g_law_again : mg "_law_again" = some (.ref a_law_again)
  a_law_refused : Addr
  fd_law_refused : FuncData
  F_law_refused : Fun K "_law_refused" "_law_refused" s_law_refused a_law_refused fd_law_refused
  b_law_refused : Binds K fd_law_refused ["text", "due"] []
  g_law_refused : mg "_law_refused" = some (.ref a_law_refused)
  a_law_refused_by_base : Addr
  fd_law_refused_by_base : FuncData
  F_law_refused_by_base : Fun K "_law_refused_by_base" "_law_refused_by_base" s_law_refused_by_base a_law_refused_by_base fd_law_refused_by_base
  b_law_refused_by_base : Binds K fd_law_refused_by_base ["text"] []
  g_law_refused_by_base : mg "_law_refused_by_base" = some (.ref a_law_refused_by_base)
  a_law_spoilt : Addr
  fd_law_spoilt : FuncData
  F_law_spoilt : Fun K "_law_spoilt" "_law_spoilt" s_law_spoilt a_law_spoilt fd_law_spoilt
  b_law_spoilt : Binds K fd_law_spoilt ["reel", "levels", "table"] []
  g_law_spoilt : mg "_law_spoilt" = some (.ref a_law_spoilt)
  a_law : Addr
  fd_law : FuncData
  F_law : Fun K "law" "law" s_law a_law fd_law
  b_law : Binds K fd_law ["script"] []
  g_law : mg "law" = some (.ref a_law)
  m_range : mg "range" = none
  m_min : mg "min" = none
  m_max : mg "max" = none
  m_len : mg "len" = none
  m_abs : mg "abs" = none
  m_int : mg "int" = none
  m_sum : mg "sum" = none
  m_isinstance : mg "isinstance" = none
  m_bool : mg "bool" = none
  m_list : mg "list" = none
  m_tuple : mg "tuple" = none
  m_str : mg "str" = none
  m_ValueError : mg "ValueError" = none
  c_PLAIN : ∃ t, mg "PLAIN" = some (Value.str "\t\n !\"#$&'()*+,-./0123456789:;<=>?@ABCDEFGHIJKLMNOPQRSTUVWXYZ[\\]^_abcdefghijklmnopqrstuvwxyz{|}~" t)
  c_LETTERS : ∃ t, mg "LETTERS" = some (Value.str "abcdefghijklmnopqrstuvwxyz" t)
  c_NAME_CHARS : ∃ t, mg "NAME_CHARS" = some (Value.str "abcdefghijklmnopqrstuvwxyz0123456789_~" t)
  c_DIGITS : ∃ t, mg "DIGITS" = some (Value.str "0123456789" t)
  c_MOST_DIGITS : ∃ t, mg "MOST_DIGITS" = some (Value.int 9 t)
  C_MendedError : Addr
  G_MendedError : mg "MendedError" = some (.ref C_MendedError)
  C_TreeError : Addr
  G_TreeError : mg "TreeError" = some (.ref C_TreeError)
  C_Node : Addr
  G_Node : mg "Node" = some (.ref C_Node)
  C_Reader : Addr
  G_Reader : mg "Reader" = some (.ref C_Reader)
  C_BadMark : Addr
  G_BadMark : mg "BadMark" = some (.ref C_BadMark)
  C_EditError : Addr
  G_EditError : mg "EditError" = some (.ref C_EditError)
  C_Entangled : Addr
  G_Entangled : mg "Entangled" = some (.ref C_Entangled)
  C_GrammarError : Addr
  G_GrammarError : mg "GrammarError" = some (.ref C_GrammarError)
  C_HistoryError : Addr
  G_HistoryError : mg "HistoryError" = some (.ref C_HistoryError)
  C_NoLayer : Addr
  G_NoLayer : mg "NoLayer" = some (.ref C_NoLayer)
  C_NoMark : Addr
  G_NoMark : mg "NoMark" = some (.ref C_NoMark)
  C_NoNode : Addr
  G_NoNode : mg "NoNode" = some (.ref C_NoNode)
  C_NoWitness : Addr
  G_NoWitness : mg "NoWitness" = some (.ref C_NoWitness)
  C_PatternError : Addr
  G_PatternError : mg "PatternError" = some (.ref C_PatternError)
  C_QueryError : Addr
  G_QueryError : mg "QueryError" = some (.ref C_QueryError)
  C_TableError : Addr
  G_TableError : mg "TableError" = some (.ref C_TableError)
  C_UnknownLanguage : Addr
  G_UnknownLanguage : mg "UnknownLanguage" = some (.ref C_UnknownLanguage)
  B_MendedError : BaseC K C_MendedError
  E_TreeError : ErrK K mg "TreeError" C_TreeError a_TreeError_init
  n_TreeError_place : PySem.W.findIn K (.ref C_TreeError) "place" = some none
  x_TreeError_MendedError : PySem.W.exmOne K (.ref C_TreeError) (.ref C_MendedError) = some true
  CL_Node : Cls K C_Node
  MK_Node : Mk K C_Node a_Node_init
  IC_Node : C8.InsC K C_Node
  NA_Node_kind : NoAttr K C_Node "kind"
  NA_Node_symbol : NoAttr K C_Node "symbol"
  NA_Node_state : NoAttr K C_Node "state"
  NA_Node_lead : NoAttr K C_Node "lead"
  NA_Node_width : NoAttr K C_Node "width"
  NA_Node_look : NoAttr K C_Node "look"
  NA_Node_alternative : NoAttr K C_Node "alternative"
  NA_Node_nodes : NoAttr K C_Node "nodes"
  NA_Node_popped : NoAttr K C_Node "popped"
  CL_Reader : Cls K C_Reader
  MK_Reader : Mk K C_Reader a_Reader_init
  IC_Reader : C8.InsC K C_Reader
  NA_Reader__notation : NoAttr K C_Reader "_notation"
  NA_Reader__place : NoAttr K C_Reader "_place"
  NA_Reader__plain_chars : NoAttr K C_Reader "_plain_chars"
  ME_Reader_char : Meth K C_Reader "_char" a_Reader__char
  ME_Reader_pass_one_of : Meth K C_Reader "_pass_one_of" a_Reader__pass_one_of
  ME_Readersign : Meth K C_Reader "sign" a_Reader_sign
  ME_Readergoes_on : Meth K C_Reader "goes_on" a_Reader_goes_on
  ME_Readerfinish : Meth K C_Reader "finish" a_Reader_finish
  ME_Readerwords : Meth K C_Reader "words" a_Reader_words
  ME_Reader_name : Meth K C_Reader "_name" a_Reader__name
  ME_Reader_pass_literal : Meth K C_Reader "_pass_literal" a_Reader__pass_literal
  ME_Reader_number : Meth K C_Reader "_number" a_Reader__number
  k_TreeError_MendedError : PySem.W.kitOne K (.ref C_TreeError) (.ref C_MendedError) = some true
  k_TreeError_ValueError : PySem.W.kitOne K (.ref C_TreeError) (.type "ValueError") = some true
  k_TreeError_BadMark : PySem.W.kitOne K (.ref C_TreeError) (.ref C_BadMark) = some false
  k_TreeError_EditError : PySem.W.kitOne K (.ref C_TreeError) (.ref C_EditError) = some false
  k_TreeError_Entangled : PySem.W.kitOne K (.ref C_TreeError) (.ref C_Entangled) = some false
  k_TreeError_GrammarError : PySem.W.kitOne K (.ref C_TreeError) (.ref C_GrammarError) = some false
  k_TreeError_HistoryError : PySem.W.kitOne K (.ref C_TreeError) (.ref C_HistoryError) = some false
  k_TreeError_NoLayer : PySem.W.kitOne K (.ref C_TreeError) (.ref C_NoLayer) = some false
  k_TreeError_NoMark : PySem.W.kitOne K (.ref C_TreeError) (.ref C_NoMark) = some false
  k_TreeError_NoNode : PySem.W.kitOne K (.ref C_TreeError) (.ref C_NoNode) = some false
  k_TreeError_NoWitness : PySem.W.kitOne K (.ref C_TreeError) (.ref C_NoWitness) = some false
  k_TreeError_PatternError : PySem.W.kitOne K (.ref C_TreeError) (.ref C_PatternError) = some false
  k_TreeError_QueryError : PySem.W.kitOne K (.ref C_TreeError) (.ref C_QueryError) = some false
  k_TreeError_TableError : PySem.W.kitOne K (.ref C_TreeError) (.ref C_TableError) = some false
  k_TreeError_UnknownLanguage : PySem.W.kitOne K (.ref C_TreeError) (.ref C_UnknownLanguage) = some false
/-! ### heaps: what a def leaves as it was -/
/-- all that was tracked but at r stands as it was -/
def But (r : Addr) (H H' : Hp) : Prop := ∀ b o, b ≠ r → H b = some o → H' b = some o
theorem But.refl (r : Addr) (H : Hp) : But r H H := fun _ _ _ h => h
theorem But.trans {r : Addr} {H H1 H2 : Hp} (a : But r H H1) (b : But r H1 H2) : But r H H2 := fun c o n h => b c o n (a c o n h)
theorem But.of {r : Addr} {H H' : Hp} (e : Same H H') : But r H H' := fun b o _ h => e b o h
theorem But.set {r : Addr} {H : Hp} {o : HO} : But r H (upd H r o) := fun b u n h => by rw [upd_ne n]; exact h
theorem But.new {r p : Addr} {H : Hp} {o : HO} (h : H p = none) : But r H (upd H p o) := fun b u _ e => by rw [upd_ne (ne_of_none e h)]; exact e
theorem same_upd {H : Hp} {p : Addr} {o : HO} (h : H p = none) : Same H (upd H p o) := fun b x e => by rw [upd_ne (ne_of_none e h)]; exact e
/-- the list that the drawing goes along: a place, then numbers -/
def ReelAt (H : Hp) (r : Addr) : Prop := ∃ (z : Int) (c : List Int), H r = some (.lst (.int z :: c.map V.int)) ∧ 1 ≤ c.length ∧ c.length ≤ 100000
theorem ReelAt.new {H : Hp} {r p : Addr} {o : HO} (h : ReelAt H r) (n : H p = none) : ReelAt (upd H p o) r := by
  obtain ⟨z, c, h1, h2⟩ := h
  exact ⟨z, c, by rw [upd_ne (ne_of_none h1 n)]; exact h1, h2⟩
theorem ReelAt.ne {H : Hp} {r p : Addr} (h : ReelAt H r) (n : H p = none) : r ≠ p := by
  obtain ⟨z, c, h1, h2⟩ := h
  exact ne_of_none h1 n
theorem atI_lt {xs : List V} {z : Int} (h0 : 0 ≤ z) (h : z.toNat < xs.length) : atI xs z = some (xs[z.toNat]'h) :=
  at_of (j := z.toNat) (by omega) (List.getElem?_eq_getElem h)
theorem at_of' {α : Type} {xs : List α} {z : Int} {c : α} (h0 : 0 ≤ z) (h : xs[z.toNat]? = some c) : atI xs z = some c := by
  have e : z = ((z.toNat : Nat) : Int) := by omega
  rw [e]
  exact atI_nat h
theorem fmod_range (a : Int) {n : Int} (h : 0 < n) : 0 ≤ a.fmod n ∧ a.fmod n < n := ⟨Int.fmod_nonneg_of_pos a h, Int.fmod_lt_of_pos a h⟩
theorem sz1 {n : Nat} (h : n ≤ 100000) : n ≤ sizeLine := Nat.le_trans h (by decide)
theorem sz2 {n : Nat} (h : n < 100000) : n < sizeLine := Nat.lt_of_lt_of_le h (by decide)
/-- a text's signs -/
abbrev cs (x : Str) : List Nat := x.cps.toList
theorem len_cs (x : Str) : x.length = (cs x).length := by
  show x.cps.size = x.cps.toList.length
  rw [Array.length_toList]
theorem cs_mk (l : List Nat) : cs ⟨l.toArray⟩ = l := rfl
theorem cs_inj {x y : Str} (h : cs x = cs y) : x = y := by
  cases x with
  | mk a =>
    cases y with
    | mk b =>
      have e : a = b := Array.toList_inj.mp h
      rw [e]
theorem cs_app (x y : Str) : cs (x ++ y) = cs x ++ cs y := by
  show (x.cps ++ y.cps).toList = _
  rw [Array.toList_append]
theorem cs_join {e : Str} (he : cs e = []) : ∀ ys : List Str, cs (Str.join e ys) = (ys.map cs).flatten
  | [] => rfl
  | [x] => by
    show cs x = ([x].map cs).flatten
    simp
  | x :: y :: r => by
    show cs (x ++ e ++ Str.join e (y :: r)) = _
    rw [cs_app, cs_app, he, List.append_nil, cs_join he (y :: r)]
    rfl
theorem cs_joinT {e : Str} (he : cs e = []) (ys : List Str) : cs (Txt.join e ys) = (ys.map cs).flatten := by rw [TL.join_eq]; exact cs_join he ys
/-- the text of one sign -/
abbrev sg (c : Nat) : Str := ⟨#[c]⟩
theorem sg_flat : ∀ l : List Nat, ((l.map sg).map cs).flatten = l
  | [] => rfl
  | c :: r => by
    show [c] ++ ((r.map sg).map cs).flatten = c :: r
    rw [sg_flat r]
    rfl
theorem sg_lens : ∀ l : List Nat, ((l.map sg).map (·.length)).sum = l.length
  | [] => rfl
  | c :: r => by
    show 1 + ((r.map sg).map (·.length)).sum = r.length + 1
    rw [sg_lens r]
    omega
theorem join_sg {e : Str} (he : cs e = []) (l : List Nat) : Txt.join e (l.map sg) = ⟨l.toArray⟩ := cs_inj (by rw [cs_joinT he, sg_flat])
theorem But.seq {r : Addr} {K : PySem.W.Frag} {H H' : Hp} {a : Addr} {xs : List V} (e : But r H H') (n : a ≠ r) (h : SqL K H a xs) : SqL K H' a xs := by
  rcases h with (h | ⟨o, h⟩) | h
  · exact .inl (.inl (e _ _ n h))
  · exact .inl (.inr ⟨o, e _ _ n h⟩)
  · exact .inr h
theorem But.free {r : Addr} {H H' : Hp} (e : But r H H') {l : Addr} (n : l ≠ r) (h : H' l = none) : H l = none := by
  cases q : H l with
  | none => rfl
  | some o =>
    rw [e l o n q] at h
    cases h
/-- a text whose signs are signs -/
def TOk (x : Str) : Prop := ∀ c ∈ cs x, c < 1114112
def tokB (x : Str) : Bool := x.cps.toList.all fun c => decide (c < 1114112)
theorem tok_of {x : Str} (h : tokB x = true) : TOk x := fun c hc => of_decide_eq_true (List.all_eq_true.mp h c hc)

section
variable {P : Program} {w : World} {K : PySem.W.Frag} {mg : Str → Option Value} {base : Heap}
theorem ix_tupK {X : Cx} {K : PySem.W.Frag} (h : X.K = K) : IxR X (rIxT K) := by
  subst h
  exact ix_tup
theorem ix_listK {X : Cx} {K : PySem.W.Frag} (h : X.K = K) : IxR X (rIxL K) := by
  subst h
  exact ix_list
theorem call_len_seqK {X : Cx} {K : PySem.W.Frag} (h : X.K = K) : CallR X (.builtin "len") (fun xs H Q => ∃ p ys, xs = [V.ref p] ∧ (SqL K H p ys ∨ SqT K H p ys) ∧ Q (.int (ys.length : Int)) H) := by
  subst h
  exact call_len_seq

/-! ### keyword-only defaults -/
theorem kwd_all3 {K : PySem.W.Frag} {D : Addr} {a b c : Str × V} (ha : ∃ u, PySem.W.nsIn K D a.1 = some (some u) ∧ RelV a.2 u) (hb : ∃ u, PySem.W.nsIn K D b.1 = some (some u) ∧ RelV b.2 u) (hc : ∃ u, PySem.W.nsIn K D c.1 = some (some u) ∧ RelV c.2 u) :
    ∀ q ∈ [a, b, c], ∃ u, PySem.W.nsIn K D q.1 = some (some u) ∧ RelV q.2 u := fun q hq => by
  rcases List.mem_cons.mp hq with rfl | hq
  · exact ha
  · rcases List.mem_cons.mp hq with rfl | hq
    · exact hb
    · rw [List.mem_singleton.mp hq]
      exact hc

/-! ### Node(.., k = v, ..) -/
abbrev psN : List Str := ["self", "kind", "symbol", "state", "lead", "width", "look", "alternative", "nodes", "popped"]
theorem kb_Node4 (T : Txt K mg) : ∃ mv, KBn K T.fd_Node_init psN 3 ["state", "lead", "width", "look"] (fun us ws => us ++ ws ++ mv) (fun vs zs => vs ++ zs ++ [.int (-1), .ref T.T0_Node, .int 0]) :=
  T.FD_Node_init.kbinds0 3 ["state", "lead", "width", "look"] [("alternative", .int (-1)), ("nodes", .ref T.T0_Node), ("popped", .int 0)] (fun a b c => a ++ c ++ b) (List.cons_ne_nil _ _) (fun _ h => h) (fun r1 r2 r3 => (r1.append r3).append r2) fun D doc pm an cdv ct us mv ws l1 l2 l3 => by
    match us, l1, mv, l2, ws, l3 with
    | [u1, u2, u3], _, [m1, m2, m3], _, [w1, w2, w3, w4], _ => exact ⟨_, _, _, _, _, _, rfl, rfl, _, _, _, _, _, _, rfl, rfl, _, _, _, _, _, _, rfl, rfl, rfl⟩
theorem kb_Node6 (T : Txt K mg) : ∃ mv, KBn K T.fd_Node_init psN 3 ["state", "lead", "width", "look", "alternative", "nodes"] (fun us ws => us ++ ws ++ mv) (fun vs zs => vs ++ zs ++ [.int 0]) :=
  T.FD_Node_init.kbinds0 3 ["state", "lead", "width", "look", "alternative", "nodes"] [("popped", .int 0)] (fun a b c => a ++ c ++ b) (List.cons_ne_nil _ _) (fun _ h => by rw [List.mem_singleton.mp h]; exact List.mem_cons_of_mem _ (List.mem_cons_of_mem _ List.mem_cons_self)) (fun r1 r2 r3 => (r1.append r3).append r2) fun D doc pm an cdv ct us mv ws l1 l2 l3 => by
    match us, l1, mv, l2, ws, l3 with
    | [u1, u2, u3], _, [m1], _, [w1, w2, w3, w4, w5, w6], _ => exact ⟨_, _, _, _, _, _, rfl, rfl, rfl⟩
theorem kb_Node7 (T : Txt K mg) : ∃ mv, KBn K T.fd_Node_init psN 3 ["state", "lead", "width", "look", "alternative", "nodes", "popped"] (fun us ws => us ++ ws ++ mv) (fun vs zs => vs ++ zs ++ []) :=
  T.FD_Node_init.kbinds0 3 ["state", "lead", "width", "look", "alternative", "nodes", "popped"] [] (fun a b c => a ++ c ++ b) (List.cons_ne_nil _ _) (fun _ h => absurd h List.not_mem_nil) (fun r1 r2 r3 => (r1.append r3).append r2) fun D doc pm an cdv ct us mv ws l1 l2 l3 => by
    match us, l1, mv, l2, ws, l3 with
    | [u1, u2, u3], _, [], _, [w1, w2, w3, w4, w5, w6, w7], _ => exact rfl

/-! ### the reel -/
def spReel (K : PySem.W.Frag) : Sp := fun vs H Q _ => ∃ (a : Addr) (ns : List Int), vs = [.ref a] ∧ SqL K H a (ns.map V.int) ∧
  ∀ H' p, Same H H' → H p = none → ReelAt H' p → Q (.ref p) H'
def spDraw : Sp := fun vs H Q _ => ∃ (r : Addr) (n : Int), vs = [.ref r, .int n] ∧ ReelAt H r ∧ 0 < n ∧
  ∀ (v : Int) H', 0 ≤ v → v < n → But r H H' → ReelAt H' r → Q (.int v) H'
theorem ok_draw (T : Txt K mg) : FnOk P w K mg base CX0 1 T.a_law_draw T.fd_law_draw ["reel", "size"] spDraw := by
  refine T.F_law_draw.ok sc_law_draw (fun vs H Q E h => ?_) (fun cdv A outer s H vs Q E hr h => ?_)
  · obtain ⟨r, n, rfl, _⟩ := h
    rfl
  · obtain ⟨r, n, rfl, ⟨z, c, hr0, hc, hc2⟩, hn, q⟩ := h
    refine ⟨_, (pss_cons (ps_set (i := 2) sc_law_draw.nd rfl (.inl rfl) (pe_op op_sub (pe_callB call_len_seq (by rfl) T.m_len PySem.boot_len (pa_cons (pv 0) pa_nil)) pe_int))
      (pss_cons (ps_set (i := 3) sc_law_draw.nd rfl (.inl rfl) (pe_ix ix_list (pv 0) pe_int (fun _ _ => rfl)))
      (pss_cons (ps_asg (pe_op op_add (pv 3) pe_int) (pg_sub (pv 0) pe_int set_list))
      (pss_one (ps_ret (pe_op op_modN (pe_callTy call_int1 (by rfl) T.m_int (by decide +kernel) (pa_cons (pe_op op_add (pe_ix ix_list (pv 0) (pe_op op_add pe_int (pe_op op_modN (pe_callTy call_int1 (by rfl) T.m_int (by decide +kernel) (pa_cons (pv 3) pa_nil)) (pv 2))) (fun _ _ => rfl)) (pe_op op_mul (pe_op op_fdivN (pv 3) (pv 2)) pe_int)) pa_nil)) (pv 1))))))), ?_⟩
    have hl : (V.int z :: c.map V.int).length = c.length + 1 := by rw [List.length_cons, List.length_map]
    -- count = len(reel) - 1
    refine ⟨.ref r, rfl, r, _, rfl, .inl (SqL.of hr0), _, _, rfl, rfl, ?_⟩
    -- at = reel[0]
    refine ⟨.ref r, rfl, r, _, 0, .int z, rfl, rfl, SqL.of hr0, atI_nat (j := 0) rfl, ?_⟩
    -- reel[0] = at + 1
    refine ⟨_, rfl, z, 1, rfl, rfl, .ref r, rfl, r, _, 0, 0, rfl, rfl, hr0, by rw [hl]; unfold ixN; rw [if_pos (by omega), if_pos (by omega)]; rfl, ?_⟩
    have e1 : (V.int z :: c.map V.int).set 0 (.int (z + 1)) = .int (z + 1) :: c.map V.int := rfl
    rw [e1]
    have hc0 : (0 : Int) < ((V.int z :: c.map V.int).length : Int) - 1 := by rw [hl]; omega
    have fm := fmod_range z hc0
    have hat : 0 ≤ 1 + z.fmod (((V.int z :: c.map V.int).length : Int) - 1) := by omega
    have hat2 : (1 + z.fmod (((V.int z :: c.map V.int).length : Int) - 1)).toNat < (V.int (z + 1) :: c.map V.int).length := by
      have e2 : (V.int (z + 1) :: c.map V.int).length = c.length + 1 := by rw [List.length_cons, List.length_map]
      rw [hl] at fm ⊢
      rw [e2]
      omega
    obtain ⟨y, hy⟩ : ∃ y, atI (V.int (z + 1) :: c.map V.int) (1 + z.fmod (((V.int z :: c.map V.int).length : Int) - 1)) = some (.int y) := by
      have e := atI_lt hat hat2
      have e2 : (V.int (z + 1) :: c.map V.int) = ((z + 1) :: c).map V.int := rfl
      refine ⟨((z + 1) :: c)[(1 + z.fmod (((V.int z :: c.map V.int).length : Int) - 1)).toNat]'(by rw [e2, List.length_map] at hat2; exact hat2), ?_⟩
      rw [e]
      congr 1
      simp only [e2, List.getElem_map]
    -- return int(reel[1 + int(at) % count] + at // count * 389) % size
    refine ⟨.ref r, rfl, _, rfl, .inl ⟨z, rfl, ?_⟩⟩
    refine ⟨_, rfl, z, _, rfl, rfl, by omega, 1, _, rfl, rfl, r, _, _, .int y, rfl, rfl, SqL.of upd_same, hy, ?_⟩
    refine ⟨_, rfl, _, rfl, z, _, rfl, rfl, ⟨by omega, by rw [hl]; omega⟩, _, 389, rfl, rfl, .inr ⟨by decide, by decide⟩, _, _, rfl, rfl, .inl ⟨_, rfl, ?_⟩⟩
    refine ⟨_, rfl, _, n, rfl, rfl, by omega, ?_⟩
    exact q _ _ (fmod_range _ hn).1 (fmod_range _ hn).2 But.set ⟨z + 1, c, upd_same, hc, hc2⟩
/-- the words in which a turn of the reel's making is told -/
def Making (a o : Addr) (H : Hp) (n : Nat) (σ : L2.St) (H' : Hp) : Prop := ∃ y2 y3 y4 y5 y6, σ = [some (.ref a), some (.ref o), y2, y3, y4, y5, y6] ∧ Same H H' ∧ ∃ c : List Int, H' o = some (.lst (.int 0 :: c.map V.int)) ∧ c.length ≤ n
theorem ints_snoc (c : List Int) (x : Int) : (V.int 0 :: c.map V.int) ++ [V.int x] = .int 0 :: (c ++ [x]).map V.int := by
  rw [List.map_append]
  rfl
theorem same_mut {H H' : Hp} {p : Addr} {o : HO} (e : Same H H') (h : H p = none) : Same H (upd H' p o) := fun b x q => by
  rw [upd_ne (ne_of_none q h)]
  exact e b x q
theorem ok_reel (T : Txt K mg) : FnOk P w K mg base CX0 1 T.a_law_reel T.fd_law_reel ["script"] (spReel K) := by
  refine T.F_law_reel.ok sc_law_reel (fun vs H Q E h => ?_) (fun cdv A outer s H vs Q E hr h => ?_)
  · obtain ⟨a, ns, rfl, _⟩ := h
    rfl
  · obtain ⟨a, ns, rfl, hS, q⟩ := h
    refine ⟨_, (pss_cons (ps_set (i := 1) sc_law_reel.nd rfl (.inl rfl) (pe_lst (pa_cons pe_int pa_nil)))
      (pss_cons (ps_for PassesOwn.never rfl (pi_range1 (by rfl) T.m_range (pa_cons (pe_callB (call_min2 rfl) (by rfl) T.m_min (by decide +kernel) (pa_cons (pe_callB call_len_seq (by rfl) T.m_len PySem.boot_len (pa_cons (pv 0) pa_nil)) (pa_cons pe_int pa_nil))) pa_nil)) (pg_name (i := 2) sc_law_reel.nd rfl (.inl rfl)) (pss_cons (ps_set (i := 3) sc_law_reel.nd rfl (.inl rfl) (pe_ix ix_list (pv 0) (pv 2) (fun _ _ => rfl)))
      (pss_one (ps_if (pt_cmpR op_ge (pe_callB call_abs (by rfl) T.m_abs (by decide +kernel) (pa_cons (pv 3) pa_nil)) (pe_op op_pow pe_int pe_int) (nomark _)) (pss_cons (ps_set (i := 4) sc_law_reel.nd rfl (.inl rfl) (pe_callB call_abs (by rfl) T.m_abs (by decide +kernel) (pa_cons (pv 3) pa_nil)))
      (pss_one (ps_for PassesOwn.never rfl (pi_range1 (by rfl) T.m_range (pa_cons pe_int pa_nil)) (pg_name (i := 5) sc_law_reel.nd rfl (.inl rfl)) (pss_one (ps_if (pt_cmpR op_gt (pv 4) pe_int (nomark _)) (pss_cons (ps_expr (pe_bm PySem.F.plainAttrs_list PySem.F.slot_list_append PySem.F.type_list_append mt_append (pv 1) (pa_cons (pe_op op_mod (pe_callTy call_int1 (by rfl) T.m_int (by decide +kernel) (pa_cons (pv 4) pa_nil)) pe_int) pa_nil)))
      (pss_one (ps_set (i := 4) sc_law_reel.nd rfl (.inl rfl) (pe_op op_fdiv (pv 4) pe_int)))) pss_nil))))) (pss_cons (ps_set (i := 6) sc_law_reel.nd rfl (.inl rfl) (pe_op op_mod (pe_callTy call_int1 (by rfl) T.m_int (by decide +kernel) (pa_cons (pe_op op_add (pe_op op_add (pe_op op_mul (pv 3) pe_int) (pe_op op_mul (pv 2) pe_int)) pe_int) pa_nil)) pe_int))
      (pss_one (ps_for PassesOwn.never rfl (pi_range1 (by rfl) T.m_range (pa_cons pe_int pa_nil)) (pg_name (i := 5) sc_law_reel.nd rfl (.inl rfl)) (pss_cons (ps_set (i := 6) sc_law_reel.nd rfl (.inl rfl) (pe_op op_mod (pe_callTy call_int1 (by rfl) T.m_int (by decide +kernel) (pa_cons (pe_op op_add (pe_op op_add (pe_op op_mul (pv 6) pe_int) (pe_op op_mul (pv 5) pe_int)) pe_int) pa_nil)) pe_int))
      (pss_one (ps_expr (pe_bm PySem.F.plainAttrs_list PySem.F.slot_list_append PySem.F.type_list_append mt_append (pv 1) (pa_cons (pe_op op_mod (pe_callTy call_int1 (by rfl) T.m_int (by decide +kernel) (pa_cons (pe_op op_fdiv (pv 6) pe_int) pa_nil)) pe_int) pa_nil))))))))))))
      (pss_cons (ps_set (i := 6) sc_law_reel.nd rfl (.inl rfl) (pe_op op_mod (pe_callTy call_int1 (by rfl) T.m_int (by decide +kernel) (pa_cons (pe_op op_add (pe_op op_add (pe_op op_mul (pe_callB (cr_sum rfl) (by rfl) T.m_sum (by decide +kernel) (pa_cons (pv 1) pa_nil)) pe_int) (pe_op op_mul (pe_callB call_len_seq (by rfl) T.m_len PySem.boot_len (pa_cons (pv 1) pa_nil)) pe_int)) pe_int) pa_nil)) pe_int))
      (pss_cons (ps_for PassesOwn.never rfl (pi_range1 (by rfl) T.m_range (pa_cons pe_int pa_nil)) (pg_name (i := 5) sc_law_reel.nd rfl (.inl rfl)) (pss_cons (ps_set (i := 6) sc_law_reel.nd rfl (.inl rfl) (pe_op op_mod (pe_callTy call_int1 (by rfl) T.m_int (by decide +kernel) (pa_cons (pe_op op_add (pe_op op_add (pe_op op_mul (pv 6) pe_int) (pe_op op_mul (pv 5) pe_int)) pe_int) pa_nil)) pe_int))
      (pss_one (ps_expr (pe_bm PySem.F.plainAttrs_list PySem.F.slot_list_append PySem.F.type_list_append mt_append (pv 1) (pa_cons (pe_op op_mod (pe_callTy call_int1 (by rfl) T.m_int (by decide +kernel) (pa_cons (pe_op op_fdiv (pv 6) pe_int) pa_nil)) pe_int) pa_nil))))))
      (pss_one (ps_ret (pv 1))))))), ?_⟩
    -- reel = [0]
    refine ⟨by show 1 ≤ sizeLine; decide, fun o no => ?_⟩
    have s1 : Same H (upd H o (.lst [.int 0])) := same_upd no
    -- for k in range(min(len(script), 63))
    refine ⟨.ref a, rfl, a, _, rfl, .inl (s1.seq hS), _, _, rfl, _, rfl, by split <;> omega, by split <;> omega, ?_⟩
    refine for_range (lo := 0) (fun i σ H' => Making a o H (60 * i) σ H' ∧ i ≤ 63) ⟨⟨none, none, none, none, none, rfl, s1, [], upd_same, Nat.zero_le _⟩, Nat.zero_le _⟩ ?_ ?_
    · rintro i σ H3 hi ⟨⟨y2, y3, y4, y5, y6, rfl, s3, c, ho, hc⟩, hi63⟩
      have hi' : i < ns.length ∧ i < 63 := by
        rw [List.length_map] at hi
        split at hi <;> omega
      obtain ⟨x, hx⟩ : ∃ x, ns[i]? = some x := ⟨_, List.getElem?_eq_getElem hi'.1⟩
      -- cell = script[k]
      refine ⟨.ref a, rfl, _, rfl, a, _, _, .int x, rfl, rfl, s3.seq hS, at_of (j := i) (by omega) (by rw [List.getElem?_map, hx]; rfl), ?_⟩
      -- if abs(cell) >= 10 ** 18
      refine ⟨_, rfl, x, rfl, 10, 18, rfl, rfl, ⟨by decide, by decide, by decide⟩, _, _, rfl, rfl, _, rfl, ite2 (fun e => ?_) (fun e => ?_)⟩
      · -- rest = abs(cell); for turn in range(60)
        refine ⟨_, rfl, x, rfl, 60, rfl, by decide, by decide, ?_⟩
        refine for_range (lo := 0) (n := 60) (fun j σ H' => (∃ z : Int, σ[4]? = some (some (.int z))) ∧ Making a o H (60 * i + j) σ H') ⟨⟨_, rfl⟩, _, _, _, _, _, rfl, s3, c, ho, hc⟩ ?_ ?_
        · rintro j σ H4 hj ⟨⟨z, hz⟩, y2, y3, y4, y5, y6, rfl, s4, c, ho, hc⟩
          have hz' : y4 = some (.int z) := Option.some.inj hz
          subst hz'
          refine ⟨_, rfl, z, 0, rfl, rfl, _, rfl, ite2 (fun e => ?_) (fun e => ?_)⟩
          · refine ⟨.ref o, rfl, .inl ⟨rfl, _, SqL.of ho⟩, _, rfl, .inl ⟨z, rfl, z, 1009, rfl, rfl, (by show (0 : Int) < 1009; decide), o, _, _, rfl, rfl, ho, ?_, ?_⟩⟩
            · rw [List.length_cons, List.length_map]
              exact sz2 (by omega)
            · refine ⟨_, rfl, z, 1009, rfl, rfl, ⟨by decide, by decide⟩, ⟨_, rfl⟩, _, _, _, _, _, rfl, same_mut s4 no, c ++ [z % 1009], ?_, ?_⟩
              · rw [upd_same, ints_snoc]
              · rw [List.length_append]
                show c.length + 1 ≤ _
                omega
          · exact ⟨⟨z, rfl⟩, _, _, _, _, _, rfl, s4, c, ho, by omega⟩
        · rintro σ H4 ⟨_, y2, y3, y4, y5, y6, rfl, s4, c, ho, hc⟩
          exact ⟨⟨_, _, _, _, _, rfl, s4, c, ho, by omega⟩, by omega⟩
      · -- mixed = ..; for turn in range(4)
        refine ⟨_, rfl, x, 48271, rfl, rfl, .inr ⟨by decide, by decide⟩, _, rfl, _, 69621, rfl, rfl, .inr ⟨by decide, by decide⟩, _, _, rfl, rfl, _, 4099, rfl, rfl, .inl ⟨_, rfl, _, _, rfl, rfl, (by show (0 : Int) < 2147483647; decide), ?_⟩⟩
        refine ⟨4, rfl, by decide, by decide, ?_⟩
        refine for_range (lo := 0) (n := 4) (fun j σ H' => (∃ z : Int, σ[6]? = some (some (.int z))) ∧ Making a o H (60 * i + j) σ H') ⟨⟨_, rfl⟩, _, _, _, _, _, rfl, s3, c, ho, hc⟩ ?_ ?_
        · rintro j σ H4 hj ⟨⟨z, hz⟩, y2, y3, y4, y5, y6, rfl, s4, c, ho, hc⟩
          have hz' : y6 = some (.int z) := Option.some.inj hz
          subst hz'
          refine ⟨_, rfl, z, 16807, rfl, rfl, .inr ⟨by decide, by decide⟩, _, rfl, _, 7919, rfl, rfl, .inr ⟨by decide, by decide⟩, _, _, rfl, rfl, _, 101, rfl, rfl, .inl ⟨_, rfl, _, _, rfl, rfl, (by show (0 : Int) < 2147483629; decide), ?_⟩⟩
          refine ⟨.ref o, rfl, .inl ⟨rfl, _, SqL.of ho⟩, _, rfl, _, 2111, rfl, rfl, ⟨by decide, by decide⟩, .inl ⟨_, rfl, _, 1009, rfl, rfl, (by show (0 : Int) < 1009; decide), o, _, _, rfl, rfl, ho, ?_, ?_⟩⟩
          · rw [List.length_cons, List.length_map]
            exact sz2 (by omega)
          · refine ⟨⟨_, rfl⟩, _, _, _, _, _, rfl, same_mut s4 no, c ++ [((z * 16807 + (0 + (j : Int)) * 7919 + 101) % 2147483629 / 2111) % 1009], ?_, ?_⟩
            · rw [upd_same]
              exact congrArg (fun l => some (HO.lst l)) (ints_snoc c _)
            · rw [List.length_append]
              show c.length + 1 ≤ _
              omega
        · rintro σ H4 ⟨_, y2, y3, y4, y5, y6, rfl, s4, c, ho, hc⟩
          exact ⟨⟨_, _, _, _, _, rfl, s4, c, ho, by omega⟩, by omega⟩
    · rintro σ H3 ⟨⟨y2, y3, y4, y5, y6, rfl, s3, c, ho, hc⟩, hi63⟩
      have e0 : (V.int 0 :: c.map V.int) = ((0 : Int) :: c).map V.int := rfl
      have ho' : SqL K H3 o (((0 : Int) :: c).map V.int) := SqL.of ho
      refine ⟨.ref o, rfl, o, (0 : Int) :: c, rfl, ho', _, 69621, rfl, rfl, .inr ⟨by decide, by decide⟩, .ref o, rfl, o, _, rfl, .inl ho', _, 48271, rfl, rfl, .inr ⟨by decide, by decide⟩, _, _, rfl, rfl, _, 977, rfl, rfl, .inl ⟨_, rfl, _, _, rfl, rfl, (by show (0 : Int) < 2147483647; decide), ?_⟩⟩
      refine ⟨40, rfl, by decide, by decide, ?_⟩
      refine for_range (lo := 0) (n := 40) (fun j σ H' => (∃ z : Int, σ[6]? = some (some (.int z))) ∧ ∃ y2 y3 y4 y5 y6, σ = [some (.ref a), some (.ref o), y2, y3, y4, y5, y6] ∧ Same H H' ∧ ∃ c : List Int, H' o = some (.lst (.int 0 :: c.map V.int)) ∧ j ≤ c.length ∧ c.length ≤ 4000 + j) ⟨⟨_, rfl⟩, _, _, _, _, _, rfl, s3, c, ho, Nat.zero_le _, ?_⟩ ?_ ?_
      · have : (min' : Nat) → min' ≤ 63 → c.length ≤ 60 * min' → c.length ≤ 4000 + 0 := fun m h1 h2 => by omega
        exact this _ hi63 hc
      · rintro j σ H4 hj ⟨⟨z, hz⟩, y2, y3, y4, y5, y6, rfl, s4, c, ho, hc1, hc⟩
        have hz' : y6 = some (.int z) := Option.some.inj hz
        subst hz'
        refine ⟨_, rfl, z, 16807, rfl, rfl, .inr ⟨by decide, by decide⟩, _, rfl, _, 7919, rfl, rfl, .inr ⟨by decide, by decide⟩, _, _, rfl, rfl, _, 101, rfl, rfl, .inl ⟨_, rfl, _, _, rfl, rfl, (by show (0 : Int) < 2147483629; decide), ?_⟩⟩
        refine ⟨.ref o, rfl, .inl ⟨rfl, _, SqL.of ho⟩, _, rfl, _, 2111, rfl, rfl, ⟨by decide, by decide⟩, .inl ⟨_, rfl, _, 1009, rfl, rfl, (by show (0 : Int) < 1009; decide), o, _, _, rfl, rfl, ho, ?_, ?_⟩⟩
        · rw [List.length_cons, List.length_map]
          exact sz2 (by omega)
        · refine ⟨⟨_, rfl⟩, _, _, _, _, _, rfl, same_mut s4 no, c ++ [((z * 16807 + (0 + (j : Int)) * 7919 + 101) % 2147483629 / 2111) % 1009], ?_, ?_, ?_⟩
          · rw [upd_same]
            exact congrArg (fun l => some (HO.lst l)) (ints_snoc c _)
          · rw [List.length_append]
            show _ ≤ c.length + 1
            omega
          · rw [List.length_append]
            show c.length + 1 ≤ _
            omega
      · rintro σ H4 ⟨_, y2, y3, y4, y5, y6, rfl, s4, c, ho, hc1, hc⟩
        refine ⟨.ref o, rfl, q H4 o s4 no ⟨0, c, ho, by omega, by omega⟩⟩

/-! ### a drawn item, a drawn word -/
theorem But.seqT {r : Addr} {K : PySem.W.Frag} {H H' : Hp} {a : Addr} {xs : List V} (e : But r H H') (n : a ≠ r) (h : SqT K H a xs) : SqT K H' a xs := by
  rcases h with (h | ⟨o, h⟩) | h
  · exact .inl (.inl (e _ _ n h))
  · exact .inl (.inr ⟨o, e _ _ n h⟩)
  · exact .inr h
def spPick (K : PySem.W.Frag) : Sp := fun vs H Q _ => ∃ (r : Addr) (row : V), vs = [.ref r, row] ∧ ReelAt H r ∧
  ((∃ z, row = .str z ∧ 0 < (cs z).length ∧ (cs z).length ≤ 100000 ∧ ∀ c H', c ∈ cs z → But r H H' → ReelAt H' r → Q (.str (sg c)) H') ∨
   (∃ p xs, row = .ref p ∧ p ≠ r ∧ SqL K H p xs ∧ 0 < xs.length ∧ ∀ v H', v ∈ xs → But r H H' → ReelAt H' r → Q v H'))
theorem ok_pick (T : Txt K mg) : FnOk P w K mg base CX0 2 T.a_law_pick T.fd_law_pick ["reel", "row"] (spPick K) := by
  have G_law_draw : FnOk P w K mg base CX0 1 T.a_law_draw T.fd_law_draw ["reel", "size"] spDraw := ok_draw T
  refine T.F_law_pick.ok sc_law_pick (fun vs H Q E h => ?_) (fun cdv A outer s H vs Q E hr h => ?_)
  · obtain ⟨r, n, rfl, _⟩ := h
    rfl
  · have hr_law_draw : Room 1 _ := hr
    obtain ⟨r, row, rfl, hr0, ⟨z, rfl, hz, hz2, q⟩ | ⟨p, xs, rfl, hp, hS, hx, q⟩⟩ := h
    · refine ⟨_, (pss_one (ps_ret (pe_ix ix_seq (pv 1) (pe_call G_law_draw hr_law_draw (by rfl) T.g_law_draw T.F_law_draw.kp T.b_law_draw .nil pass0 (pa_cons (pv 0) (pa_cons (pe_callB call_len (by rfl) T.m_len PySem.boot_len (pa_cons (pv 1) pa_nil)) pa_nil))) (fun _ _ => rfl)))), ?_⟩
      have hl := len_cs z
      refine ⟨_, rfl, _, rfl, _, rfl, _, z.length, rfl, ⟨sz1 (by omega), rfl⟩, r, _, rfl, hr0, by omega, fun v H' h0 h1 hb hR => ?_⟩
      have hv : v.toNat < (cs z).length := by omega
      exact .inr (.inr ⟨z, v, (cs z)[v.toNat], rfl, rfl, sz1 (by omega), at_of' h0 (List.getElem?_eq_getElem hv), q _ _ (List.getElem_mem hv) hb hR⟩)
    · refine ⟨_, (pss_one (ps_ret (pe_ix ix_seq (pv 1) (pe_call G_law_draw hr_law_draw (by rfl) T.g_law_draw T.F_law_draw.kp T.b_law_draw .nil pass0 (pa_cons (pv 0) (pa_cons (pe_callB call_len (by rfl) T.m_len PySem.boot_len (pa_cons (pv 1) pa_nil)) pa_nil))) (fun _ _ => rfl)))), ?_⟩
      refine ⟨_, rfl, _, rfl, _, rfl, _, xs.length, rfl, .inl ⟨xs, hS, rfl⟩, r, _, rfl, hr0, by omega, fun v H' h0 h1 hb hR => ?_⟩
      have hv : v.toNat < xs.length := by omega
      exact .inl ⟨p, xs, v, xs[v.toNat], rfl, rfl, hb.seq hp hS, at_of (j := v.toNat) (by omega) (List.getElem?_eq_getElem hv), q _ _ (List.getElem_mem hv) hb hR⟩
def spWord : Sp := fun vs H Q _ => ∃ (r : Addr) (z : Str) (a b : Int), vs = [.ref r, .str z, .int a, .int b] ∧ ReelAt H r ∧ 0 < (cs z).length ∧ (cs z).length ≤ 100000 ∧ 0 ≤ a ∧ a ≤ b ∧ b ≤ 50000 ∧
  ∀ (x : Str) H', a ≤ ((cs x).length : Int) → ((cs x).length : Int) ≤ b → (∀ c ∈ cs x, c ∈ cs z) → But r H H' → ReelAt H' r → Q (.str x) H'
theorem map_snoc (l : List Nat) (c : Nat) : ((l.map sg).map V.str) ++ [V.str (sg c)] = ((l ++ [c]).map sg).map V.str := by
  rw [List.map_append, List.map_append]
  rfl
theorem ok_word (T : Txt K mg) : FnOk P w K mg base CX0 3 T.a_law_word T.fd_law_word ["reel", "letters", "least", "most"] spWord := by
  have G_law_draw : FnOk P w K mg base CX0 1 T.a_law_draw T.fd_law_draw ["reel", "size"] spDraw := ok_draw T
  have G_law_pick : FnOk P w K mg base CX0 2 T.a_law_pick T.fd_law_pick ["reel", "row"] (spPick K) := ok_pick T
  refine T.F_law_word.ok sc_law_word (fun vs H Q E h => ?_) (fun cdv A outer s H vs Q E hr h => ?_)
  · obtain ⟨r, z, a, b, rfl, _⟩ := h
    rfl
  · have hr_law_draw : Room 1 _ := hr.mono (by decide)
    have hr_law_pick : Room 2 _ := hr
    obtain ⟨r, z, a, b, rfl, hr0, hz, hz2, h0, h1, h2, q⟩ := h
    refine ⟨_, (pss_one (ps_ret (pe_join pe_str (pe_lc (own := [("k", 4)]) (g := gName 4) (by rfl) sc_law_word.nd (pi_range1 (by rfl) T.m_range (pa_cons (pe_op op_add (pv 2) (pe_call G_law_draw hr_law_draw (by rfl) T.g_law_draw T.F_law_draw.kp T.b_law_draw .nil pass0 (pa_cons (pv 0) (pa_cons (pe_op op_add (pe_op op_sub (pv 3) (pv 2)) pe_int) pa_nil)))) pa_nil)) (blkOk_by (own := [("k", 4)]) (N := ["reel", "letters", "least", "most", "k"]) (sc := defScope s_law_word) (by decide +kernel)) (fun _ _ _ _ _ => pg_name (i := 4) sc_law_word.nd rfl (Or.inl rfl)) (fun _ _ _ _ _ => pts_nil) (fun _ _ _ _ _ => (pe_call G_law_pick hr_law_pick (by rfl) T.g_law_pick T.F_law_pick.kp T.b_law_pick .nil pass0 (pa_cons (pv 0) (pa_cons (pv 1) pa_nil)))))))), ?_⟩
    refine ⟨⟨_, rfl⟩, _, rfl, _, rfl, _, rfl, _, rfl, _, _, rfl, rfl, _, 1, rfl, rfl, r, _, rfl, hr0, by omega, fun v H1 v0 v1 hb1 hR1 => ?_⟩
    refine ⟨_, _, rfl, rfl, _, rfl, by omega, by omega, fun D nD => ?_⟩
    refine lc_range (lo := 0) (n := (a + v).toNat) (fun i H' => ∃ l : List Nat, H' D = some (.lst ((l.map sg).map V.str)) ∧ l.length = i ∧ (∀ c ∈ l, c ∈ cs z) ∧ But r H1 H' ∧ ReelAt H' r)
      ⟨[], upd_same, rfl, (fun c hc => absurd hc List.not_mem_nil), But.new nD, hR1.new nD⟩ ?_ ?_
    · rintro i H' hi ⟨l, hD, hl, hm, hb, hR⟩
      refine ⟨rfl, _, rfl, _, rfl, r, _, rfl, hR, .inl ⟨z, rfl, hz, hz2, fun c H2 hc hb2 hR2 => ?_⟩⟩
      have hDr : D ≠ r := (hR1.ne nD).symm
      have hD2 := hb2 D _ hDr hD
      refine ⟨_, hD2, sz2 (by rw [List.length_map, List.length_map]; omega), l ++ [c], ?_, ?_, ?_, ?_, ?_⟩
      · rw [upd_same, map_snoc]
      · rw [List.length_append, hl]
        rfl
      · intro x hx
        rcases List.mem_append.mp hx with hx | hx
        · exact hm x hx
        · rw [List.mem_singleton.mp hx]
          exact hc
      · exact fun b o n e => by
          rw [upd_ne (ne_of_none e nD)]
          exact hb2 b o n (hb b o n e)
      · obtain ⟨z1, c1, e1, e2⟩ := hR2
        exact ⟨z1, c1, by rw [upd_ne hDr.symm]; exact e1, e2⟩
    · rintro H' ⟨l, hD, hl, hm, hb, hR⟩
      refine ⟨_, _, _, rfl, rfl, .inl (SqL.of hD), ?_, ?_⟩
      · rw [sg_lens, List.length_map]
        show l.length + l.length * 0 ≤ _
        omega
      · rw [join_sg rfl]
        exact q _ _ (by show a ≤ (l.length : Int); omega) (by show (l.length : Int) ≤ b; omega) hm (hb1.trans hb) hR

/-! ### walks over texts -/
theorem for_strS {x : Str} {g : L2.TG} {tb : L2.TS} {D : L2.Ends} {σ : L2.St} {H : Hp} (Pv : Nat → L2.St → Hp → Prop) (h0 : Pv 0 σ H)
    (hs : ∀ i c σ H, x.cps[i]? = some c → Pv i σ H → g (.str ⟨#[c]⟩) σ H fun σ2 H2 => tb { D with nx := Pv (i + 1), ct := Pv (i + 1), bk := D.nx } σ2 H2) (hd : ∀ σ H, Pv x.cps.size σ H → D.nx σ H) :
    ∃ Wk : Nat → Nat → L2.St → Hp → Prop, (∃ mm, Wk 0 mm σ H) ∧ ∀ i mm σ H, Wk i mm σ H →
      ((Its x).stop i H ∧ D.nx σ H) ∨ ((Its x).go i H ∧ ∃ N : L2.St → Hp → Prop, (∀ σ' H', N σ' H' → ∃ mm', mm' < mm ∧ Wk (i + 1) mm' σ' H') ∧ ∀ y H', (Its x).yld i H y H' → g y σ H' fun σ2 H2 => tb { D with nx := N, ct := N, bk := D.nx } σ2 H2) := by
  refine ⟨fun i mm σ H => mm = x.cps.size - i ∧ i ≤ x.cps.size ∧ Pv i σ H, ⟨x.cps.size, by simp, Nat.zero_le _, h0⟩, ?_⟩
  rintro i mm σ H ⟨rfl, hi, pz⟩
  by_cases hlt : i < x.cps.size
  · refine .inr ⟨hlt, Pv (i + 1), fun σ' H' pz' => ⟨x.cps.size - (i + 1), by omega, rfl, hlt, pz'⟩, fun y H' hy => ?_⟩
    obtain ⟨rfl, c, hc, rfl⟩ := hy
    exact hs i c σ H' hc pz
  · have ee : i = x.cps.size := by omega
    subst ee
    exact .inl ⟨Nat.le_refl _, hd σ H pz⟩
theorem lc_strS {x : Str} {g : L2.TG} {tt : L2.TT} {te : L2.TE} {vs : List Nat} {σ : L2.St} {H1 : Hp} {D : Addr} {Qd : Hp → Prop} (Pv : Nat → Hp → Prop) (h0 : Pv 0 (upd H1 D (.lst [])))
    (hs : ∀ i c H, x.cps[i]? = some c → Pv i H → g (.str ⟨#[c]⟩) (wipe σ vs) H fun σ2 H2 => wipe σ2 vs = wipe σ vs ∧ tt σ2 H2 fun b H3 =>
      if b = true then te σ2 H3 fun y H4 => ∃ acc, H4 D = some (.lst acc) ∧ acc.length < sizeLine ∧ Pv (i + 1) (upd H4 D (.lst (acc ++ [y]))) else Pv (i + 1) H3) (hd : ∀ H, Pv x.cps.size H → Qd H) :
    ∃ Wk : Nat → Nat → Hp → Prop, (∃ mm, Wk 0 mm (upd H1 D (.lst []))) ∧ ∀ i mm H, Wk i mm H →
      ((Its x).stop i H ∧ Qd H) ∨ ((Its x).go i H ∧ ∃ Nx : Hp → Prop, (∀ H', Nx H' → ∃ mm', mm' < mm ∧ Wk (i + 1) mm' H') ∧ ∀ y H', (Its x).yld i H y H' → g y (wipe σ vs) H' fun σ2 H2 => wipe σ2 vs = wipe σ vs ∧ tt σ2 H2 fun b H3 =>
        if b = true then te σ2 H3 fun y H4 => ∃ acc, H4 D = some (.lst acc) ∧ acc.length < sizeLine ∧ Nx (upd H4 D (.lst (acc ++ [y]))) else Nx H3) := by
  refine ⟨fun i mm H => mm = x.cps.size - i ∧ i ≤ x.cps.size ∧ Pv i H, ⟨x.cps.size, by simp, Nat.zero_le _, h0⟩, ?_⟩
  rintro i mm H ⟨rfl, hi, pz⟩
  by_cases hlt : i < x.cps.size
  · refine .inr ⟨hlt, Pv (i + 1), fun H' pz' => ⟨x.cps.size - (i + 1), by omega, rfl, hlt, pz'⟩, fun y H' hy => ?_⟩
    obtain ⟨rfl, c, hc, rfl⟩ := hy
    exact hs i c H' hc pz
  · have ee : i = x.cps.size := by omega
    subst ee
    exact .inl ⟨Nat.le_refl _, hd H pz⟩
/-- a walk over enumerate(xs) -/
theorem for_enumS {K : PySem.W.Frag} {a : Addr} {xs : List V} {g : L2.TG} {tb : L2.TS} {D : L2.Ends} {σ : L2.St} {H : Hp} (Pv : Nat → L2.St → Hp → Prop) (h0 : Pv 0 σ H) (hl : ∀ i σ H, i ≤ xs.length → Pv i σ H → SqL K H a xs)
    (hs : ∀ i x t σ H, xs[i]? = some x → Pv i σ H → H t = none → g (.ref t) σ (upd H t (.tup [.int (i : Nat), x])) fun σ2 H2 => tb { D with nx := Pv (i + 1), ct := Pv (i + 1), bk := D.nx } σ2 H2) (hd : ∀ σ H, Pv xs.length σ H → D.nx σ H) :
    ∃ Wk : Nat → Nat → L2.St → Hp → Prop, (∃ mm, Wk 0 mm σ H) ∧ ∀ i mm σ H, Wk i mm σ H →
      ((Ite K a).stop i H ∧ D.nx σ H) ∨ ((Ite K a).go i H ∧ ∃ N : L2.St → Hp → Prop, (∀ σ' H', N σ' H' → ∃ mm', mm' < mm ∧ Wk (i + 1) mm' σ' H') ∧ ∀ y H', (Ite K a).yld i H y H' → g y σ H' fun σ2 H2 => tb { D with nx := N, ct := N, bk := D.nx } σ2 H2) := by
  refine ⟨fun i mm σ H => mm = xs.length - i ∧ i ≤ xs.length ∧ Pv i σ H, ⟨xs.length, by simp, Nat.zero_le _, h0⟩, ?_⟩
  rintro i mm σ H ⟨rfl, hi, pz⟩
  have q := hl i σ H hi pz
  by_cases hlt : i < xs.length
  · have hx : xs[i]? = some (xs[i]) := List.getElem?_eq_getElem hlt
    refine .inr ⟨⟨xs, xs[i], q, hx⟩, Pv (i + 1), fun σ' H' pz' => ⟨xs.length - (i + 1), by omega, rfl, hlt, pz'⟩, fun y H' hy => ?_⟩
    obtain ⟨t, x, rfl, ht, rfl, hall⟩ := hy
    exact hs i x t σ H (hall xs q) pz ht
  · have ee : i = xs.length := by omega
    subst ee
    exact .inl ⟨⟨xs, q, Nat.le_refl _⟩, hd σ H pz⟩

/-! ### tuples, pairs -/
def Tups (H H' : Hp) : Prop := ∀ b xs, H b = some (.tup xs) → H' b = some (.tup xs)
theorem Tups.refl (H : Hp) : Tups H H := fun _ _ h => h
theorem Tups.trans {H H1 H2 : Hp} (a : Tups H H1) (b : Tups H1 H2) : Tups H H2 := fun c xs h => b c xs (a c xs h)
theorem But.tups {r : Addr} {H H' : Hp} (b : But r H H') (h : ReelAt H r) : Tups H H' := fun c xs e => b c _ (fun z => by
  obtain ⟨z1, c1, e1, _⟩ := h
  rw [z, e1] at e
  cases e) e
theorem Tups.new {H : Hp} {p : Addr} {o : HO} (h : H p = none) : Tups H (upd H p o) := fun c xs e => by rw [upd_ne (ne_of_none e h)]; exact e
theorem Tups.mut {H : Hp} {p : Addr} {xs : List V} {o : HO} (h : H p = some (.lst xs)) : Tups H (upd H p o) := fun c ys e => by
  rw [upd_ne (ne_of e h (fun z => by cases z))]
  exact e
theorem paired_len {α β : Type} {F : α → β → Prop} : ∀ {xs : List α} {ys : List β}, Paired F xs ys → xs.length = ys.length
  | _, _, .nil => rfl
  | _, _, .cons _ t => congrArg (· + 1) (paired_len t)
theorem paired_app {α β : Type} {F : α → β → Prop} : ∀ {xs xs' : List α} {ys ys' : List β}, Paired F xs ys → Paired F xs' ys' → Paired F (xs ++ xs') (ys ++ ys')
  | _, _, _, _, .nil, h => h
  | _, _, _, _, .cons r t, h => .cons r (paired_app t h)
theorem paired_get {α β : Type} {F : α → β → Prop} : ∀ {xs : List α} {ys : List β} {i : Nat} {y : β}, Paired F xs ys → ys[i]? = some y → ∃ x, xs[i]? = some x ∧ F x y
  | _, _, _, _, .nil, h => by simp at h
  | _, _, 0, y, .cons r t, h => by
    have e := Option.some.inj h
    subst e
    exact ⟨_, rfl, r⟩
  | _, _, i + 1, y, .cons r t, h => by
    obtain ⟨x, h1, h2⟩ := paired_get (i := i) (y := y) t (by simpa using h)
    exact ⟨x, by simpa using h1, h2⟩
theorem paired_take {α β : Type} {F : α → β → Prop} : ∀ {xs : List α} {ys : List β} (n : Nat), Paired F xs ys → Paired F (xs.take n) (ys.take n)
  | _, _, 0, _ => .nil
  | _, _, _ + 1, .nil => .nil
  | _, _, n + 1, .cons r t => .cons r (paired_take n t)
theorem paired_drop {α β : Type} {F : α → β → Prop} : ∀ {xs : List α} {ys : List β} (n : Nat), Paired F xs ys → Paired F (xs.drop n) (ys.drop n)
  | _, _, 0, h => h
  | _, _, _ + 1, .nil => .nil
  | _, _, n + 1, .cons r t => paired_drop n t

/-! ### an if told once -/
theorem if_ev {tt : L2.TT} {a b : L2.TS} {D : L2.Ends} {σ : L2.St} {H : Hp} (R : Hp → Prop) (h : ∀ Qb : Bool → Hp → Prop, (∀ c H2, R H2 → Qb c H2) → tt σ H Qb) (ha : ∀ H2, R H2 → a D σ H2) (hb : ∀ H2, R H2 → b D σ H2) : tIfS tt a b D σ H := h _ (fun c H2 r => by
  cases c
  · exact iteF (hb H2 r)
  · exact iteT (ha H2 r))
theorem if_2 {tt : L2.TT} {a b : L2.TS} {D : L2.Ends} {σ : L2.St} {H : Hp} (R : Hp → Prop) (A : Prop) (h : ∀ Qb : Bool → Hp → Prop, (∀ c H2, R H2 → (c = true ↔ A) → Qb c H2) → tt σ H Qb) (ha : A → ∀ H2, R H2 → a D σ H2) (hb : ¬ A → ∀ H2, R H2 → b D σ H2) : tIfS tt a b D σ H := h _ (fun c H2 r i => by
  cases c
  · exact iteF (hb (fun z => absurd (i.mpr z) (by decide)) H2 r)
  · exact iteT (ha (i.mp rfl) H2 r))
theorem g_if {i : Nat} {x : V} {σ : L2.St} {H : Hp} {tt : L2.TT} {a b : L2.TS} {D : L2.Ends} {r : VK} {k c : L2.St → Hp → Prop} (h : tIfS tt a b D (σ.set i (some x)) H) : gName i x σ H (Ends.nx ⟨tIfS tt a b D, r, k, c⟩) := h
theorem g_seq {i : Nat} {x : V} {σ : L2.St} {H : Hp} {t u : L2.TS} {D : L2.Ends} {r : VK} {k c : L2.St → Hp → Prop} (h : tSeq t u D (σ.set i (some x)) H) : gName i x σ H (Ends.nx ⟨tSeq t u D, r, k, c⟩) := h
/-- if ..: a (and it ends here); the rest is told once -/
theorem sif {tt : L2.TT} {a c : L2.TS} {D : L2.Ends} {σ : L2.St} {H : Hp} (R : Hp → Prop) (A : Prop) (h : ∀ Qb : Bool → Hp → Prop, (∀ c H2, R H2 → (c = true ↔ A) → Qb c H2) → tt σ H Qb) (ha : A → ∀ H2, R H2 → a { D with nx := fun σ2 H2 => c D σ2 H2 } σ H2) (hb : ¬ A → ∀ H2, R H2 → c D σ H2) :
    tSeq (tIfS tt a tNext) c D σ H := if_2 (D := { D with nx := fun σ2 H2 => c D σ2 H2 }) R A h ha hb
theorem itF {c : Bool} {A B : Prop} (h : c = false) (b : B) : if c = true then A else B := by
  rw [h]
  exact iteF b

/-! ### slices -/
theorem cut_pre (z : Str) (a : Nat) : cs (cutS z none (some (a : Int))) = (cs z).take a := by
  show ((cs z).drop 0).take _ = _
  rw [HT.sIx_nat, HT.sIx_none, List.drop_zero, Nat.sub_zero, len_cs, ← List.take_eq_take_min]
theorem cut_suf (z : Str) (a : Nat) : cs (cutS z (some (a : Int)) none) = (cs z).drop a := by
  show ((cs z).drop _).take _ = _
  rw [HT.sIx_nat, HT.sIx_none, len_cs, List.take_of_length_le (by rw [List.length_drop]; exact Nat.le_refl _)]
  by_cases h : a ≤ (cs z).length
  · rw [Nat.min_eq_left h]
  · rw [Nat.min_eq_right (by omega), List.drop_eq_nil_of_le (Nat.le_refl _), List.drop_eq_nil_of_le (by omega)]
theorem cut_mid (z : Str) (a b : Nat) : cs (cutS z (some (a : Int)) (some (b : Int))) = ((cs z).take b).drop a := by
  show ((cs z).drop _).take _ = _
  rw [HT.sIx_nat, HT.sIx_nat, len_cs]
  by_cases h : a ≤ (cs z).length
  · rw [Nat.min_eq_left h, List.drop_take]
    by_cases h2 : b ≤ (cs z).length
    · rw [Nat.min_eq_left h2]
    · rw [Nat.min_eq_right (by omega), List.take_of_length_le (by rw [List.length_drop]; exact Nat.le_refl _), List.take_of_length_le (by rw [List.length_drop]; omega)]
  · rw [Nat.min_eq_right (show (cs z).length ≤ a by omega), List.drop_eq_nil_of_le (Nat.le_refl _), List.take_nil, List.drop_eq_nil_of_le (by rw [List.length_take]; omega)]

/-! ### trees, in plain Lean -/
structure Nd where
  kind : Str
  sym : Str
  st : Int
  lead : Int
  wid : Int
  look : Int
  alt : Int
  pop : Int
inductive Tr where
  | mk (p : Addr) (d : Nd) (ks : List Tr)
def Tr.at : Tr → Addr
  | .mk p _ _ => p
def Tr.d : Tr → Nd
  | .mk _ d _ => d
def Tr.ks : Tr → List Tr
  | .mk _ _ ks => ks
/-- a tree's rows, in their order -/
abbrev Rw := Int × Nd
mutual
def Tr.rows (l : Int) : Tr → List Rw
  | .mk _ d ks => (l, d) :: rowsL (l + 1) ks
def rowsL (l : Int) : List Tr → List Rw
  | [] => []
  | t :: ts => t.rows l ++ rowsL l ts
end
mutual
/-- a tree's nodes, in their order -/
def Tr.ats : Tr → List Addr
  | .mk p _ ks => p :: atsL ks
def atsL : List Tr → List Addr
  | [] => []
  | t :: ts => t.ats ++ atsL ts
end
/-- a row with its node -/
abbrev Ra := Int × Nd × Addr
mutual
def Tr.ras (l : Int) : Tr → List Ra
  | .mk p d ks => (l, d, p) :: rasL (l + 1) ks
def rasL (l : Int) : List Tr → List Ra
  | [] => []
  | t :: ts => t.ras l ++ rasL l ts
end
abbrev Lt := Int × Tr
def flatL (ps : List Lt) : List Ra := (ps.map fun p => p.2.ras p.1).flatten
/-- from the right: each row takes the trees in front that stand one level below it -/
def grow : List Ra → List Lt
  | [] => []
  | r :: rs => (r.1, .mk r.2.2 r.2.1 (((grow rs).takeWhile fun p => p.1 == r.1 + 1).map Prod.snd)) :: (grow rs).dropWhile fun p => p.1 == r.1 + 1
theorem rasL_same {l : Int} : ∀ ps : List Lt, (∀ p ∈ ps, p.1 = l) → rasL l (ps.map Prod.snd) = flatL ps
  | [], _ => rfl
  | p :: ps, h => by
    have ih := rasL_same ps fun q hq => h q (List.mem_cons_of_mem _ hq)
    show p.2.ras l ++ rasL l (ps.map Prod.snd) = p.2.ras p.1 ++ flatL ps
    rw [ih, h p List.mem_cons_self]
theorem mem_takeW {α : Type} {f : α → Bool} {x : α} : ∀ {l : List α}, x ∈ l.takeWhile f → f x = true ∧ x ∈ l
  | [], h => absurd h List.not_mem_nil
  | y :: l, h => by
    rw [List.takeWhile_cons] at h
    split at h
    · rename_i c
      rcases List.mem_cons.mp h with rfl | h
      · exact ⟨c, List.mem_cons_self⟩
      · have := mem_takeW h
        exact ⟨this.1, List.mem_cons_of_mem _ this.2⟩
    · exact absurd h List.not_mem_nil
theorem mem_dropW {α : Type} {f : α → Bool} {x : α} {l : List α} (h : x ∈ l.dropWhile f) : x ∈ l := by
  rw [← List.takeWhile_append_dropWhile (p := f) (l := l)]
  exact List.mem_append_right _ h
theorem flat_app (ps qs : List Lt) : flatL (ps ++ qs) = flatL ps ++ flatL qs := by
  unfold flatL
  rw [List.map_append, List.flatten_append]
theorem grow_flat : ∀ rs : List Ra, flatL (grow rs) = rs
  | [] => rfl
  | r :: rs => by
    have ih := grow_flat rs
    have h1 := rasL_same (l := r.1 + 1) ((grow rs).takeWhile fun p => p.1 == r.1 + 1) fun p hp => by simpa using (mem_takeW hp).1
    have h2 : flatL ((grow rs).takeWhile fun p => p.1 == r.1 + 1) ++ flatL ((grow rs).dropWhile fun p => p.1 == r.1 + 1) = rs := by
      rw [← flat_app, List.takeWhile_append_dropWhile]
      exact ih
    show (((r.1, r.2.1, r.2.2) : Ra) :: rasL (r.1 + 1) (((grow rs).takeWhile fun p => p.1 == r.1 + 1).map Prod.snd)) ++ flatL ((grow rs).dropWhile fun p => p.1 == r.1 + 1) = r :: rs
    rw [h1, List.cons_append, h2]
/-- levels that climb by one at most -/
def Lad : List Int → Prop
  | [] => True
  | [_] => True
  | a :: b :: ls => b ≤ a + 1 ∧ Lad (b :: ls)
theorem Lad.tail {a : Int} {ls : List Int} (h : Lad (a :: ls)) : Lad ls := by
  cases ls with
  | nil => exact True.intro
  | cons b ls => exact h.2
theorem grow_mem {p : Lt} : ∀ {rs : List Ra}, p ∈ grow rs → ∃ r ∈ rs, r.1 = p.1
  | [], h => absurd h List.not_mem_nil
  | r :: rs, h => by
    rcases List.mem_cons.mp h with rfl | h
    · exact ⟨r, List.mem_cons_self, rfl⟩
    · obtain ⟨x, hx, e⟩ := grow_mem (mem_dropW h)
      exact ⟨x, List.mem_cons_of_mem _ hx, e⟩
theorem grow_head : ∀ {r : Ra} {rs : List Ra}, ∃ t ps, grow (r :: rs) = (r.1, t) :: ps := ⟨_, _, rfl⟩
/-- along grow the levels fall -/
theorem grow_desc : ∀ {rs : List Ra}, Lad (rs.map Prod.fst) → (grow rs).Pairwise fun p q => q.1 ≤ p.1
  | [], _ => .nil
  | r :: rs, h => by
    have ih := grow_desc (rs := rs) h.tail
    have ihd : ((grow rs).dropWhile fun p => p.1 == r.1 + 1).Pairwise fun p q => q.1 ≤ p.1 := ih.sublist (List.dropWhile_sublist _)
    refine List.pairwise_cons.mpr ⟨fun q hq => ?_, ihd⟩
    have top : ∀ q ∈ grow rs, q.1 ≤ r.1 + 1 := fun q hq => by
      cases rs with
      | nil => exact absurd hq List.not_mem_nil
      | cons s rs =>
        have hs : s.1 ≤ r.1 + 1 := h.1
        obtain ⟨t, ps, e⟩ := grow_head (r := s) (rs := rs)
        rw [e] at hq ih
        rcases List.mem_cons.mp hq with rfl | hq
        · exact hs
        · have := (List.pairwise_cons.mp ih).1 q hq
          simp only at this
          omega
    show q.1 ≤ r.1
    cases hd : (grow rs).dropWhile fun p => p.1 == r.1 + 1 with
    | nil =>
      rw [hd] at hq
      exact absurd hq List.not_mem_nil
    | cons x xs =>
      have hx : ¬ x.1 = r.1 + 1 := by
        have := List.head?_dropWhile_not (fun p : Lt => p.1 == r.1 + 1) (grow rs)
        rw [hd] at this
        simpa using this
      have hx2 := top x (mem_dropW (by rw [hd]; exact List.mem_cons_self))
      rw [hd] at hq ihd
      rcases List.mem_cons.mp hq with rfl | hq
      · omega
      · have := (List.pairwise_cons.mp ihd).1 q hq
        omega
/-- rows that begin at the level 0 and stand above it from then on are one tree -/
theorem grow_one {r : Ra} {rs : List Ra} (h : Lad ((r :: rs).map Prod.fst)) (hr : r.1 = 0) (hs : ∀ x ∈ rs, 1 ≤ x.1) : ∃ t, grow (r :: rs) = [(0, t)] := by
  obtain ⟨t, ps, e⟩ := grow_head (r := r) (rs := rs)
  have hd := grow_desc h
  rw [e] at hd
  cases ps with
  | nil => exact ⟨t, by rw [e, hr]⟩
  | cons p ps =>
    exfalso
    have h1 := (List.pairwise_cons.mp hd).1 p List.mem_cons_self
    have h2 : p ∈ (grow rs).dropWhile fun p => p.1 == r.1 + 1 := by
      have e2 : grow (r :: rs) = _ :: (grow rs).dropWhile fun p => p.1 == r.1 + 1 := rfl
      rw [e] at e2
      have := (List.cons.inj e2).2
      rw [← this]
      exact List.mem_cons_self
    obtain ⟨x, hx, ex⟩ := grow_mem (mem_dropW h2)
    have := hs x hx
    simp only at h1
    omega

/-! ### nodes in the heap -/
theorem putF_le (f : Str) (v : V) : ∀ fs : List (Str × V), (putF f v fs).length ≤ fs.length + 1
  | [] => Nat.le_refl _
  | (g, u) :: r => by
    have ih := putF_le f v r
    show (if g = f then _ else _ : List (Str × V)).length ≤ _
    split
    · rw [List.length_cons, List.length_cons]
      omega
    · rw [List.length_cons, List.length_cons]
      omega
def nfl (d : Nd) (tp : Addr) : List (Str × V) := putF "popped" (.int d.pop) (putF "nodes" (.ref tp) (putF "alternative" (.int d.alt) (putF "look" (.int d.look) (putF "width" (.int d.wid) (putF "lead" (.int d.lead) (putF "state" (.int d.st) (putF "symbol" (.str d.sym) (putF "kind" (.str d.kind) []))))))))
theorem nf_kind (d : Nd) (tp : Addr) : (nfl d tp).lookup ("kind" : Str) = some (.str d.kind) := by
  unfold nfl
  rw [lookup_putF, if_neg (by decide +kernel), lookup_putF, if_neg (by decide +kernel), lookup_putF, if_neg (by decide +kernel), lookup_putF, if_neg (by decide +kernel), lookup_putF, if_neg (by decide +kernel), lookup_putF, if_neg (by decide +kernel), lookup_putF, if_neg (by decide +kernel), lookup_putF, if_neg (by decide +kernel), lookup_putF, if_pos rfl]
theorem nf_symbol (d : Nd) (tp : Addr) : (nfl d tp).lookup ("symbol" : Str) = some (.str d.sym) := by
  unfold nfl
  rw [lookup_putF, if_neg (by decide +kernel), lookup_putF, if_neg (by decide +kernel), lookup_putF, if_neg (by decide +kernel), lookup_putF, if_neg (by decide +kernel), lookup_putF, if_neg (by decide +kernel), lookup_putF, if_neg (by decide +kernel), lookup_putF, if_neg (by decide +kernel), lookup_putF, if_pos rfl]
theorem nf_state (d : Nd) (tp : Addr) : (nfl d tp).lookup ("state" : Str) = some (.int d.st) := by
  unfold nfl
  rw [lookup_putF, if_neg (by decide +kernel), lookup_putF, if_neg (by decide +kernel), lookup_putF, if_neg (by decide +kernel), lookup_putF, if_neg (by decide +kernel), lookup_putF, if_neg (by decide +kernel), lookup_putF, if_neg (by decide +kernel), lookup_putF, if_pos rfl]
theorem nf_lead (d : Nd) (tp : Addr) : (nfl d tp).lookup ("lead" : Str) = some (.int d.lead) := by
  unfold nfl
  rw [lookup_putF, if_neg (by decide +kernel), lookup_putF, if_neg (by decide +kernel), lookup_putF, if_neg (by decide +kernel), lookup_putF, if_neg (by decide +kernel), lookup_putF, if_neg (by decide +kernel), lookup_putF, if_pos rfl]
theorem nf_width (d : Nd) (tp : Addr) : (nfl d tp).lookup ("width" : Str) = some (.int d.wid) := by
  unfold nfl
  rw [lookup_putF, if_neg (by decide +kernel), lookup_putF, if_neg (by decide +kernel), lookup_putF, if_neg (by decide +kernel), lookup_putF, if_neg (by decide +kernel), lookup_putF, if_pos rfl]
theorem nf_look (d : Nd) (tp : Addr) : (nfl d tp).lookup ("look" : Str) = some (.int d.look) := by
  unfold nfl
  rw [lookup_putF, if_neg (by decide +kernel), lookup_putF, if_neg (by decide +kernel), lookup_putF, if_neg (by decide +kernel), lookup_putF, if_pos rfl]
theorem nf_alternative (d : Nd) (tp : Addr) : (nfl d tp).lookup ("alternative" : Str) = some (.int d.alt) := by
  unfold nfl
  rw [lookup_putF, if_neg (by decide +kernel), lookup_putF, if_neg (by decide +kernel), lookup_putF, if_pos rfl]
theorem nf_nodes (d : Nd) (tp : Addr) : (nfl d tp).lookup ("nodes" : Str) = some (.ref tp) := by
  unfold nfl
  rw [lookup_putF, if_neg (by decide +kernel), lookup_putF, if_pos rfl]
theorem nf_popped (d : Nd) (tp : Addr) : (nfl d tp).lookup ("popped" : Str) = some (.int d.pop) := by
  unfold nfl
  rw [lookup_putF, if_pos rfl]
theorem szM {n : Nat} (h : n ≤ 4000000) : n ≤ sizeLine := Nat.le_trans h (by decide)
mutual
def NodeAt (K : PySem.W.Frag) (C : Addr) (H : Hp) : Tr → Prop
  | .mk p d ks => (∃ dx tp, H p = some (.ins C dx (nfl d tp)) ∧ SqT K H tp (ks.map fun t => V.ref t.at)) ∧ NodesAt K C H ks
def NodesAt (K : PySem.W.Frag) (C : Addr) (H : Hp) : List Tr → Prop
  | [] => True
  | t :: ts => NodeAt K C H t ∧ NodesAt K C H ts
end
/-- what a heap keeps of nodes and tuples -/
structure Keeps (K : PySem.W.Frag) (C : Addr) (H H' : Hp) : Prop where
  ins : ∀ p dx d tp, H p = some (.ins C dx (nfl d tp)) → H' p = some (.ins C dx (nfl d tp))
  tup : ∀ tp us, SqT K H tp us → SqT K H' tp us
theorem Keeps.of {K : PySem.W.Frag} {C : Addr} {H H' : Hp} (s : Same H H') : Keeps K C H H' :=
  ⟨fun _ _ _ _ h => s _ _ h, fun tp us h => by
    rcases h with (h | ⟨o, h⟩) | h
    · exact .inl (.inl (s _ _ h))
    · exact .inl (.inr ⟨o, s _ _ h⟩)
    · exact .inr h⟩
theorem Keeps.trans {K : PySem.W.Frag} {C : Addr} {H H1 H2 : Hp} (a : Keeps K C H H1) (b : Keeps K C H1 H2) : Keeps K C H H2 := ⟨fun p dx d tp h => b.ins p dx d tp (a.ins p dx d tp h), fun tp us h => b.tup tp us (a.tup tp us h)⟩
mutual
theorem NodeAt.keep {K : PySem.W.Frag} {C : Addr} {H H' : Hp} (s : Keeps K C H H') : ∀ {t : Tr}, NodeAt K C H t → NodeAt K C H' t
  | .mk _ _ _, ⟨⟨dx, tp, h1, h2⟩, h3⟩ => ⟨⟨dx, tp, s.ins _ _ _ _ h1, s.tup _ _ h2⟩, NodesAt.keep s h3⟩
theorem NodesAt.keep {K : PySem.W.Frag} {C : Addr} {H H' : Hp} (s : Keeps K C H H') : ∀ {ts : List Tr}, NodesAt K C H ts → NodesAt K C H' ts
  | [], _ => True.intro
  | _ :: _, ⟨h1, h2⟩ => ⟨NodeAt.keep s h1, NodesAt.keep s h2⟩
end
theorem NodesAt.mem {K : PySem.W.Frag} {C : Addr} {H : Hp} : ∀ {ts : List Tr} {t : Tr}, NodesAt K C H ts → t ∈ ts → NodeAt K C H t
  | _ :: _, _, ⟨h1, h2⟩, hm => by
    rcases List.mem_cons.mp hm with rfl | hm
    · exact h1
    · exact NodesAt.mem h2 hm
theorem NodesAt.of {K : PySem.W.Frag} {C : Addr} {H : Hp} : ∀ {ts : List Tr}, (∀ t ∈ ts, NodeAt K C H t) → NodesAt K C H ts
  | [], _ => True.intro
  | _ :: _, h => ⟨h _ List.mem_cons_self, NodesAt.of fun t ht => h t (List.mem_cons_of_mem _ ht)⟩
theorem NodeAt.it {K : PySem.W.Frag} {C : Addr} {H : Hp} : ∀ {t : Tr}, NodeAt K C H t → ∃ dx tp, H t.at = some (.ins C dx (nfl t.d tp)) ∧ SqT K H tp (t.ks.map fun t => V.ref t.at)
  | .mk _ _ _, h => h.1
theorem NodeAt.kids {K : PySem.W.Frag} {C : Addr} {H : Hp} : ∀ {t : Tr}, NodeAt K C H t → NodesAt K C H t.ks
  | .mk _ _ _, h => h.2
/-! ### Node(..) -/
def spNInit (K : PySem.W.Frag) (C : Addr) : Sp := fun vs H Q _ => ∃ (p dx tn : Addr) (d : Nd) (us : List V), H p = some (.ins C dx []) ∧ vs = [.ref p, .str d.kind, .str d.sym, .int d.st, .int d.lead, .int d.wid, .int d.look, .int d.alt, .ref tn, .int d.pop] ∧
  ((SqT K H tn us ∧ Q .non (upd H p (.ins C dx (nfl d tn)))) ∨ (SqL K H tn us ∧ ∀ tp, tp ≠ p → H tp = none → Q .non (upd (upd H tp (.tup us)) p (.ins C dx (nfl d tp)))))
theorem upd_swap {H : Hp} {a b : Addr} {x y : HO} (h : a ≠ b) : upd (upd H a x) b y = upd (upd H b y) a x := by
  funext c
  unfold upd
  by_cases c1 : c = a
  · by_cases c2 : c = b
    · exact absurd (c1.symm.trans c2) h
    · rw [if_neg c2, if_pos c1, if_pos c1]
  · rw [if_neg c1]
    by_cases c2 : c = b
    · rw [if_pos c2, if_neg c1]
    · rw [if_neg c2, if_neg c1]
theorem sqT_updI {K : PySem.W.Frag} {H : Hp} {t p C dx : Addr} {us : List V} {fs : List (Str × V)} {o : HO} (h : SqT K H t us) (hp : H p = some (.ins C dx fs)) : SqT K (upd H p o) t us := by
  rcases h with (h | ⟨x, h⟩) | h
  · exact .inl (.inl (by rw [upd_ne (fun e => by rw [e, hp] at h; cases h)]; exact h))
  · exact .inl (.inr ⟨x, by rw [upd_ne (fun e => by rw [e, hp] at h; cases h)]; exact h⟩)
  · exact .inr h
theorem sqL_updI {K : PySem.W.Frag} {H : Hp} {t p C dx : Addr} {us : List V} {fs : List (Str × V)} {o : HO} (h : SqL K H t us) (hp : H p = some (.ins C dx fs)) : SqL K (upd H p o) t us := by
  rcases h with (h | ⟨x, h⟩) | h
  · exact .inl (.inl (by rw [upd_ne (fun e => by rw [e, hp] at h; cases h)]; exact h))
  · exact .inl (.inr ⟨x, by rw [upd_ne (fun e => by rw [e, hp] at h; cases h)]; exact h⟩)
  · exact .inr h
theorem ok_Node_init (T : Txt K mg) : FnOk P w K mg base CX0 1 T.a_Node_init T.fd_Node_init psN (spNInit K T.C_Node) := by
  refine T.F_Node_init.ok sc_Node_init (fun vs H Q E h => ?_) (fun cdv A outer s H vs Q E hr h => ?_)
  · obtain ⟨p, dx, tn, d, us, _, rfl, _⟩ := h
    rfl
  · obtain ⟨p, dx, tn, d, us, hp, rfl, h⟩ := h
    refine ⟨_, (pss_cons (ps_fld (pv 0) (pv 1) rfl)
      (pss_cons (ps_fld (pv 0) (pv 2) rfl)
      (pss_cons (ps_fld (pv 0) (pv 3) rfl)
      (pss_cons (ps_fld (pv 0) (pv 4) rfl)
      (pss_cons (ps_fld (pv 0) (pv 5) rfl)
      (pss_cons (ps_fld (pv 0) (pv 6) rfl)
      (pss_cons (ps_fld (pv 0) (pv 7) rfl)
      (pss_cons (ps_fld (pv 0) (pe_callTy call_tuple_of (by rfl) T.m_tuple (by decide +kernel) (pa_cons (pv 8) pa_nil)) rfl)
      (pss_one (ps_fld (pv 0) (pv 9) rfl)))))))))), ?_⟩
    have ln0 : ([] : List (Str × V)).length = 0 := rfl
    have l1 := putF_le "kind" (.str d.kind) []
    have l2 := putF_le "symbol" (.str d.sym) (putF "kind" (.str d.kind) [])
    have l3 := putF_le "state" (.int d.st) (putF "symbol" (.str d.sym) (putF "kind" (.str d.kind) []))
    have l4 := putF_le "lead" (.int d.lead) (putF "state" (.int d.st) (putF "symbol" (.str d.sym) (putF "kind" (.str d.kind) [])))
    have l5 := putF_le "width" (.int d.wid) (putF "lead" (.int d.lead) (putF "state" (.int d.st) (putF "symbol" (.str d.sym) (putF "kind" (.str d.kind) []))))
    have l6 := putF_le "look" (.int d.look) (putF "width" (.int d.wid) (putF "lead" (.int d.lead) (putF "state" (.int d.st) (putF "symbol" (.str d.sym) (putF "kind" (.str d.kind) [])))))
    have l7 := putF_le "alternative" (.int d.alt) (putF "look" (.int d.look) (putF "width" (.int d.wid) (putF "lead" (.int d.lead) (putF "state" (.int d.st) (putF "symbol" (.str d.sym) (putF "kind" (.str d.kind) []))))))
    refine ⟨_, rfl, _, rfl, p, _, dx, _, rfl, hp, T.CL_Node, T.NA_Node_kind, by omega, ?_⟩
    refine ⟨_, rfl, _, rfl, p, _, dx, _, rfl, upd_same, T.CL_Node, T.NA_Node_symbol, by omega, ?_⟩
    refine ⟨_, rfl, _, rfl, p, _, dx, _, rfl, upd_same, T.CL_Node, T.NA_Node_state, by omega, ?_⟩
    refine ⟨_, rfl, _, rfl, p, _, dx, _, rfl, upd_same, T.CL_Node, T.NA_Node_lead, by omega, ?_⟩
    refine ⟨_, rfl, _, rfl, p, _, dx, _, rfl, upd_same, T.CL_Node, T.NA_Node_width, by omega, ?_⟩
    refine ⟨_, rfl, _, rfl, p, _, dx, _, rfl, upd_same, T.CL_Node, T.NA_Node_look, by omega, ?_⟩
    refine ⟨_, rfl, _, rfl, p, _, dx, _, rfl, upd_same, T.CL_Node, T.NA_Node_alternative, by omega, ?_⟩
    rw [upd_upd, upd_upd, upd_upd, upd_upd, upd_upd, upd_upd]
    have l8 := fun tp : Addr => putF_le "nodes" (.ref tp) (putF "alternative" (.int d.alt) (putF "look" (.int d.look) (putF "width" (.int d.wid) (putF "lead" (.int d.lead) (putF "state" (.int d.st) (putF "symbol" (.str d.sym) (putF "kind" (.str d.kind) [])))))))
    rcases h with ⟨ht, q⟩ | ⟨ht, q⟩
    · refine ⟨_, rfl, tn, us, rfl, .inr ⟨sqT_updI ht hp, ?_⟩⟩
      refine ⟨_, rfl, p, _, dx, _, rfl, upd_same, T.CL_Node, T.NA_Node_nodes, by omega, ?_⟩
      have := l8 tn
      refine ⟨_, rfl, _, rfl, p, _, dx, _, rfl, upd_same, T.CL_Node, T.NA_Node_popped, by omega, ?_⟩
      rw [upd_upd, upd_upd]
      exact q
    · refine ⟨_, rfl, tn, us, rfl, .inl ⟨sqL_updI ht hp, fun tp ntp => ?_⟩⟩
      have hne : tp ≠ p := fun e => by rw [e, upd_same] at ntp; cases ntp
      refine ⟨_, rfl, p, _, dx, _, rfl, by rw [upd_ne hne.symm]; exact upd_same, T.CL_Node, T.NA_Node_nodes, by omega, ?_⟩
      have := l8 tp
      refine ⟨_, rfl, _, rfl, p, _, dx, _, rfl, upd_same, T.CL_Node, T.NA_Node_popped, by omega, ?_⟩
      rw [upd_upd, upd_swap hne.symm, upd_upd]
      exact q tp hne (by rw [upd_ne hne] at ntp; exact ntp)

/-! ### written kinds -/
theorem takeN {α : Type} {xs : List α} {k : Nat} {x : α} (h : xs[k]? = some x) : xs.take (k + 1) = xs.take k ++ [x] := by
  rw [List.take_add_one, h, Option.toList_some]
theorem sg_dec (c n : Nat) (x : Str) (hx : x = sg n) : decide (V.str ⟨#[c]⟩ = V.str x) = decide (c = n) := by
  subst hx
  refine decide_eq_decide.mpr ⟨fun e => ?_, fun e => by rw [e]⟩
  have h1 : (⟨#[c]⟩ : Str) = ⟨#[n]⟩ := by injection e
  have h2 : #[c] = #[n] := by injection h1
  have h3 : [c] = [n] := congrArg Array.toList h2
  exact (List.cons.inj h3).1
def escC (c : Nat) : List Nat := if c = 10 then [92, 110] else if c = 9 then [92, 116] else if c = 34 then [92, 34] else if c = 92 then [92, 92] else [c]
def quoteL (l : List Nat) : List Nat := 34 :: ((l.map escC).flatten ++ [34])
theorem esc_len (c : Nat) : (escC c).length ≤ 2 := by
  unfold escC
  split
  · decide
  · split
    · decide
    · split
      · decide
      · split
        · decide
        · exact Nat.le_succ 1
theorem escs_len : ∀ l : List Nat, ((l.map escC).flatten).length ≤ 2 * l.length
  | [] => Nat.le_refl _
  | c :: l => by
    have h1 := esc_len c
    have h2 := escs_len l
    show (escC c ++ (l.map escC).flatten).length ≤ 2 * (l.length + 1)
    rw [List.length_append]
    omega
def spQuoted : Sp := fun vs H Q _ => ∃ z : Str, vs = [.str z] ∧ (cs z).length ≤ 1000 ∧ ∀ x : Str, cs x = quoteL (cs z) → Q (.str x) H
theorem ok_quoted (T : Txt K mg) : FnOk P w K mg base CX0 1 T.a_law_quoted T.fd_law_quoted ["chars"] spQuoted := by
  refine T.F_law_quoted.ok sc_law_quoted (fun vs H Q E h => ?_) (fun cdv A outer s H vs Q E hr h => ?_)
  · obtain ⟨z, rfl, _⟩ := h
    rfl
  · obtain ⟨z, rfl, lz, q⟩ := h
    refine ⟨_, (pss_cons (ps_set (i := 1) sc_law_quoted.nd rfl (.inl rfl) pe_str)
      (pss_cons (ps_for PassesOwn.never rfl (pi_str (pv 0)) (pg_name (i := 2) sc_law_quoted.nd rfl (.inl rfl)) (pss_one (ps_if (pt_cmpR op_eq (pv 2) pe_str (nomark _)) (pss_one (ps_set (i := 1) sc_law_quoted.nd rfl (.inl rfl) (pe_op op_add_str (pv 1) pe_str))) (pss_one (ps_if (pt_cmpR op_eq (pv 2) pe_str (nomark _)) (pss_one (ps_set (i := 1) sc_law_quoted.nd rfl (.inl rfl) (pe_op op_add_str (pv 1) pe_str))) (pss_one (ps_if (PW.pt (pw_or (pt_cmpR op_eq (pv 2) pe_str (nomark _)) (pw_or1 (pt_cmpR op_eq (pv 2) pe_str (nomark _))))) (pss_one (ps_set (i := 1) sc_law_quoted.nd rfl (.inl rfl) (pe_op op_add_str (pe_op op_add_str (pv 1) pe_str) (pv 2)))) (pss_one (ps_set (i := 1) sc_law_quoted.nd rfl (.inl rfl) (pe_op op_add_str (pv 1) (pv 2)))))))))))
      (pss_one (ps_ret (pe_op op_add_str (pv 1) pe_str))))), ?_⟩
    refine ⟨_, rfl, z, rfl, ?_⟩
    refine for_strS (fun i σ H' => H' = H ∧ ∃ (x : Str) (y2 : Option V), σ = [some (.str z), some (.str x), y2] ∧ cs x = 34 :: (((cs z).take i).map escC).flatten) ⟨rfl, "\"", none, rfl, by rw [List.take_zero]; show cs _ = [34]; decide +kernel⟩ ?_ ?_
    · rintro i c σ H' hc ⟨rfl, x, y2, rfl, hx⟩
      have hc' : (cs z)[i]? = some c := by rw [← hc]; exact Array.getElem?_toList
      have lx : x.length ≤ 3000 := by
        rw [len_cs, hx, List.length_cons]
        have := escs_len ((cs z).take i)
        have : ((cs z).take i).length ≤ (cs z).length := by rw [List.length_take]; exact Nat.min_le_right _ _
        omega
      have fin : ∀ e : Str, cs e = escC c → cs (x ++ e) = 34 :: (((cs z).take (i + 1)).map escC).flatten := fun e he => by
        rw [cs_app, hx, he, takeN hc', List.map_append, List.flatten_append]
        show _ = 34 :: (_ ++ (escC c ++ []))
        rw [List.append_nil]
        rfl
      have c10 := sg_dec c 10 "\n" (by decide +kernel)
      have c9 := sg_dec c 9 "\t" (by decide +kernel)
      have c34 := sg_dec c 34 "\"" (by decide +kernel)
      have c92 := sg_dec c 92 "\\" (by decide +kernel)
      have hs : ∀ e : Str, e.length ≤ 2 → x.length + e.length ≤ sizeLine := fun e he => Nat.le_trans (Nat.add_le_add lx he) (by decide)
      refine ⟨_, rfl, rfl, _, rfl, ite2 (fun h1 => ?_) (fun h1 => ?_)⟩
      · rw [c10] at h1
        have h1 := of_decide_eq_true h1
        exact ⟨_, rfl, _, _, rfl, rfl, hs _ (by decide +kernel), rfl, _, _, rfl, fin _ (by unfold escC; rw [if_pos h1]; decide +kernel)⟩
      rw [c10] at h1
      have h1 : ¬ c = 10 := fun e => h1 (decide_eq_true e)
      refine ⟨_, rfl, rfl, _, rfl, ite2 (fun h2 => ?_) (fun h2 => ?_)⟩
      · rw [c9] at h2
        have h2 := of_decide_eq_true h2
        exact ⟨_, rfl, _, _, rfl, rfl, hs _ (by decide +kernel), rfl, _, _, rfl, fin _ (by unfold escC; rw [if_neg h1, if_pos h2]; decide +kernel)⟩
      rw [c9] at h2
      have h2 : ¬ c = 9 := fun e => h2 (decide_eq_true e)
      have l1 : (cs "\\").length = 1 := by decide +kernel
      have lb : (x ++ "\\").length ≤ 3002 := by
        rw [len_cs, cs_app, List.length_append, ← len_cs]
        omega
      have two : escC c = cs "\\" ++ [c] → cs ((x ++ "\\") ++ ⟨#[c]⟩) = 34 :: (((cs z).take (i + 1)).map escC).flatten := fun e => by
        have f := fin ⟨(escC c).toArray⟩ rfl
        rw [cs_app, cs_mk, e] at f
        rw [cs_app, cs_app, List.append_assoc]
        exact f
      have sz2' : (x ++ "\\").length + (⟨#[c]⟩ : Str).length ≤ sizeLine := Nat.le_trans (Nat.add_le_add lb (show (⟨#[c]⟩ : Str).length ≤ 2 from Nat.le_succ 1)) (by decide)
      refine ⟨_, rfl, rfl, _, rfl, ite2 (fun h3 => ?_) (fun h3 => ?_)⟩
      · rw [c34] at h3
        have h3 := of_decide_eq_true h3
        exact ⟨_, rfl, _, _, rfl, rfl, hs _ (by decide +kernel), _, rfl, _, _, rfl, rfl, sz2', rfl, _, _, rfl, two (by unfold escC; rw [if_neg h1, if_neg h2, if_pos h3, h3]; decide +kernel)⟩
      rw [c34] at h3
      have h3 : ¬ c = 34 := fun e => h3 (decide_eq_true e)
      refine ⟨_, rfl, rfl, _, rfl, ite2 (fun h4 => ?_) (fun h4 => ?_)⟩
      · rw [c92] at h4
        have h4 := of_decide_eq_true h4
        exact ⟨_, rfl, _, _, rfl, rfl, hs _ (by decide +kernel), _, rfl, _, _, rfl, rfl, sz2', rfl, _, _, rfl, two (by unfold escC; rw [if_neg h1, if_neg h2, if_neg h3, if_pos h4, h4]; decide +kernel)⟩
      rw [c92] at h4
      have h4 : ¬ c = 92 := fun e => h4 (decide_eq_true e)
      exact ⟨_, rfl, _, rfl, _, _, rfl, rfl, hs _ (Nat.le_succ 1), rfl, _, _, rfl, fin _ (by unfold escC; rw [if_neg h1, if_neg h2, if_neg h3, if_neg h4])⟩
    · rintro σ H' ⟨rfl, x, y2, rfl, hx⟩
      have ez : (cs z).take z.cps.size = cs z := by
        rw [List.take_of_length_le]
        exact Nat.le_of_eq (len_cs z).symm
      rw [ez] at hx
      have lx : x.length ≤ 3000 := by
        rw [len_cs, hx, List.length_cons]
        have := escs_len (cs z)
        omega
      refine ⟨_, rfl, _, _, rfl, rfl, Nat.le_trans (Nat.add_le_add lx (show _ ≤ 2 by decide +kernel)) (by decide), q _ ?_⟩
      rw [cs_app, hx]
      unfold quoteL
      rw [List.cons_append]
      congr 2

def plainS : Str := "\t\n !\"#$&'()*+,-./0123456789:;<=>?@ABCDEFGHIJKLMNOPQRSTUVWXYZ[\\]^_abcdefghijklmnopqrstuvwxyz{|}~"
def lettS : Str := "abcdefghijklmnopqrstuvwxyz"
def nameS : Str := "abcdefghijklmnopqrstuvwxyz0123456789_~"
/-- a kind or a symbol as it is written -/
def Srt (l : List Nat) : Prop := (∃ c r, l = c :: r ∧ c ∈ cs lettS ∧ ∀ x ∈ r, x ∈ cs nameS) ∨ ∃ b, b ≠ [] ∧ (∀ c ∈ b, c ∈ cs plainS) ∧ l = quoteL b
def spSort : Sp := fun vs H Q _ => ∃ r : Addr, vs = [.ref r] ∧ ReelAt H r ∧ ∀ (x : Str) H', Srt (cs x) → (cs x).length ≤ 20 → But r H H' → ReelAt H' r → Q (.str x) H'
theorem ok_literal (T : Txt K mg) : FnOk P w K mg base CX0 3 T.a_law_literal T.fd_law_literal ["reel"] spSort := by
  have G_law_draw : FnOk P w K mg base CX0 1 T.a_law_draw T.fd_law_draw ["reel", "size"] spDraw := ok_draw T
  have G_law_pick : FnOk P w K mg base CX0 2 T.a_law_pick T.fd_law_pick ["reel", "row"] (spPick K) := ok_pick T
  have G_law_quoted : FnOk P w K mg base CX0 1 T.a_law_quoted T.fd_law_quoted ["chars"] spQuoted := ok_quoted T
  refine T.F_law_literal.ok sc_law_literal (fun vs H Q E h => ?_) (fun cdv A outer s H vs Q E hr h => ?_)
  · obtain ⟨r, rfl, _⟩ := h
    rfl
  · have hr_law_draw : Room 1 _ := hr.mono (by decide)
    have hr_law_pick : Room 2 _ := hr
    have hr_law_quoted : Room 1 _ := hr.mono (by decide)
    obtain ⟨r, rfl, hR, q⟩ := h
    refine ⟨_, (pss_cons (ps_set (i := 1) sc_law_literal.nd rfl (.inl rfl) pe_str)
      (pss_cons (ps_set (i := 1) sc_law_literal.nd rfl (.inl rfl) (pe_op op_add_str (pv 1) pe_str))
      (pss_cons (ps_set (i := 2) sc_law_literal.nd rfl (.inl rfl) pe_str)
      (pss_cons (ps_for PassesOwn.never rfl (pi_range1 (by rfl) T.m_range (pa_cons (pe_op op_add pe_int (pe_call G_law_draw hr_law_draw (by rfl) T.g_law_draw T.F_law_draw.kp T.b_law_draw .nil pass0 (pa_cons (pv 0) (pa_cons pe_int pa_nil)))) pa_nil)) (pg_name (i := 3) sc_law_literal.nd rfl (.inl rfl)) (pss_one (ps_if (pt_cmpR op_eq (pe_call G_law_draw hr_law_draw (by rfl) T.g_law_draw T.F_law_draw.kp T.b_law_draw .nil pass0 (pa_cons (pv 0) (pa_cons pe_int pa_nil))) pe_int (nomark _)) (pss_one (ps_set (i := 2) sc_law_literal.nd rfl (.inl rfl) (pe_op op_add_str (pv 2) (pe_call G_law_pick hr_law_pick (by rfl) T.g_law_pick T.F_law_pick.kp T.b_law_pick .nil pass0 (pa_cons (pv 0) (pa_cons pe_str pa_nil)))))) (pss_one (ps_set (i := 2) sc_law_literal.nd rfl (.inl rfl) (pe_op op_add_str (pv 2) (pe_call G_law_pick hr_law_pick (by rfl) T.g_law_pick T.F_law_pick.kp T.b_law_pick .nil pass0 (pa_cons (pv 0) (pa_cons (pv 1) pa_nil)))))))))
      (pss_one (ps_ret (pe_call G_law_quoted hr_law_quoted (by rfl) T.g_law_quoted T.F_law_quoted.kp T.b_law_quoted .nil pass0 (pa_cons (pv 2) pa_nil)))))))), ?_⟩
    refine ⟨_, rfl, _, _, rfl, rfl, by decide +kernel, ?_⟩
    have ep : (Str.ofString "\t\n !\"#$&'()*+,-./0123456789:;<=>?@ABCDEFGHIJKLMNOPQRSTUVWXYZ[\\]^_" : Str) ++ (Str.ofString "abcdefghijklmnopqrstuvwxyz{|}~" : Str) = plainS := by decide +kernel
    rw [ep]
    have ps : ∀ c ∈ cs (" ()\"\\\n\t-" : Str), c ∈ cs plainS := by decide +kernel
    refine ⟨_, rfl, r, 6, rfl, hR, by decide, fun v H1 v0 v1 b1 R1 => ⟨_, _, rfl, rfl, ?_⟩⟩
    refine ⟨_, rfl, by omega, by omega, ?_⟩
    refine for_range (lo := 0) (n := (1 + v).toNat) (fun i σ H' => But r H H' ∧ ReelAt H' r ∧ ∃ (x : Str) (y3 : Option V), σ = [some (.ref r), some (.str plainS), some (.str x), y3] ∧ (cs x).length = i ∧ ∀ c ∈ cs x, c ∈ cs plainS)
      ⟨b1, R1, "", none, rfl, by decide +kernel, fun c hc => absurd hc (by rw [show cs ("" : Str) = [] by decide +kernel]; exact List.not_mem_nil)⟩ ?_ ?_
    · rintro i σ H2 hi ⟨b2, R2, x, y3, rfl, lx, px⟩
      have more : ∀ (c : Nat), c ∈ cs plainS → (cs (x ++ sg c)).length = i + 1 ∧ ∀ d ∈ cs (x ++ sg c), d ∈ cs plainS := fun c hc => by
        rw [cs_app]
        refine ⟨by rw [List.length_append, lx]; rfl, fun d hd => ?_⟩
        rcases List.mem_append.mp hd with h | h
        · exact px d h
        · have h : d ∈ [c] := h
          rw [List.mem_singleton.mp h]
          exact hc
      have hs : ∀ c : Nat, x.length + (sg c).length ≤ sizeLine := fun c => Nat.le_trans (Nat.add_le_add (show x.length ≤ 10 by rw [len_cs]; omega) (show (sg c).length ≤ 2 from Nat.le_succ 1)) (by decide)
      refine ⟨_, rfl, r, 2, rfl, R2, by decide, fun w H3 w0 w1 b3 R3 => ⟨rfl, _, rfl, ite2 (fun _ => ?_) (fun _ => ?_)⟩⟩
      · refine ⟨_, rfl, _, rfl, r, _, rfl, R3, .inl ⟨_, rfl, by decide +kernel, by decide +kernel, fun c H4 hc b4 R4 => ⟨_, _, rfl, rfl, hs c, ?_⟩⟩⟩
        exact ⟨(b2.trans b3).trans b4, R4, _, _, rfl, more c (ps c hc)⟩
      · refine ⟨_, rfl, _, rfl, _, rfl, r, _, rfl, R3, .inl ⟨_, rfl, by decide +kernel, by decide +kernel, fun c H4 hc b4 R4 => ⟨_, _, rfl, rfl, hs c, ?_⟩⟩⟩
        exact ⟨(b2.trans b3).trans b4, R4, _, _, rfl, more c hc⟩
    · rintro σ H2 ⟨b2, R2, x, y3, rfl, lx, px⟩
      refine ⟨_, rfl, x, rfl, by omega, fun y ey => q y H2 (.inr ⟨cs x, ?_, px, ey⟩) ?_ b2 R2⟩
      · intro e
        rw [e] at lx
        have : 0 = (1 + v).toNat := lx
        omega
      · rw [ey]
        unfold quoteL
        have := escs_len (cs x)
        rw [List.length_cons, List.length_append, List.length_singleton]
        omega
theorem ok_name (T : Txt K mg) : FnOk P w K mg base CX0 4 T.a_law_name T.fd_law_name ["reel"] spSort := by
  have G_law_draw : FnOk P w K mg base CX0 1 T.a_law_draw T.fd_law_draw ["reel", "size"] spDraw := ok_draw T
  have G_law_pick : FnOk P w K mg base CX0 2 T.a_law_pick T.fd_law_pick ["reel", "row"] (spPick K) := ok_pick T
  have G_law_word : FnOk P w K mg base CX0 3 T.a_law_word T.fd_law_word ["reel", "letters", "least", "most"] spWord := ok_word T
  refine T.F_law_name.ok sc_law_name (fun vs H Q E h => ?_) (fun cdv A outer s H vs Q E hr h => ?_)
  · obtain ⟨r, rfl, _⟩ := h
    rfl
  · have hr_law_draw : Room 1 _ := hr.mono (by decide)
    have hr_law_pick : Room 2 _ := hr.mono (by decide)
    have hr_law_word : Room 3 _ := hr
    obtain ⟨r, rfl, hR, q⟩ := h
    refine ⟨_, (pss_cons (ps_if (pt_cmpR op_eq (pe_call G_law_draw hr_law_draw (by rfl) T.g_law_draw T.F_law_draw.kp T.b_law_draw .nil pass0 (pa_cons (pv 0) (pa_cons pe_int pa_nil))) pe_int (nomark _)) (pss_one (ps_ret (pe_call G_law_pick hr_law_pick (by rfl) T.g_law_pick T.F_law_pick.kp T.b_law_pick .nil pass0 (pa_cons (pv 0) (pa_cons (pe_lst (pa_cons pe_str (pa_cons pe_str (pa_cons pe_str (pa_cons pe_str pa_nil))))) pa_nil))))) pss_nil)
      (pss_cons (ps_set (i := 1) sc_law_name.nd rfl (.inl rfl) pe_str)
      (pss_one (ps_ret (pe_op op_add_str (pe_call G_law_pick hr_law_pick (by rfl) T.g_law_pick T.F_law_pick.kp T.b_law_pick .nil pass0 (pa_cons (pv 0) (pa_cons (pv 1) pa_nil))) (pe_call G_law_word hr_law_word (by rfl) T.g_law_word T.F_law_word.kp T.b_law_word .nil pass0 (pa_cons (pv 0) (pa_cons (pe_op op_add_str (pv 1) pe_str) (pa_cons pe_int (pa_cons pe_int pa_nil)))))))))), ?_⟩
    have nm : ∀ x : Str, (∃ c r, cs x = c :: r ∧ c ∈ cs lettS ∧ ∀ d ∈ r, d ∈ cs nameS) → Srt (cs x) := fun x h => .inl h
    refine ⟨_, rfl, r, 4, rfl, hR, by decide, fun v H1 v0 v1 b1 R1 => ⟨rfl, _, rfl, ite2 (fun _ => ?_) (fun _ => ?_)⟩⟩
    · refine ⟨_, rfl, by show 4 ≤ sizeLine; decide, fun p np => ?_⟩
      refine ⟨r, _, rfl, R1.new np, .inr ⟨p, _, rfl, (R1.ne np).symm, SqL.of upd_same, by show 0 < 4; decide, fun x H2 hx b2 R2 => ?_⟩⟩
      have all : ∀ y ∈ ([V.str "end", V.str "error", V.str "stray", V.str "root"] : List V), ∃ x : Str, y = .str x ∧ Srt (cs x) ∧ (cs x).length ≤ 20 := by
        intro y hy
        have s1 : ∀ x : Str, (∃ c r, cs x = c :: r ∧ c ∈ cs lettS ∧ (∀ d ∈ r, d ∈ cs nameS) ∧ r.length ≤ 19) → ∃ z : Str, V.str x = .str z ∧ Srt (cs z) ∧ (cs z).length ≤ 20 := fun x ⟨c, r, e, h1, h2, h3⟩ => ⟨x, rfl, nm x ⟨c, r, e, h1, h2⟩, by rw [e, List.length_cons]; omega⟩
        rcases List.mem_cons.mp hy with rfl | hy
        · exact s1 _ ⟨101, [110, 100], by decide +kernel, by decide +kernel, by decide +kernel, by decide⟩
        rcases List.mem_cons.mp hy with rfl | hy
        · exact s1 _ ⟨101, [114, 114, 111, 114], by decide +kernel, by decide +kernel, by decide +kernel, by decide⟩
        rcases List.mem_cons.mp hy with rfl | hy
        · exact s1 _ ⟨115, [116, 114, 97, 121], by decide +kernel, by decide +kernel, by decide +kernel, by decide⟩
        rw [List.mem_singleton.mp hy]
        exact s1 _ ⟨114, [111, 111, 116], by decide +kernel, by decide +kernel, by decide +kernel, by decide⟩
      obtain ⟨x, rfl, h1, h2⟩ := all _ hx
      exact q x H2 h1 h2 (b1.trans ((But.new np).trans b2)) R2
    · refine ⟨_, rfl, _, rfl, r, _, rfl, R1, .inl ⟨_, rfl, by decide +kernel, by decide +kernel, fun c H2 hc b2 R2 => ?_⟩⟩
      refine ⟨_, rfl, _, rfl, _, _, rfl, rfl, by decide +kernel, r, _, 0, 8, rfl, R2, by decide +kernel, by decide +kernel, by decide, by decide, by decide, fun x H3 l1 l2 hx b3 R3 => ?_⟩
      have en : (Str.ofString "abcdefghijklmnopqrstuvwxyz" : Str) ++ (Str.ofString "0123456789_~" : Str) = nameS := by decide +kernel
      rw [en] at hx
      have ec : cs (sg c ++ x) = c :: cs x := by
        rw [cs_app]
        rfl
      refine ⟨_, _, rfl, rfl, Nat.le_trans (Nat.add_le_add (show (sg c).length ≤ 2 from Nat.le_succ 1) (show x.length ≤ 8 by rw [len_cs]; omega)) (by decide), q _ H3 (nm _ ⟨c, cs x, ec, hc, hx⟩) ?_ ((b1.trans b2).trans b3) R3⟩
      rw [ec, List.length_cons]
      omega
theorem ok_sort (T : Txt K mg) : FnOk P w K mg base CX0 5 T.a_law_sort T.fd_law_sort ["reel"] spSort := by
  have G_law_draw : FnOk P w K mg base CX0 1 T.a_law_draw T.fd_law_draw ["reel", "size"] spDraw := ok_draw T
  have G_law_literal : FnOk P w K mg base CX0 3 T.a_law_literal T.fd_law_literal ["reel"] spSort := ok_literal T
  have G_law_name : FnOk P w K mg base CX0 4 T.a_law_name T.fd_law_name ["reel"] spSort := ok_name T
  refine T.F_law_sort.ok sc_law_sort (fun vs H Q E h => ?_) (fun cdv A outer s H vs Q E hr h => ?_)
  · obtain ⟨r, rfl, _⟩ := h
    rfl
  · have hr_law_draw : Room 1 _ := hr.mono (by decide)
    have hr_law_literal : Room 3 _ := hr.mono (by decide)
    have hr_law_name : Room 4 _ := hr
    obtain ⟨r, rfl, hR, q⟩ := h
    refine ⟨_, (pss_cons (ps_if (pt_cmpR op_eq (pe_call G_law_draw hr_law_draw (by rfl) T.g_law_draw T.F_law_draw.kp T.b_law_draw .nil pass0 (pa_cons (pv 0) (pa_cons pe_int pa_nil))) pe_int (nomark _)) (pss_one (ps_ret (pe_call G_law_literal hr_law_literal (by rfl) T.g_law_literal T.F_law_literal.kp T.b_law_literal .nil pass0 (pa_cons (pv 0) pa_nil)))) pss_nil)
      (pss_one (ps_ret (pe_call G_law_name hr_law_name (by rfl) T.g_law_name T.F_law_name.kp T.b_law_name .nil pass0 (pa_cons (pv 0) pa_nil))))), ?_⟩
    refine ⟨_, rfl, r, 2, rfl, hR, by decide, fun v H1 v0 v1 b1 R1 => ⟨rfl, _, rfl, ite2 (fun _ => ?_) (fun _ => ?_)⟩⟩
    · exact ⟨_, rfl, r, rfl, R1, fun x H2 h1 h2 b2 R2 => q x H2 h1 h2 (b1.trans b2) R2⟩
    · exact ⟨_, rfl, r, rfl, R1, fun x H2 h1 h2 b2 R2 => q x H2 h1 h2 (b1.trans b2) R2⟩

/-! ### levels -/
def intsIn (lo hi : Int) : List V → Bool
  | [] => true
  | .int i :: r => decide (lo ≤ i) && decide (i ≤ hi) && intsIn lo hi r
  | _ :: _ => false
theorem intsIn_mem {lo hi : Int} : ∀ {vs : List V}, intsIn lo hi vs = true → ∀ v ∈ vs, ∃ i, v = V.int i ∧ lo ≤ i ∧ i ≤ hi
  | [], _, v, m => absurd m List.not_mem_nil
  | .int i :: r, h, v, m => by
    unfold intsIn at h
    simp only [Bool.and_eq_true, decide_eq_true_eq] at h
    rcases List.mem_cons.mp m with rfl | m
    · exact ⟨i, rfl, h.1.1, h.1.2⟩
    · exact intsIn_mem h.2 v m
  | .non :: _, h, _, _ => by cases h
  | .bl _ :: _, h, _, _ => by cases h
  | .str _ :: _, h, _, _ => by cases h
  | .byt _ :: _, h, _, _ => by cases h
  | .flt _ :: _, h, _, _ => by cases h
  | .ref _ :: _, h, _, _ => by cases h
  | .ty _ :: _, h, _, _ => by cases h
def Lev (L : List Int) : Prop := ∃ ls, L = 0 :: ls ∧ (∀ x ∈ ls, 1 ≤ x) ∧ Lad L
theorem Lad.snoc {a x : Int} : ∀ {L : List Int}, Lad (L ++ [a]) → x ≤ a + 1 → Lad (L ++ [a] ++ [x])
  | [], _, h => ⟨h, True.intro⟩
  | [b], h1, h => ⟨h1.1, h, True.intro⟩
  | b :: c :: L, h1, h => ⟨h1.1, Lad.snoc (L := c :: L) h1.2 h⟩
/-- levels, the last of them -/
def LevE (L : List Int) (a : Int) : Prop := Lev L ∧ ∃ L', L = L' ++ [a]
theorem LevE.more {L : List Int} {a x : Int} (h : LevE L a) (h1 : 1 ≤ x) (h2 : x ≤ a + 1) : LevE (L ++ [x]) x := by
  obtain ⟨⟨ls, e, hs, hl⟩, L', e2⟩ := h
  refine ⟨⟨ls ++ [x], by rw [e]; rfl, fun y hy => ?_, ?_⟩, L, rfl⟩
  · rcases List.mem_append.mp hy with h | h
    · exact hs y h
    · rw [List.mem_singleton.mp h]
      exact h1
  · rw [e2] at hl ⊢
    exact hl.snoc h2
theorem LevE.zero : LevE [0] 0 := ⟨⟨[], rfl, fun x hx => absurd hx List.not_mem_nil, True.intro⟩, [], rfl⟩
theorem LevE.ge {L : List Int} {a : Int} (h : LevE L a) : 0 ≤ a := by
  obtain ⟨⟨ls, e, hs, _⟩, L', e2⟩ := h
  have hm : a ∈ L := by rw [e2]; exact List.mem_append_right _ List.mem_cons_self
  rw [e] at hm
  rcases List.mem_cons.mp hm with rfl | hm
  · exact Int.le_refl _
  · have := hs _ hm
    omega
def LevsAt (H : Hp) (l : Addr) (L : List Int) : Prop := H l = some (.lst (L.map V.int))
def spLevs (n : Nat) : Sp := fun vs H Q _ => ∃ r : Addr, vs = [.ref r] ∧ ReelAt H r ∧ ∀ l L H', LevsAt H' l L → Lev L → L.length ≤ n → H l = none → But r H H' → ReelAt H' r → Q (.ref l) H'
def spComb : Sp := fun vs H Q _ => ∃ (r : Addr) (n : Nat), vs = [.ref r, .int (n : Int)] ∧ ReelAt H r ∧ n ≤ 2000 ∧ ∀ l L H', LevsAt H' l L → Lev L → L.length ≤ 2 * n + 1 → H l = none → But r H H' → ReelAt H' r → Q (.ref l) H'
theorem But.updN {r l : Addr} {H H' : Hp} {o : HO} (b : But r H H') (nl : H l = none) : But r H (upd H' l o) := fun c u n e => by
  rw [upd_ne (ne_of_none e nl)]
  exact b c u n e
theorem ReelAt.updN {H : Hp} {r p : Addr} {o : HO} (h : ReelAt H r) (n : p ≠ r) : ReelAt (upd H p o) r := by
  obtain ⟨z, c, h1, h2⟩ := h
  exact ⟨z, c, by rw [upd_ne n.symm]; exact h1, h2⟩
theorem ok_comb (T : Txt K mg) : FnOk P w K mg base CX0 2 T.a_law_comb T.fd_law_comb ["reel", "deep"] spComb := by
  have G_law_draw : FnOk P w K mg base CX0 1 T.a_law_draw T.fd_law_draw ["reel", "size"] spDraw := ok_draw T
  refine T.F_law_comb.ok sc_law_comb (fun vs H Q E h => ?_) (fun cdv A outer s H vs Q E hr h => ?_)
  · obtain ⟨r, n, rfl, _⟩ := h
    rfl
  · have hr_law_draw : Room 1 _ := hr
    obtain ⟨r, n, rfl, hR, hn, q⟩ := h
    refine ⟨_, (pss_cons (ps_set (i := 2) sc_law_comb.nd rfl (.inl rfl) (pe_cmpR op_eq (pe_call G_law_draw hr_law_draw (by rfl) T.g_law_draw T.F_law_draw.kp T.b_law_draw .nil pass0 (pa_cons (pv 0) (pa_cons pe_int pa_nil))) pe_int (nomark _)))
      (pss_cons (ps_set (i := 3) sc_law_comb.nd rfl (.inl rfl) (pe_lst (pa_cons pe_int pa_nil)))
      (pss_cons (ps_for PassesOwn.never rfl (pi_range1 (by rfl) T.m_range (pa_cons (pv 1) pa_nil)) (pg_name (i := 4) sc_law_comb.nd rfl (.inl rfl)) (pss_cons (ps_expr (pe_bm PySem.F.plainAttrs_list PySem.F.slot_list_append PySem.F.type_list_append mt_append (pv 3) (pa_cons (pe_op op_add (pv 4) pe_int) pa_nil)))
      (pss_one (ps_if (pt_val (pv 2)) (pss_one (ps_expr (pe_bm PySem.F.plainAttrs_list PySem.F.slot_list_append PySem.F.type_list_append mt_append (pv 3) (pa_cons (pe_op op_add (pv 4) pe_int) pa_nil)))) pss_nil))))
      (pss_cons (ps_if (pt_not (pt_val (pv 2))) (pss_one (ps_for PassesOwn.never rfl (pi_range1 (by rfl) T.m_range (pa_cons (pv 1) pa_nil)) (pg_name (i := 4) sc_law_comb.nd rfl (.inl rfl)) (pss_one (ps_expr (pe_bm PySem.F.plainAttrs_list PySem.F.slot_list_append PySem.F.type_list_append mt_append (pv 3) (pa_cons (pe_op op_sub (pv 1) (pv 4)) pa_nil)))))) pss_nil)
      (pss_one (ps_ret (pv 3))))))), ?_⟩
    refine ⟨_, rfl, r, 2, rfl, hR, by decide, fun v H1 v0 v1 b1 R1 => ⟨rfl, ?_⟩⟩
    refine ⟨by show 1 ≤ sizeLine; decide, fun l nl => ?_⟩
    have hlr : l ≠ r := (R1.ne nl).symm
    have nl0 : H l = none := b1.free hlr nl
    obtain ⟨b, hb⟩ : ∃ b, b = decide (V.int v = V.int 1) := ⟨_, rfl⟩
    rw [← hb]
    have app : ∀ {H' : Hp} {L : List Int} {x : Int}, LevsAt H' l L → LevsAt (upd H' l (.lst (L.map V.int ++ [V.int x]))) l (L ++ [x]) := fun _ => by
      unfold LevsAt
      rw [upd_same, List.map_append]
      rfl
    refine ⟨_, rfl, _, rfl, by omega, by omega, ?_⟩
    refine for_range (lo := 0) (n := (n : Int).toNat) (fun i σ H' => But r H H' ∧ ReelAt H' r ∧ ∃ (L : List Int) (y4 : Option V), σ = [some (.ref r), some (.int (n : Int)), some (.bl b), some (.ref l), y4] ∧ LevsAt H' l L ∧ LevE L (i : Int) ∧ L.length ≤ (if b = true then 2 * i + 1 else i + 1))
      ⟨b1.updN nl0, R1.updN hlr, [0], none, rfl, upd_same, LevE.zero, by split <;> decide⟩ ?_ ?_
    · rintro i σ H' hi ⟨b2, R2, L, y4, rfl, hl, hL, lL⟩
      have lb : L.length ≤ 5000 := by
        split at lL <;> omega
      have ei : (0 : Int) + (i : Int) + 1 = ((i + 1 : Nat) : Int) := by omega
      have h1 : LevE (L ++ [((i + 1 : Nat) : Int)]) ((i + 1 : Nat) : Int) := hL.more (by omega) (by omega)
      refine ⟨_, rfl, .inl ⟨rfl, _, SqL.of hl⟩, _, rfl, _, _, rfl, rfl, l, _, _, rfl, rfl, hl, sz2 (by rw [List.length_map]; omega), ?_⟩
      have e1 : (fun i j : Int => V.int (i + j)) (0 + (i : Int)) 1 = V.int ((i + 1 : Nat) : Int) := congrArg V.int ei
      rw [e1]
      have l1 := app (x := ((i + 1 : Nat) : Int)) hl
      refine ⟨_, rfl, b, rfl, ?_⟩
      cases b with
      | true =>
        refine iteT ?_
        have h2 : LevE (L ++ [((i + 1 : Nat) : Int)] ++ [((i + 1 : Nat) : Int)]) ((i + 1 : Nat) : Int) := h1.more (by omega) (by omega)
        refine ⟨_, rfl, .inl ⟨rfl, _, SqL.of l1⟩, _, rfl, _, _, rfl, rfl, l, _, _, rfl, rfl, l1, sz2 (by rw [List.length_map, List.length_append]; have : ([((i + 1 : Nat) : Int)] : List Int).length = 1 := rfl; omega), ?_⟩
        rw [e1]
        refine ⟨(b2.updN nl0).updN nl0, (R2.updN hlr).updN hlr, _, _, rfl, app l1, h2, ?_⟩
        rw [if_pos rfl] at lL ⊢
        rw [List.length_append, List.length_append]
        have : ([((i + 1 : Nat) : Int)] : List Int).length = 1 := rfl
        omega
      | false =>
        refine iteF ?_
        refine ⟨b2.updN nl0, R2.updN hlr, _, _, rfl, l1, h1, ?_⟩
        rw [if_neg (by decide)] at lL ⊢
        rw [List.length_append]
        have : ([((i + 1 : Nat) : Int)] : List Int).length = 1 := rfl
        omega
    · rintro σ H' ⟨b2, R2, L, y4, rfl, hl, hL, lL⟩
      rw [show (n : Int).toNat = n by omega] at hL lL
      refine ⟨_, rfl, b, rfl, ?_⟩
      cases b with
      | true =>
        rw [if_pos rfl] at lL
        refine iteF ?_
        exact ⟨_, rfl, q l L H' hl hL.1 lL nl0 b2 R2⟩
      | false =>
        rw [if_neg (by decide)] at lL
        refine iteT ?_
        refine ⟨_, rfl, _, rfl, by omega, by omega, ?_⟩
        refine for_range (lo := 0) (n := (n : Int).toNat) (fun i σ H' => But r H H' ∧ ReelAt H' r ∧ ∃ (L : List Int) (y4 : Option V) (a : Int), σ = [some (.ref r), some (.int (n : Int)), some (.bl false), some (.ref l), y4] ∧ LevsAt H' l L ∧ LevE L a ∧ (n : Int) - (i : Int) ≤ a + 1 ∧ L.length ≤ n + 1 + i)
          ⟨b2, R2, L, y4, _, rfl, hl, hL, by omega, by omega⟩ ?_ ?_
        · rintro i σ H' hi ⟨b2, R2, L, y4, a, rfl, hl, hL, ha, lL⟩
          have e1 : (fun i j : Int => V.int (i - j)) (n : Int) (0 + (i : Int)) = V.int ((n : Int) - (i : Int)) := congrArg V.int (by omega)
          refine ⟨_, rfl, .inl ⟨rfl, _, SqL.of hl⟩, _, rfl, _, rfl, _, _, rfl, rfl, l, _, _, rfl, rfl, hl, sz2 (by rw [List.length_map]; omega), ?_⟩
          rw [e1]
          refine ⟨b2.updN nl0, R2.updN hlr, _, _, _, rfl, app hl, hL.more (by omega) ha, by omega, ?_⟩
          rw [List.length_append]
          have : ([(n : Int) - (i : Int)] : List Int).length = 1 := rfl
          omega
        · rintro σ H' ⟨b2, R2, L, y4, a, rfl, hl, hL, ha, lL⟩
          exact ⟨_, rfl, q l L H' hl hL.1 (by omega) nl0 b2 R2⟩
theorem ok_levels (T : Txt K mg) : FnOk P w K mg base CX0 3 T.a_law_levels T.fd_law_levels ["reel"] (spLevs 50) := by
  have G_law_pick : FnOk P w K mg base CX0 2 T.a_law_pick T.fd_law_pick ["reel", "row"] (spPick K) := ok_pick T
  refine T.F_law_levels.ok sc_law_levels (fun vs H Q E h => ?_) (fun cdv A outer s H vs Q E hr h => ?_)
  · obtain ⟨r, rfl, _⟩ := h
    rfl
  · have hr_law_pick : Room 2 _ := hr
    obtain ⟨r, rfl, hR, q⟩ := h
    refine ⟨_, (pss_cons (ps_set (i := 1) sc_law_levels.nd rfl (.inl rfl) (pe_lst (pa_cons pe_int pa_nil)))
      (pss_cons (ps_set (i := 2) sc_law_levels.nd rfl (.inl rfl) (pe_call G_law_pick hr_law_pick (by rfl) T.g_law_pick T.F_law_pick.kp T.b_law_pick .nil pass0 (pa_cons (pv 0) (pa_cons (pe_lst (pa_cons pe_int (pa_cons pe_int (pa_cons pe_int (pa_cons pe_int (pa_cons pe_int (pa_cons pe_int (pa_cons pe_int (pa_cons pe_int (pa_cons pe_int (pa_cons pe_int (pa_cons pe_int (pa_cons pe_int (pa_cons pe_int pa_nil)))))))))))))) pa_nil))))
      (pss_cons (ps_for PassesOwn.never rfl (pi_range1 (by rfl) T.m_range (pa_cons (pv 2) pa_nil)) (pg_name (i := 3) sc_law_levels.nd rfl (.inl rfl)) (pss_cons (ps_set (i := 4) sc_law_levels.nd rfl (.inl rfl) (pe_call G_law_pick hr_law_pick (by rfl) T.g_law_pick T.F_law_pick.kp T.b_law_pick .nil pass0 (pa_cons (pv 0) (pa_cons (pe_lst (pa_cons pe_int (pa_cons pe_int (pa_cons pe_int (pa_cons pe_int (pa_cons pe_int (pa_cons pe_int (pa_cons pe_int (pa_cons pe_int pa_nil))))))))) pa_nil))))
      (pss_one (ps_expr (pe_bm PySem.F.plainAttrs_list PySem.F.slot_list_append PySem.F.type_list_append mt_append (pv 1) (pa_cons (pe_callB (call_max2 rfl) (by rfl) T.m_max (by decide +kernel) (pa_cons pe_int (pa_cons (pe_callB (call_min2 rfl) (by rfl) T.m_min (by decide +kernel) (pa_cons pe_int (pa_cons (pe_op op_sub (pe_op op_add (pe_ix ix_list (pv 1) (pv 3) (fun _ _ => rfl)) pe_int) (pv 4)) pa_nil))) pa_nil))) pa_nil))))))
      (pss_one (ps_ret (pv 1)))))), ?_⟩
    refine ⟨by show 1 ≤ sizeLine; decide, fun l nl => ?_⟩
    have hlr : l ≠ r := (hR.ne nl).symm
    refine ⟨_, rfl, by show 13 ≤ sizeLine; decide, fun p np => ?_⟩
    have hpr : p ≠ r := ((hR.new nl).ne np).symm
    have hl0 : (upd H l (.lst [.int 0])) l = some (.lst [.int 0]) := upd_same
    have hpl : l ≠ p := ne_of_none hl0 np
    refine ⟨r, _, rfl, (hR.new nl).new np, .inr ⟨p, _, rfl, hpr, SqL.of upd_same, by show 0 < 13; decide, fun v H1 hv b1 R1 => ?_⟩⟩
    obtain ⟨n, rfl, n0, n1⟩ := intsIn_mem (lo := 0) (hi := 39) (by decide +kernel) v hv
    have bb : But r H H1 := ((But.new nl).trans (But.new np)).trans b1
    have hl1 : LevsAt H1 l [0] := b1 _ _ hlr (by rw [upd_ne hpl]; exact upd_same)
    refine ⟨_, rfl, _, rfl, by omega, by omega, ?_⟩
    refine for_range (lo := 0) (n := n.toNat) (fun i σ H' => But r H H' ∧ ReelAt H' r ∧ ∃ (L : List Int) (y3 y4 : Option V) (a : Int), σ = [some (.ref r), some (.ref l), some (.int n), y3, y4] ∧ LevsAt H' l L ∧ LevE L a ∧ a ≤ 12 ∧ L.length = i + 1)
      ⟨bb, R1, [0], none, none, 0, rfl, hl1, LevE.zero, by decide, rfl⟩ ?_ ?_
    · rintro i σ H2 hi ⟨b2, R2, L, y3, y4, a, rfl, hl, hL, ha, lL⟩
      refine ⟨_, rfl, by show 8 ≤ sizeLine; decide, fun p2 np2 => ?_⟩
      have hpr2 : p2 ≠ r := (R2.ne np2).symm
      have hpl2 : l ≠ p2 := ne_of_none hl np2
      refine ⟨r, _, rfl, R2.new np2, .inr ⟨p2, _, rfl, hpr2, SqL.of upd_same, by show 0 < 8; decide, fun v H3 hv b3 R3 => ?_⟩⟩
      obtain ⟨d, rfl, d0, d1⟩ := intsIn_mem (lo := 0) (hi := 12) (by decide +kernel) v hv
      have hl3 : LevsAt H3 l L := b3 _ _ hlr (by rw [upd_ne hpl2]; exact hl)
      have b03 : But r H H3 := b2.trans ((But.new np2).trans b3)
      obtain ⟨L', eL⟩ := hL.2
      have ga := hL.ge
      have at1 : atI (L.map V.int) (0 + (i : Int)) = some (.int a) := by
        rw [show (0 : Int) + (i : Int) = (i : Int) by omega]
        refine atI_nat ?_
        rw [List.getElem?_map, eL, List.getElem?_append_right (by rw [eL, List.length_append, List.length_singleton] at lL; omega)]
        rw [eL, List.length_append, List.length_singleton] at lL
        rw [show i - L'.length = 0 by omega]
        rfl
      refine ⟨_, rfl, .inl ⟨rfl, _, SqL.of hl3⟩, ?_⟩
      refine ⟨_, rfl, _, rfl, l, _, _, _, rfl, rfl, SqL.of hl3, at1, _, _, rfl, rfl, _, rfl, _, _, rfl, rfl, _, _, rfl, _, _, rfl, l, _, _, rfl, rfl, hl3, sz2 (by rw [List.length_map]; omega), ?_⟩
      obtain ⟨x, hx⟩ : ∃ x : Int, x = (if (if a + 1 - d < 12 then a + 1 - d else 12) > 1 then (if a + 1 - d < 12 then a + 1 - d else 12) else 1) := ⟨_, rfl⟩
      have h1 : 1 ≤ x := by
        rw [hx]
        split <;> omega
      have h2 : x ≤ a + 1 := by
        rw [hx]
        split
        · split <;> omega
        · omega
      have h3 : x ≤ 12 := by
        rw [hx]
        split
        · split <;> omega
        · omega
      rw [← hx]
      refine ⟨b03.updN nl, R3.updN hlr, L ++ [x], _, _, x, rfl, ?_, hL.more h1 h2, h3, ?_⟩
      · unfold LevsAt
        rw [upd_same, List.map_append]
        rfl
      · rw [List.length_append, lL]
        rfl
    · rintro σ H2 ⟨b2, R2, L, y3, y4, a, rfl, hl, hL, ha, lL⟩
      exact ⟨_, rfl, q l L H2 hl hL.1 (by omega) (by exact nl) b2 R2⟩

/-! ### rows -/
def NumOk (v : Int) : Prop := v = -1 ∨ (0 ≤ v ∧ v < 1000000000)
structure NdOk (d : Nd) : Prop where
  kind : Srt (cs d.kind)
  sym : Srt (cs d.sym)
  lk : (cs d.kind).length ≤ 20
  ls : (cs d.sym).length ≤ 20
  st : NumOk d.st
  lead : 0 ≤ d.lead ∧ d.lead < 1000000000
  wid : 0 ≤ d.wid ∧ d.wid < 1000000000
  look : 0 ≤ d.look ∧ d.look < 1000000000
  alt : NumOk d.alt
  pop : 0 ≤ d.pop ∧ d.pop < 1000000000
def numsV (d : Nd) : List V := [.int d.st, .int d.lead, .int d.wid, .int d.look, .int d.alt, .int d.pop]
def rwV (r : Rw) : List V := .int r.1 :: .str r.2.kind :: .str r.2.sym :: numsV r.2
def RwAt (H : Hp) (v : V) (r : Rw) : Prop := ∃ g, v = .ref g ∧ H g = some (.tup (rwV r))
theorem RwAt.tups {H H' : Hp} (t : Tups H H') {v : V} {r : Rw} (h : RwAt H v r) : RwAt H' v r := by
  obtain ⟨g, e, k⟩ := h
  exact ⟨g, e, t _ _ k⟩
def spCount : Sp := fun vs H Q _ => ∃ (r : Addr) (b : Int), vs = [.ref r, .int b] ∧ (b = -1 ∨ b = 0) ∧ ReelAt H r ∧ ∀ (v : Int) H', (v = b ∨ (0 ≤ v ∧ v < 1000000000)) → But r H H' → ReelAt H' r → Q (.int v) H'
theorem ok_count (T : Txt K mg) : FnOk P w K mg base CX0 2 T.a_law_count T.fd_law_count ["reel", "least"] spCount := by
  have G_law_draw : FnOk P w K mg base CX0 1 T.a_law_draw T.fd_law_draw ["reel", "size"] spDraw := ok_draw T
  refine T.F_law_count.ok sc_law_count (fun vs H Q E h => ?_) (fun cdv A outer s H vs Q E hr h => ?_)
  · obtain ⟨r, b, rfl, _⟩ := h
    rfl
  · have hr_law_draw : Room 1 _ := hr
    obtain ⟨r, b, rfl, hb, hR, q⟩ := h
    refine ⟨_, (pss_cons (ps_set (i := 2) sc_law_count.nd rfl (.inl rfl) (pe_call G_law_draw hr_law_draw (by rfl) T.g_law_draw T.F_law_draw.kp T.b_law_draw .nil pass0 (pa_cons (pv 0) (pa_cons pe_int pa_nil))))
      (pss_cons (ps_if (pt_cmpR op_lt (pv 2) pe_int (nomark _)) (pss_one (ps_ret (pv 1))) pss_nil)
      (pss_cons (ps_if (pt_cmpR op_eq (pv 2) pe_int (nomark _)) (pss_one (ps_ret (pe_op op_sub pe_int (pe_call G_law_draw hr_law_draw (by rfl) T.g_law_draw T.F_law_draw.kp T.b_law_draw .nil pass0 (pa_cons (pv 0) (pa_cons pe_int pa_nil)))))) pss_nil)
      (pss_cons (ps_if (pt_cmpR op_lt (pv 2) pe_int (nomark _)) (pss_one (ps_ret (pe_call G_law_draw hr_law_draw (by rfl) T.g_law_draw T.F_law_draw.kp T.b_law_draw .nil pass0 (pa_cons (pv 0) (pa_cons pe_int pa_nil))))) pss_nil)
      (pss_one (ps_ret (pe_op op_add (pe_op op_mul (pe_op op_add (pe_op op_mul (pe_call G_law_draw hr_law_draw (by rfl) T.g_law_draw T.F_law_draw.kp T.b_law_draw .nil pass0 (pa_cons (pv 0) (pa_cons pe_int pa_nil))) pe_int) (pe_call G_law_draw hr_law_draw (by rfl) T.g_law_draw T.F_law_draw.kp T.b_law_draw .nil pass0 (pa_cons (pv 0) (pa_cons pe_int pa_nil)))) pe_int) (pe_call G_law_draw hr_law_draw (by rfl) T.g_law_draw T.F_law_draw.kp T.b_law_draw .nil pass0 (pa_cons (pv 0) (pa_cons pe_int pa_nil)))))))))), ?_⟩
    refine ⟨_, rfl, r, 10, rfl, hR, by decide, fun f H1 f0 f1 b1 R1 => ?_⟩
    refine ⟨_, rfl, _, _, rfl, rfl, _, rfl, ite2 (fun _ => ?_) (fun _ => ?_)⟩
    · exact ⟨_, rfl, q b H1 (.inl rfl) b1 R1⟩
    refine ⟨_, rfl, rfl, _, rfl, ite2 (fun _ => ?_) (fun _ => ?_)⟩
    · exact ⟨_, rfl, r, 3, rfl, R1, by decide, fun v H2 v0 v1 b2 R2 => ⟨_, _, rfl, rfl, q _ H2 (.inr (by omega)) (b1.trans b2) R2⟩⟩
    refine ⟨_, rfl, _, _, rfl, rfl, _, rfl, ite2 (fun _ => ?_) (fun _ => ?_)⟩
    · exact ⟨_, rfl, r, 12, rfl, R1, by decide, fun v H2 v0 v1 b2 R2 => q _ H2 (.inr (by omega)) (b1.trans b2) R2⟩
    refine ⟨_, rfl, r, 1000, rfl, R1, by decide, fun x H2 x0 x1 b2 R2 => ?_⟩
    refine ⟨_, _, rfl, rfl, .inr ⟨by decide, by decide⟩, _, rfl, r, 1000, rfl, R2, by decide, fun y H3 y0 y1 b3 R3 => ⟨_, _, rfl, rfl, _, _, rfl, rfl, .inr ⟨by decide, by decide⟩, _, rfl, r, 1000, rfl, R3, by decide, fun z H4 z0 z1 b4 R4 => ?_⟩⟩
    exact ⟨_, _, rfl, rfl, q _ H4 (.inr (by omega)) (((b1.trans b2).trans b3).trans b4) R4⟩
def NumB (v b : Int) : Prop := v = b ∨ (0 ≤ v ∧ v < 1000000000)
abbrev leasts : List Int := [-1, 0, 0, 0, -1, 0]
theorem six_of {ns : List Int} (h : Paired NumB ns leasts) : ∃ a b c d e f, ns = [a, b, c, d, e, f] ∧ NumB a (-1) ∧ NumB b 0 ∧ NumB c 0 ∧ NumB d 0 ∧ NumB e (-1) ∧ NumB f 0 := by
  cases h with
  | cons h1 t => cases t with
    | cons h2 t => cases t with
      | cons h3 t => cases t with
        | cons h4 t => cases t with
          | cons h5 t => cases t with
            | cons h6 t => cases t with
              | nil => exact ⟨_, _, _, _, _, _, rfl, h1, h2, h3, h4, h5, h6⟩
theorem NumB.ok {v : Int} (h : NumB v (-1)) : NumOk v := h
theorem NumB.pos {v : Int} (h : NumB v 0) : 0 ≤ v ∧ v < 1000000000 := by
  rcases h with rfl | h
  · decide
  · exact h
def spRow : Sp := fun vs H Q _ => ∃ (r : Addr) (l : Int), vs = [.ref r, .int l] ∧ ReelAt H r ∧ ∀ (v : V) (d : Nd) H', RwAt H' v (l, d) → NdOk d → But r H H' → ReelAt H' r → Q v H'
theorem ok_row (T : Txt K mg) : FnOk P w K mg base CX0 6 T.a_law_row T.fd_law_row ["reel", "level"] spRow := by
  have G_law_draw : FnOk P w K mg base CX0 1 T.a_law_draw T.fd_law_draw ["reel", "size"] spDraw := ok_draw T
  have G_law_sort : FnOk P w K mg base CX0 5 T.a_law_sort T.fd_law_sort ["reel"] spSort := ok_sort T
  have G_law_count : FnOk P w K mg base CX0 2 T.a_law_count T.fd_law_count ["reel", "least"] spCount := ok_count T
  refine T.F_law_row.ok sc_law_row (fun vs H Q E h => ?_) (fun cdv A outer s H vs Q E hr h => ?_)
  · obtain ⟨r, l, rfl, _⟩ := h
    rfl
  · have hr_law_draw : Room 1 _ := hr.mono (by decide)
    have hr_law_sort : Room 5 _ := hr
    have hr_law_count : Room 2 _ := hr.mono (by decide)
    obtain ⟨r, l, rfl, hR, q⟩ := h
    refine ⟨_, (pss_cons (ps_set (i := 2) sc_law_row.nd rfl (.inl rfl) (pe_call G_law_sort hr_law_sort (by rfl) T.g_law_sort T.F_law_sort.kp T.b_law_sort .nil pass0 (pa_cons (pv 0) pa_nil)))
      (pss_cons (ps_set (i := 3) sc_law_row.nd rfl (.inl rfl) (pv 2))
      (C8.pss_cut (ps_if (pt_cmpR op_eq (pe_call G_law_draw hr_law_draw (by rfl) T.g_law_draw T.F_law_draw.kp T.b_law_draw .nil pass0 (pa_cons (pv 0) (pa_cons pe_int pa_nil))) pe_int (nomark _)) (pss_one (ps_set (i := 3) sc_law_row.nd rfl (.inl rfl) (pe_call G_law_sort hr_law_sort (by rfl) T.g_law_sort T.F_law_sort.kp T.b_law_sort .nil pass0 (pa_cons (pv 0) pa_nil)))) pss_nil)
      (pss_cons (ps_setLc (i := 4) (own := [("least", 5)]) (g := gName 5) (by rfl) sc_law_row.nd rfl rfl (sw_true rfl rfl rfl (by decide +kernel)) (pi_list (pe_lst (pa_cons (pe_un un_neg pe_int) (pa_cons pe_int (pa_cons pe_int (pa_cons pe_int (pa_cons (pe_un un_neg pe_int) (pa_cons pe_int pa_nil)))))))) (blkOk_by (own := [("least", 5)]) (N := ["reel", "level", "first", "second", "numbers", "least"]) (sc := defScope s_law_row) (by decide +kernel)) (fun _ _ _ _ _ => pg_name (i := 5) sc_law_row.nd rfl (Or.inl rfl)) (fun _ _ _ _ _ => pts_nil) (fun _ _ _ _ _ => (pe_call G_law_count hr_law_count (by rfl) T.g_law_count T.F_law_count.kp T.b_law_count .nil pass0 (pa_cons (pv 0) (pa_cons (pv 5) pa_nil)))))
      (C8.pss_cut (ps_if (pt_cmpR op_eq (pe_call G_law_draw hr_law_draw (by rfl) T.g_law_draw T.F_law_draw.kp T.b_law_draw .nil pass0 (pa_cons (pv 0) (pa_cons pe_int pa_nil))) pe_int (nomark _)) (pss_one (ps_set (i := 4) sc_law_row.nd rfl (.inl rfl) (pe_op op_cat (pe_slice sl_list (pv 4) po_none (po_some pe_int)) (pe_lst (pa_cons (pe_un un_neg pe_int) (pa_cons pe_int pa_nil)))))) pss_nil)
      (pss_one (ps_ret (pe_op op_catT (pe_tup (pa_cons (pv 1) (pa_cons (pv 2) (pa_cons (pv 3) pa_nil)))) (pe_callTy call_tuple_of (by rfl) T.m_tuple (by decide +kernel) (pa_cons (pv 4) pa_nil)))))))))), ?_⟩
    refine ⟨_, rfl, r, rfl, hR, fun x H1 sx lx b1 R1 => ?_⟩
    refine ⟨_, rfl, ?_⟩
    refine ⟨fun σ H' => But r H H' ∧ ReelAt H' r ∧ ∃ y : Str, σ = [some (.ref r), some (.int l), some (.str x), some (.str y), none, none] ∧ Srt (cs y) ∧ (cs y).length ≤ 20, ?_, ?_⟩
    · refine ⟨_, rfl, r, 3, rfl, R1, by decide, fun v H2 v0 v1 b2 R2 => ⟨rfl, _, rfl, ite2 (fun _ => ?_) (fun _ => ?_)⟩⟩
      · exact ⟨_, rfl, r, rfl, R2, fun y H3 sy ly b3 R3 => ⟨(b1.trans b2).trans b3, R3, y, rfl, sy, ly⟩⟩
      · exact ⟨b1.trans b2, R2, x, rfl, sx, lx⟩
    · rintro σ H2 ⟨b2, R2, y, rfl, sy, ly⟩
      refine ⟨1, rfl, 1, rfl, by show 6 ≤ sizeLine; decide, fun p np => ⟨p, rfl, ⟨_, SqL.of upd_same⟩, fun D nD => ?_⟩⟩
      have hp0 : (upd H2 p (.lst (leasts.map V.int))) p = some (.lst (leasts.map V.int)) := upd_same
      have hpr : p ≠ r := (R2.ne np).symm
      have R2' : ReelAt (upd H2 p (.lst (leasts.map V.int))) r := R2.new np
      have hDr : D ≠ r := (R2'.ne nD).symm
      have bp : But r H2 (upd H2 p (.lst (leasts.map V.int))) := But.new np
      refine lc_it (walk_list (K := K) (a := p) (xs := leasts.map V.int)) (fun j H' => But r (upd H2 p (.lst (leasts.map V.int))) H' ∧ ReelAt H' r ∧ ∃ ns : List Int, H' D = some (.lst (ns.map V.int)) ∧ Paired NumB ns (leasts.take j))
        ⟨But.new nD, R2'.new nD, [], upd_same, .nil⟩ (fun j H' _ ⟨b, _⟩ => SqL.of (b _ _ hpr hp0)) ?_ ?_
      · rintro j v H3 H4 hj ⟨b3, R3, ns, hD, hN⟩ ⟨rfl, hv⟩
        have hj6 : j < 6 := hj
        obtain ⟨b, hb⟩ : ∃ b, leasts[j]? = some b := ⟨_, List.getElem?_eq_getElem hj6⟩
        have hv : (leasts.map V.int)[j]? = some v := hv
        rw [List.getElem?_map, hb] at hv
        obtain rfl : V.int b = v := Option.some.inj hv
        have hbm : b = -1 ∨ b = 0 := by
          have hm := List.mem_of_getElem? hb
          have all : ∀ b ∈ leasts, b = -1 ∨ b = 0 := by decide
          exact all b hm
        have ln := paired_len hN
        rw [List.length_take] at ln
        refine ⟨rfl, _, rfl, _, rfl, r, b, rfl, hbm, R3, fun x H5 hx b5 R5 => ?_⟩
        have hD5 := b5 _ _ hDr hD
        refine ⟨_, hD5, sz2 (by rw [List.length_map]; omega), (b3.trans b5).updN nD, R5.updN hDr, ns ++ [x], ?_, ?_⟩
        · rw [upd_same, List.map_append]
          rfl
        · rw [takeN hb]
          exact paired_app hN (.cons hx .nil)
      · rintro H3 ⟨b3, R3, ns, hD, hN⟩
        have hN : Paired NumB ns leasts := hN
        obtain ⟨n1, n2, n3, n4, n5, n6, rfl, k1, k2, k3, k4, k5, k6⟩ := six_of hN
        have b03 : But r H H3 := b2.trans (bp.trans b3)
        refine ⟨fun σ H' => But r H H' ∧ ReelAt H' r ∧ ∃ (l4 : Addr) (ns : List Int) (y5 : Option V), σ = [some (.ref r), some (.int l), some (.str x), some (.str y), some (.ref l4), y5] ∧ H' l4 = some (.lst (ns.map V.int)) ∧ Paired NumB ns leasts, ?_, ?_⟩
        · refine ⟨_, rfl, r, 3, rfl, R3, by decide, fun v H4 v0 v1 b4 R4 => ⟨rfl, _, rfl, ite2 (fun _ => ?_) (fun _ => ?_)⟩⟩
          · have hD4 := b4 _ _ hDr hD
            have e4 : cutV ([n1, n2, n3, n4, n5, n6].map V.int) none (some 4) = [n1, n2, n3, n4].map V.int := rfl
            refine ⟨_, rfl, 4, rfl, D, _, rfl, SqL.of hD4, fun s1 ns1 => ?_⟩
            rw [e4]
            refine ⟨1, rfl, by show 2 ≤ sizeLine; decide, fun s2 ns2 => ?_⟩
            have k1' : (upd H4 s1 (.lst ([n1, n2, n3, n4].map V.int))) s1 = some (.lst ([n1, n2, n3, n4].map V.int)) := upd_same
            refine ⟨s1, s2, _, _, rfl, rfl, (same_upd ns2) _ _ k1', upd_same, by show 4 + 2 ≤ sizeLine; decide, fun s3 ns3 => ?_⟩
            refine ⟨((b03.trans b4).trans (But.new ns1)).trans ((But.new ns2).trans (But.new ns3)), ((R4.new ns1).new ns2).new ns3, s3, [n1, n2, n3, n4, -1, 0], _, rfl, upd_same, ?_⟩
            exact .cons k1 (.cons k2 (.cons k3 (.cons k4 (.cons (.inl rfl) (.cons (.inl rfl) .nil)))))
          · exact ⟨b03.trans b4, R4, D, _, _, rfl, b4 _ _ hDr hD, hN⟩
        · rintro σ H4 ⟨b4, R4, l4, ns, y5, rfl, h4, hN4⟩
          obtain ⟨n1, n2, n3, n4, n5, n6, rfl, k1, k2, k3, k4, k5, k6⟩ := six_of hN4
          refine ⟨_, rfl, _, rfl, _, rfl, by show 3 ≤ sizeLine; decide, fun t nt => ⟨_, rfl, l4, _, rfl, .inl ⟨SqL.of (same_upd nt _ _ h4), fun t2 nt2 => ?_⟩⟩⟩
          have ht : (upd (upd H4 t (.tup [V.int l, V.str x, V.str y])) t2 (.tup ([n1, n2, n3, n4, n5, n6].map V.int))) t = some (.tup [V.int l, V.str x, V.str y]) := (same_upd nt2) _ _ upd_same
          refine ⟨t, t2, _, _, rfl, rfl, SqT.of ht, SqT.of upd_same, List.cons_ne_nil _ _, by show 3 + 6 ≤ sizeLine; decide, fun e => (by cases e), fun _ g ng => ?_⟩
          exact q _ ⟨x, y, n1, n2, n3, n4, n5, n6⟩ _ ⟨g, rfl, upd_same⟩ ⟨sx, sy, lx, ly, k1, k2.pos, k3.pos, k4.pos, k5, k6.pos⟩ (b4.trans ((But.new nt).trans ((But.new nt2).trans (But.new ng)))) (((R4.new nt).new nt2).new ng)

structure RowsAt (H : Hp) (l : Addr) (rows : List Rw) : Prop where
  ex : ∃ us, H l = some (.lst us) ∧ Paired (RwAt H) us rows
  lev : Lev (rows.map Prod.fst)
  ok : ∀ x ∈ rows, NdOk x.2
def RowsSt (r D : Addr) (L : List Int) (H0 : Hp) (j : Nat) (H' : Hp) : Prop := But r H0 H' ∧ ReelAt H' r ∧ ∃ us rows, H' D = some (.lst us) ∧ Paired (RwAt H') us rows ∧ rows.map Prod.fst = L.take j ∧ ∀ x ∈ rows, NdOk x.2
theorem RowsSt.start {r D : Addr} {L : List Int} {H0 : Hp} (nD : H0 D = none) (R : ReelAt H0 r) : RowsSt r D L H0 0 (upd H0 D (.lst [])) :=
  ⟨But.new nD, R.new nD, [], [], upd_same, .nil, rfl, fun x hx => absurd hx List.not_mem_nil⟩
theorem RowsSt.step {r D : Addr} {L : List Int} {H0 H3 H5 : Hp} {j : Nat} {v : V} {lv : Int} {d : Nd} (S : RowsSt r D L H0 j H3) (hL : L[j]? = some lv) (hl : L.length ≤ 5000) (hv : RwAt H5 v (lv, d)) (hd : NdOk d) (b : But r H3 H5) (R : ReelAt H5 r) (nD : H0 D = none) (hDr : D ≠ r) :
    ∃ acc, H5 D = some (.lst acc) ∧ acc.length < sizeLine ∧ RowsSt r D L H0 (j + 1) (upd H5 D (.lst (acc ++ [v]))) := by
  obtain ⟨b0, R0, us, rows, hD, hp, hf, ho⟩ := S
  have hD5 := b _ _ hDr hD
  have lu := paired_len hp
  have lr : rows.length ≤ L.length := by
    have e := congrArg List.length hf
    rw [List.length_map, List.length_take] at e
    omega
  have t5 : Tups H3 (upd H5 D (.lst (us ++ [v]))) := (b.tups R0).trans (Tups.mut hD5)
  refine ⟨us, hD5, sz2 (by omega), (b0.trans b).updN nD, R.updN hDr, us ++ [v], rows ++ [(lv, d)], upd_same, ?_, ?_, ?_⟩
  · exact paired_app (Paired.mapP hp fun _ _ h => h.tups t5) (.cons (hv.tups (Tups.mut hD5)) .nil)
  · rw [List.map_append, hf, takeN hL]
    rfl
  · intro x hx
    rcases List.mem_append.mp hx with h | h
    · exact ho x h
    · rw [List.mem_singleton.mp h]
      exact hd
theorem RowsSt.done {r D : Addr} {L : List Int} {H0 H3 : Hp} (S : RowsSt r D L H0 L.length H3) (hL : Lev L) : ∃ rows, RowsAt H3 D rows ∧ rows.map Prod.fst = L := by
  obtain ⟨b0, R0, us, rows, hD, hp, hf, ho⟩ := S
  rw [List.take_length] at hf
  exact ⟨rows, ⟨⟨us, hD, hp⟩, by rw [hf]; exact hL, ho⟩, hf⟩

theorem while_nat {c : L2.TT} {tb : L2.TS} {D : L2.Ends} {σ : L2.St} {H : Hp} (Pv : Nat → L2.St → Hp → Prop) (Ex : L2.St → Hp → Prop) {m0 : Nat} (h0 : Pv m0 σ H)
    (hs : ∀ m σ H, Pv m σ H → ∃ b : Bool, (∀ Q : Bool → Hp → Prop, Q b H → c σ H Q) ∧ (b = true → tb { D with nx := fun σ' H' => ∃ m', m' < m ∧ Pv m' σ' H', ct := fun σ' H' => ∃ m', m' < m ∧ Pv m' σ' H', bk := D.nx } σ H) ∧ (b = false → Ex σ H)) (hd : ∀ σ H, Ex σ H → D.nx σ H) : tWhile c tb D σ H := by
  refine ⟨fun m σ H => Pv m σ H, ⟨_, h0⟩, ?_⟩
  rintro m σ H p
  obtain ⟨b, h1, h2, h3⟩ := hs m σ H p
  refine h1 _ ?_
  cases b with
  | true => exact ⟨_, fun σ' H' h => h, h2 rfl⟩
  | false => exact hd _ _ (h3 rfl)
theorem d_if {v : V} {σ : L2.St} {H : Hp} {tt : L2.TT} {a b : L2.TS} {D : L2.Ends} {r : VK} {k c : L2.St → Hp → Prop} (h : tIfS tt a b D σ H) : (fun (_ : V) H1 => Ends.nx ⟨tIfS tt a b D, r, k, c⟩ σ H1) v H := h
theorem Keeps.lst {K : PySem.W.Frag} {C : Addr} {H : Hp} {p : Addr} {xs : List V} {o : HO} (h : H p = some (.lst xs)) : Keeps K C H (upd H p o) :=
  ⟨fun q dx d tp e => by rw [upd_ne (fun z => by rw [z, h] at e; cases e)]; exact e, fun tp us e => by
    rcases e with (e | ⟨x, e⟩) | e
    · exact .inl (.inl (by rw [upd_ne (fun z => by rw [z, h] at e; cases e)]; exact e))
    · exact .inl (.inr ⟨x, by rw [upd_ne (fun z => by rw [z, h] at e; cases e)]; exact e⟩)
    · exact .inr e⟩
theorem take_while_is {α : Type} {f : α → Bool} : ∀ {a b : List α}, (∀ x ∈ a, f x = true) → (∀ x, b.head? = some x → f x = false) → (a ++ b).takeWhile f = a ∧ (a ++ b).dropWhile f = b
  | [], [], _, _ => ⟨rfl, rfl⟩
  | [], y :: b, _, h => by
    have hy := h y rfl
    exact ⟨by rw [List.nil_append, List.takeWhile_cons, hy]; rfl, by rw [List.nil_append, List.dropWhile_cons, hy]; rfl⟩
  | x :: a, b, h1, h2 => by
    have ih := take_while_is (a := a) (b := b) (fun y hy => h1 y (List.mem_cons_of_mem _ hy)) h2
    have hx := h1 x List.mem_cons_self
    exact ⟨by rw [List.cons_append, List.takeWhile_cons, hx, if_pos rfl, ih.1], by rw [List.cons_append, List.dropWhile_cons, hx, if_pos rfl, ih.2]⟩
theorem drop_at {α : Type} {x : α} : ∀ {xs : List α} {k : Nat}, xs[k]? = some x → xs.drop k = x :: xs.drop (k + 1)
  | y :: xs, 0, h => by
    obtain rfl : y = x := by simpa using h
    rfl
  | y :: xs, k + 1, h => drop_at (xs := xs) (k := k) (by simpa using h)
def rasOf (rows : List Rw) (as : List Addr) : List Ra := (rows.zip as).map fun x => (x.1.1, x.1.2, x.2)
theorem rg_down {n : Nat} (h : n ≤ 4000000) : RgC ((n : Int) - 1) (-1) (-1) n := by
  have e := RgC.neg (i := (n : Int) - 1) (j := -1) (by omega) (by omega) (by omega) (by omega)
  rwa [show ((n : Int) - 1 - -1).toNat = n by omega] at e

/-! ### a tree told as rows -/
theorem sqT_ty {K : PySem.W.Frag} {H : Hp} {a : Addr} {xs : List V} (h : SqT K H a xs) : TyX K H (.ref a) (.type "tuple") := by
  rcases h with (h | ⟨o, h⟩) | ⟨o, its, n, h1, h2, _⟩
  · exact .base (.tup h)
  · exact .fTuple h
  · exact .kTuple h1 h2
mutual
theorem rows_len (l : Int) : ∀ t : Tr, (t.ras l).length = (t.rows l).length
  | .mk p d ks => congrArg (· + 1) (rowsL_len (l + 1) ks)
theorem rowsL_len (l : Int) : ∀ ts : List Tr, (rasL l ts).length = (rowsL l ts).length
  | [] => rfl
  | t :: ts => by
    show (t.ras l ++ rasL l ts).length = (t.rows l ++ rowsL l ts).length
    rw [List.length_append, List.length_append, rows_len l t, rowsL_len l ts]
end
mutual
theorem rows_ras (l : Int) : ∀ t : Tr, t.rows l = (t.ras l).map fun x => (x.1, x.2.1)
  | .mk p d ks => congrArg ((l, d) :: ·) (rowsL_ras (l + 1) ks)
theorem rowsL_ras (l : Int) : ∀ ts : List Tr, rowsL l ts = (rasL l ts).map fun x => (x.1, x.2.1)
  | [] => rfl
  | t :: ts => by
    show t.rows l ++ rowsL l ts = (t.ras l ++ rasL l ts).map _
    rw [List.map_append, rows_ras l t, rowsL_ras l ts]
end
/-- rows that are still to come -/
def flatR (ps : List Lt) : List Rw := (ps.map fun p => p.2.rows p.1).flatten
theorem flatR_kids (l : Int) : ∀ ks : List Tr, flatR (ks.map fun t => (l, t)) = rowsL l ks
  | [] => rfl
  | t :: ks => by
    show t.rows l ++ flatR (ks.map fun t => (l, t)) = t.rows l ++ rowsL l ks
    rw [flatR_kids l ks]
theorem flatR_app (ps qs : List Lt) : flatR (ps ++ qs) = flatR ps ++ flatR qs := by
  unfold flatR
  rw [List.map_append, List.flatten_append]
theorem rowsL_ge (l : Int) : ∀ ts : List Tr, ts.length ≤ (rowsL l ts).length
  | [] => Nat.le_refl _
  | .mk p d ks :: ts => by
    have ih := rowsL_ge l ts
    show ts.length + 1 ≤ (((l, d) :: rowsL (l + 1) ks) ++ rowsL l ts).length
    rw [List.length_append, List.length_cons]
    omega
theorem kids_le (l : Int) : ∀ t : Tr, t.ks.length ≤ (t.rows l).length
  | .mk p d ks => Nat.le_succ_of_le (rowsL_ge (l + 1) ks)
theorem Tups.of {H H' : Hp} (s : Same H H') : Tups H H' := fun b xs h => s b _ h
theorem Tups.but {H H' : Hp} {b : Addr} {xs : List V} (h : H b = some (.lst xs)) (k : But b H H') : Tups H H' := fun c ys e => k c _ (fun z => by rw [z, h] at e; cases e) e
theorem Keeps.but {K : PySem.W.Frag} {C : Addr} {H H' : Hp} {b : Addr} {xs : List V} (h : H b = some (.lst xs)) (k : But b H H') : Keeps K C H H' :=
  ⟨fun q dx d tp e => k q _ (fun z => by rw [z, h] at e; cases e) e, fun tp us e => by
    rcases e with (e | ⟨x, e⟩) | e
    · exact .inl (.inl (k _ _ (fun z => by rw [z, h] at e; cases e) e))
    · exact .inl (.inr ⟨x, k _ _ (fun z => by rw [z, h] at e; cases e) e⟩)
    · exact .inr e⟩
theorem upd_id {H : Hp} {p : Addr} {o : HO} (h : H p = some o) : upd H p o = H := by
  funext c
  unfold upd
  split
  · rename_i e
    rw [e, h]
  · rfl
theorem flatR_ge : ∀ ps : List Lt, ps.length ≤ (flatR ps).length
  | [] => Nat.le_refl _
  | (l, .mk p d ks) :: ps => by
    have ih := flatR_ge ps
    show ps.length + 1 ≤ (((l, d) :: rowsL (l + 1) ks) ++ flatR ps).length
    rw [List.length_append, List.length_cons]
    omega
def LtAt (H : Hp) (v : V) (p : Lt) : Prop := ∃ g, v = .ref g ∧ H g = some (.tup [.int p.1, .ref p.2.at])
theorem LtAt.tups {H H' : Hp} (t : Tups H H') {v : V} {p : Lt} (h : LtAt H v p) : LtAt H' v p := by
  obtain ⟨g, e, k⟩ := h
  exact ⟨g, e, t _ _ k⟩

/-! ### the written form -/
def numT (i : Int) : List Nat := cs (Str.ofString (toString i))
def wordsD (d : Nd) : List Str := [d.kind, d.sym, Str.ofString (toString d.st), Str.ofString (toString d.lead), Str.ofString (toString d.wid), Str.ofString (toString d.look), Str.ofString (toString d.alt), Str.ofString (toString d.pop)]
def wd (d : Nd) : List Nat := cs (Txt.join " " (wordsD d))
def parens (n : Int) : List Nat := List.replicate n.toNat 41
mutual
def Tr.wr : Tr → List Nat
  | .mk _ d ks => 40 :: (wd d ++ (wrL ks ++ [41]))
def wrL : List Tr → List Nat
  | [] => []
  | t :: ts => 32 :: (t.wr ++ wrL ts)
end
/-- the same without its end -/
def Tr.wo : Tr → List Nat
  | .mk _ d ks => 40 :: (wd d ++ wrL ks)
theorem Tr.wr_wo : ∀ t : Tr, t.wr = t.wo ++ [41]
  | .mk _ d ks => by
    show 40 :: (wd d ++ (wrL ks ++ [41])) = (40 :: (wd d ++ wrL ks)) ++ [41]
    rw [List.cons_append, List.append_assoc]
def emit : Int → List Rw → List Nat
  | last, [] => parens (last + 1)
  | last, r :: rs => parens (last + 1 - r.1) ++ (32 :: 40 :: (wd r.2 ++ emit r.1 rs))
def Below (l : Int) (rs : List Rw) : Prop := ∀ r, rs.head? = some r → r.1 ≤ l
theorem parens_one {n : Int} (h : 0 ≤ n) : parens (n + 1) = 41 :: parens n := by
  unfold parens
  rw [show (n + 1).toNat = n.toNat + 1 by omega]
  rfl
theorem emit_down {l : Int} (hl : 0 ≤ l) : ∀ {rs : List Rw}, Below (l + 1) rs → emit (l + 1) rs = 41 :: emit l rs
  | [], _ => parens_one (by omega)
  | r :: rs, h => by
    have hr := h r rfl
    show parens (l + 1 + 1 - r.1) ++ _ = 41 :: (parens (l + 1 - r.1) ++ _)
    rw [show l + 1 + 1 - r.1 = l + 1 - r.1 + 1 by omega, parens_one (by omega)]
    rfl
theorem rows_head (l : Int) : ∀ t : Tr, (t.rows l).head? = some (l, t.d)
  | .mk _ _ _ => rfl
theorem below_L (l : Int) : ∀ (ts : List Tr) {rest : List Rw}, Below l rest → Below l (rowsL l ts ++ rest)
  | [], _, h => h
  | .mk p d ks :: ts, _, _ => fun r hr => by
    have hr : some (l, d) = some r := hr
    cases hr
    exact Int.le_refl _
theorem Below.up {l : Int} {rs : List Rw} (h : Below l rs) : Below (l + 1) rs := fun r hr => by
  have := h r hr
  omega
mutual
theorem emit_T : ∀ (t : Tr) (l last : Int) (rest : List Rw), 0 ≤ l → Below l rest → emit last (t.rows l ++ rest) = parens (last + 1 - l) ++ (32 :: (t.wo ++ emit l rest))
  | .mk p d ks, l, last, rest, h0, h => by
    have h2 := emit_L ks l rest h0 h
    show parens (last + 1 - l) ++ (32 :: 40 :: (wd d ++ emit l (rowsL (l + 1) ks ++ rest))) = parens (last + 1 - l) ++ (32 :: ((40 :: (wd d ++ wrL ks)) ++ emit l rest))
    rw [h2, List.cons_append, List.append_assoc]
theorem emit_L : ∀ (ts : List Tr) (l : Int) (rest : List Rw), 0 ≤ l → Below l rest → emit l (rowsL (l + 1) ts ++ rest) = wrL ts ++ emit l rest
  | [], _, _, _, _ => rfl
  | t :: ts, l, rest, h0, h => by
    have hb : Below (l + 1) (rowsL (l + 1) ts ++ rest) := below_L (l + 1) ts h.up
    have h1 := emit_T t (l + 1) l (rowsL (l + 1) ts ++ rest) (by omega) hb
    have h2 := emit_L ts l rest h0 h
    have h3 := emit_down h0 hb
    show emit l ((t.rows (l + 1) ++ rowsL (l + 1) ts) ++ rest) = (32 :: (t.wr ++ wrL ts)) ++ emit l rest
    rw [List.append_assoc, h1, h3, h2, show l + 1 - (l + 1) = 0 by omega, Tr.wr_wo]
    show 32 :: (t.wo ++ 41 :: (wrL ts ++ emit l rest)) = 32 :: ((t.wo ++ [41] ++ wrL ts) ++ emit l rest)
    rw [List.append_assoc, List.append_assoc]
    rfl
end
theorem emit_all (t : Tr) : emit (-1) (t.rows 0) = 32 :: t.wr := by
  have h := emit_T t 0 (-1) [] (Int.le_refl _) (fun r hr => by cases hr)
  rw [List.append_nil] at h
  rw [h, Tr.wr_wo]
  rfl

/-! ### numbers and words -/
theorem num_nat (n : Nat) : numT (n : Int) = TL.numL n := TL.tl_num n
theorem num_neg : numT (-1) = [45, 49] := by decide +kernel
theorem numL_first : ∀ n : Nat, 1 ≤ n → ∃ c r, TL.numL n = c :: r ∧ 49 ≤ c := by
  intro n
  induction n using Nat.strongRecOn with
  | _ n ih =>
    intro h1
    by_cases h : n < 10
    · exact ⟨48 + n, [], TL.numL_lt h, by omega⟩
    · obtain ⟨c, r, e, hc⟩ := ih (n / 10) (by omega) (by omega)
      exact ⟨c, r ++ [48 + n % 10], by rw [TL.numL_step (by omega), e]; rfl, hc⟩
theorem num_len {i : Int} (h : NumOk i) : (numT i).length ≤ 9 := by
  rcases h with rfl | ⟨h0, h1⟩
  · rw [num_neg]
    decide
  · obtain ⟨n, rfl⟩ := Int.eq_ofNat_of_zero_le h0
    rw [num_nat]
    exact TL.numL_len (k := 9) (by decide) (by omega)
theorem pos_num {i : Int} (h : 0 ≤ i ∧ i < 1000000000) : NumOk i := .inr h
theorem wd_eq (d : Nd) : wd d = cs d.kind ++ (32 :: (cs d.sym ++ (32 :: (numT d.st ++ (32 :: (numT d.lead ++ (32 :: (numT d.wid ++ (32 :: (numT d.look ++ (32 :: (numT d.alt ++ (32 :: numT d.pop))))))))))))) := by
  have e : cs (" " : Str) = [32] := by decide +kernel
  have key : ∀ (x y : Str) (r : List Str), cs (Str.join " " (x :: y :: r)) = cs x ++ (32 :: cs (Str.join " " (y :: r))) := fun x y r => by
    show cs (x ++ " " ++ Str.join " " (y :: r)) = _
    rw [cs_app, cs_app, e, List.append_assoc]
    rfl
  have one : ∀ x : Str, cs (Str.join " " [x]) = cs x := fun _ => rfl
  unfold wd wordsD
  rw [TL.join_eq, key, key, key, key, key, key, key, one]
  rfl
theorem wd_len {d : Nd} (h : NdOk d) : (wd d).length ≤ 101 := by
  rw [wd_eq]
  have h1 := num_len h.st
  have h2 := num_len (pos_num h.lead)
  have h3 := num_len (pos_num h.wid)
  have h4 := num_len (pos_num h.look)
  have h5 := num_len h.alt
  have h6 := num_len (pos_num h.pop)
  have h7 := h.lk
  have h8 := h.ls
  simp only [List.length_append, List.length_cons]
  omega
theorem lad_le : ∀ {L : List Int} {a : Int} {i : Nat} {x : Int}, Lad (a :: L) → (a :: L)[i]? = some x → x ≤ a + (i : Int)
  | _, a, 0, x, _, h => by
    obtain rfl : a = x := by simpa using h
    omega
  | [], _, i + 1, _, _, h => by simp at h
  | b :: L, a, i + 1, x, hl, h => by
    have ih := lad_le (L := L) (a := b) (i := i) (x := x) hl.2 (by simpa using h)
    have := hl.1
    omega
theorem lev_le {L : List Int} (h : Lev L) {i : Nat} {x : Int} (hx : L[i]? = some x) : 0 ≤ x ∧ x ≤ (i : Int) := by
  obtain ⟨ls, rfl, h1, h2⟩ := h
  have h3 := lad_le h2 hx
  refine ⟨?_, by omega⟩
  rcases List.mem_cons.mp (List.mem_of_getElem? hx) with rfl | hm
  · exact Int.le_refl _
  · have := h1 _ hm
    omega
/-! ### the text of rows -/
def strsD (d : Nd) : List Str := [Str.ofString (toString d.st), Str.ofString (toString d.lead), Str.ofString (toString d.wid), Str.ofString (toString d.look), Str.ofString (toString d.alt), Str.ofString (toString d.pop)]

/-! ### write_tree -/
mutual
def TrOk : Tr → Prop
  | .mk _ d ks => NdOk d ∧ TrsOk ks
def TrsOk : List Tr → Prop
  | [] => True
  | t :: ts => TrOk t ∧ TrsOk ts
end
mutual
theorem tr_ok (l : Int) : ∀ t : Tr, (∀ x ∈ t.rows l, NdOk x.2) → TrOk t
  | .mk p d ks, h => ⟨h (l, d) List.mem_cons_self, trs_ok (l + 1) ks fun x hx => h x (List.mem_cons_of_mem _ hx)⟩
theorem trs_ok (l : Int) : ∀ ts : List Tr, (∀ x ∈ rowsL l ts, NdOk x.2) → TrsOk ts
  | [], _ => True.intro
  | t :: ts, h => ⟨tr_ok l t fun x hx => h x (List.mem_append_left _ hx), trs_ok l ts fun x hx => h x (List.mem_append_right _ hx)⟩
end
theorem TrsOk.mem : ∀ {ts : List Tr} {t : Tr}, TrsOk ts → t ∈ ts → TrOk t
  | _ :: _, _, ⟨h1, h2⟩, hm => by
    rcases List.mem_cons.mp hm with rfl | hm
    · exact h1
    · exact TrsOk.mem h2 hm
theorem TrOk.d : ∀ {t : Tr}, TrOk t → NdOk t.d
  | .mk _ _ _, h => h.1
theorem TrOk.ks : ∀ {t : Tr}, TrOk t → TrsOk t.ks
  | .mk _ _ _, h => h.2
mutual
def Tr.size : Tr → Nat
  | .mk _ _ ks => 1 + sizesL ks
def sizesL : List Tr → Nat
  | [] => 0
  | t :: ts => t.size + sizesL ts
end
mutual
theorem size_rows (l : Int) : ∀ t : Tr, (t.rows l).length = t.size
  | .mk p d ks => by
    show (rowsL (l + 1) ks).length + 1 = 1 + sizesL ks
    rw [sizes_rows (l + 1) ks, Nat.add_comm]
theorem sizes_rows (l : Int) : ∀ ts : List Tr, (rowsL l ts).length = sizesL ts
  | [] => rfl
  | t :: ts => by
    show (t.rows l ++ rowsL l ts).length = t.size + sizesL ts
    rw [List.length_append, size_rows l t, sizes_rows l ts]
end
mutual
theorem wr_len : ∀ t : Tr, TrOk t → t.wr.length + 1 ≤ 104 * t.size
  | .mk p d ks, h => by
    have h1 := wd_len h.1
    have h2 := wrL_len ks h.2
    show (40 :: (wd d ++ (wrL ks ++ [41]))).length + 1 ≤ 104 * (1 + sizesL ks)
    simp only [List.length_cons, List.length_append, List.length_nil]
    omega
theorem wrL_len : ∀ ts : List Tr, TrsOk ts → (wrL ts).length ≤ 104 * sizesL ts
  | [], _ => Nat.le_refl _
  | t :: ts, h => by
    have h1 := wr_len t h.1
    have h2 := wrL_len ts h.2
    show (32 :: (t.wr ++ wrL ts)).length ≤ 104 * (t.size + sizesL ts)
    rw [List.length_cons, List.length_append]
    omega
end
theorem num_log {z : Int} (oz : NumOk z) : z.natAbs.log2 < 1920 := by
  have h9 : z.natAbs < 1000000000 := by
    rcases oz with rfl | h
    · decide
    · omega
  by_cases h0 : z.natAbs = 0
  · rw [h0]
    decide
  · exact Nat.lt_trans ((Nat.log2_lt h0).mpr (show z.natAbs < 2 ^ 30 by omega)) (by decide)

/-! ### the reader -/
def rdf (z : Str) (k : Int) (pc : Str) : List (Str × V) := putF "_plain_chars" (.str pc) (putF "_place" (.int k) (putF "_notation" (.str z) []))
theorem rd_notation (z : Str) (k : Int) (pc : Str) : (rdf z k pc).lookup ("_notation" : Str) = some (.str z) := by
  unfold rdf
  rw [lookup_putF, if_neg (by decide +kernel), lookup_putF, if_neg (by decide +kernel), lookup_putF, if_pos rfl]
theorem rd_place (z : Str) (k : Int) (pc : Str) : (rdf z k pc).lookup ("_place" : Str) = some (.int k) := by
  unfold rdf
  rw [lookup_putF, if_neg (by decide +kernel), lookup_putF, if_pos rfl]
theorem rd_plain_chars (z : Str) (k : Int) (pc : Str) : (rdf z k pc).lookup ("_plain_chars" : Str) = some (.str pc) := by
  unfold rdf
  rw [lookup_putF, if_pos rfl]
theorem rd_no (z : Str) (k : Int) (pc : Str) {m : Str} (h1 : ¬ m = "_plain_chars") (h2 : ¬ m = "_place") (h3 : ¬ m = "_notation") : (rdf z k pc).lookup m = none := by
  unfold rdf
  rw [lookup_putF, if_neg h1, lookup_putF, if_neg h2, lookup_putF, if_neg h3]
  rfl
def plainL : List Nat := (cs plainS).filter fun c => decide (c ≠ 10) && decide (c ≠ 9) && decide (c ≠ 92) && decide (c ≠ 34)
/-- the reader at r: its text, its place -/
structure RdAt (C : Addr) (H : Hp) (r : Addr) (z : Str) (k : Nat) : Prop where
  ex : ∃ dx pc, H r = some (.ins C dx (rdf z (k : Int) pc)) ∧ cs pc = plainL
  le : z.length ≤ 4000000
def spReaderInit (C : Addr) : Sp := fun vs H Q _ => ∃ (p dx : Addr) (z : Str), vs = [.ref p, .str z] ∧ H p = some (.ins C dx []) ∧ ∀ pc H', Same (upd H p (.ins C dx (rdf z 0 pc))) H' → cs pc = plainL → Q .non H'
def spChar (C : Addr) : Sp := fun vs H Q _ => ∃ (r : Addr) (z : Str) (k : Nat), vs = [.ref r] ∧ RdAt C H r z k ∧ ∀ c : Str, cs c = ((cs z).drop k).take 1 → Q (.str c) H
theorem ok_char (T : Txt K mg) : FnOk P w K mg base CX0 1 T.a_Reader__char T.fd_Reader__char ["self"] (spChar T.C_Reader) := by
  refine T.F_Reader__char.ok sc_Reader__char (fun vs H Q E h => ?_) (fun cdv A outer s H vs Q E hr h => ?_)
  · obtain ⟨r, z, k, rfl, _⟩ := h
    rfl
  · obtain ⟨r, z, k, rfl, ⟨⟨dx, pc, hk, hpc⟩, lz⟩, q⟩ := h
    refine ⟨_, (pss_one (ps_ret (pe_slice sl_str (pe_fld (pv 0) rfl) (po_some (pe_fld (pv 0) rfl)) (po_some (pe_op op_add (pe_fld (pv 0) rfl) pe_int))))), ?_⟩
    refine ⟨_, rfl, _, _, _, _, _, rfl, hk, T.CL_Reader, T.NA_Reader__notation, rd_notation _ _ _, _, rfl, _, _, _, _, _, rfl, hk, T.CL_Reader, T.NA_Reader__place, rd_place _ _ _, _, rfl, _, rfl, _, _, _, _, _, rfl, hk, T.CL_Reader, T.NA_Reader__place, rd_place _ _ _, _, _, rfl, rfl, _, rfl, z, rfl, szM lz, q _ ?_⟩
    have e : (fun i j : Int => V.int (i + j)) (k : Int) 1 = V.int ((k + 1 : Nat) : Int) := congrArg V.int (by omega)
    rw [show (k : Int) + 1 = ((k + 1 : Nat) : Int) by omega, cut_mid, List.drop_take, show k + 1 - k = 1 by omega]
theorem char_some {z c : Str} {k x : Nat} {l : List Nat} (h : cs c = ((cs z).drop k).take 1) (hl : (cs z).drop k = x :: l) : c = sg x := cs_inj (by rw [h, hl]; rfl)
theorem char_none {z c : Str} {k : Nat} (h : cs c = ((cs z).drop k).take 1) (hl : (cs z).drop k = []) : c = "" := cs_inj (by rw [h, hl]; decide +kernel)
theorem rd_put (z : Str) (k k' : Int) (pc : Str) : putF "_place" (.int k') (rdf z k pc) = rdf z k' pc := rfl
theorem sg_ne (x : Nat) : ¬ V.str (sg x) = V.str (Str.ofString "") := fun e => by
  have h1 : (sg x) = Str.ofString "" := by injection e
  have h2 := congrArg (fun z : Str => (cs z).length) h1
  have h3 : (cs (Str.ofString "")).length = 0 := by decide +kernel
  have h2 : 1 = (cs (Str.ofString "")).length := h2
  rw [h3] at h2
  cases h2
theorem rdf_len (z : Str) (k : Int) (pc : Str) : (rdf z k pc).length < 1000 := by
  have h1 := putF_le "_notation" (.str z) []
  have h2 := putF_le "_place" (.int k) (putF "_notation" (.str z) [])
  have h3 := putF_le "_plain_chars" (.str pc) (putF "_place" (.int k) (putF "_notation" (.str z) []))
  have h0 : ([] : List (Str × V)).length = 0 := rfl
  unfold rdf
  omega

/-! ### the reader's numbers -/
def digS : Str := "0123456789"
theorem dig_mem {c : Nat} : c ∈ cs digS ↔ 48 ≤ c ∧ c ≤ 57 := by
  rw [show cs digS = [48, 49, 50, 51, 52, 53, 54, 55, 56, 57] by decide +kernel]
  simp only [List.mem_cons, List.not_mem_nil, or_false]
  omega
theorem num_digs {i : Int} (h : 0 ≤ i) : ∀ c ∈ numT i, c ∈ cs digS := by
  obtain ⟨n, rfl⟩ := Int.eq_ofNat_of_zero_le h
  rw [num_nat]
  exact fun c hc => dig_mem.mpr (TL.numL_digits n c hc)
theorem num_zero {i : Int} (h : 0 ≤ i) (r : List Nat) (e : numT i = 48 :: r) : r = [] := by
  obtain ⟨n, rfl⟩ := Int.eq_ofNat_of_zero_le h
  rw [num_nat] at e
  by_cases h1 : 1 ≤ n
  · obtain ⟨c, l, e2, hc⟩ := numL_first n h1
    rw [e] at e2
    have := (List.cons.inj e2).1
    omega
  · obtain rfl : n = 0 := by omega
    rw [TL.numL_lt (by decide)] at e
    exact (List.cons.inj e).2.symm
theorem num_ne {i : Int} (h : 0 ≤ i) : ∃ c r, numT i = c :: r := by
  obtain ⟨n, rfl⟩ := Int.eq_ofNat_of_zero_le h
  rw [num_nat]
  cases e : TL.numL n with
  | nil => exact absurd e (TL.numL_ne n)
  | cons c r => exact ⟨c, r, rfl⟩
theorem drop_more {α : Type} {z : List α} {k : Nat} {a b : List α} (h : z.drop k = a ++ b) : z.drop (k + a.length) = b := by
  rw [← List.drop_drop, h, List.drop_left]
theorem drop_get {α : Type} {z : List α} {k j : Nat} {a b : List α} {c : α} (h : z.drop k = a ++ b) (hc : a[j]? = some c) : z.drop (k + j) = c :: (a.drop (j + 1) ++ b) := by
  have hj := (List.getElem?_eq_some_iff.mp hc).1
  rw [← List.drop_drop, h, List.drop_append_of_le_length (by omega), drop_at hc]
  rfl
theorem ask_in {C r : Addr} {z x : Str} {k y : Nat} {t : List Nat} {σ : L2.St} {H : Hp} {Qb : Bool → Hp → Prop} (hR : RdAt C H r z k) (hy : (cs z).drop k = y :: t) (hQ : Qb (decide (y ∈ cs x)) H) :
    (tAnd (tTest (tOp rNe (tMeth C (Str.ofString "_char") (spChar C) [] E0 (tVar 0) tNil) (tC (V.str (Str.ofString ""))))) (tTest (tOp (fun x y H Q => ∃ c z, x = V.str { cps := #[c] } ∧ y = V.str z ∧ Q (V.bl (decide (c ∈ z.cps.toList))) H) (tMeth C (Str.ofString "_char") (spChar C) [] E0 (tVar 0) tNil) (tC (V.str x))))) (some (.ref r) :: σ) H Qb := by
  obtain ⟨dx, pc, hk, hpc⟩ := id hR.ex
  have no : ∀ {m : Str}, ¬ m = "_plain_chars" → ¬ m = "_place" → ¬ m = "_notation" → (rdf z (k : Int) pc).lookup m = none := fun h1 h2 h3 => rd_no _ _ _ h1 h2 h3
  refine ⟨_, rfl, _, _, _, rfl, hk, no (by decide +kernel) (by decide +kernel) (by decide +kernel), r, z, k, rfl, hR, fun c hc => ?_⟩
  obtain rfl := char_some hc hy
  refine ⟨rfl, _, rfl, ite2 (fun _ => ?_) (fun h => absurd (show (!decide (V.str (sg y) = V.str (Str.ofString ""))) = true by rw [decide_eq_false (sg_ne y)]; rfl) h)⟩
  refine ⟨_, rfl, _, _, _, rfl, hk, no (by decide +kernel) (by decide +kernel) (by decide +kernel), r, z, k, rfl, hR, fun c hc => ?_⟩
  obtain rfl := char_some hc hy
  exact ⟨_, x, rfl, rfl, _, rfl, hQ⟩

/-! ### the reader's literals and names -/
theorem esc_cases (c : Nat) : (escC c = [c] ∧ ¬ c = 34 ∧ ¬ c = 92 ∧ ¬ c = 10 ∧ ¬ c = 9) ∨ ∃ d, escC c = [92, d] ∧ d ∈ cs "nt\\\"" := by
  unfold escC
  by_cases h1 : c = 10
  · exact .inr ⟨110, by rw [if_pos h1], by decide +kernel⟩
  by_cases h2 : c = 9
  · exact .inr ⟨116, by rw [if_neg h1, if_pos h2], by decide +kernel⟩
  by_cases h3 : c = 34
  · exact .inr ⟨34, by rw [if_neg h1, if_neg h2, if_pos h3], by decide +kernel⟩
  by_cases h4 : c = 92
  · exact .inr ⟨92, by rw [if_neg h1, if_neg h2, if_neg h3, if_pos h4], by decide +kernel⟩
  exact .inl ⟨by rw [if_neg h1, if_neg h2, if_neg h3, if_neg h4], h3, h4, h1, h2⟩
theorem plainL_mem {c : Nat} (h : c ∈ cs plainS) (h1 : ¬ c = 34) (h2 : ¬ c = 92) (h3 : ¬ c = 10) (h4 : ¬ c = 9) : c ∈ plainL := by
  unfold plainL
  rw [List.mem_filter]
  refine ⟨h, ?_⟩
  simp [h1, h2, h3, h4]
def escL (l : List Nat) : List Nat := (l.map escC).flatten
theorem escL_app (a b : List Nat) : escL (a ++ b) = escL a ++ escL b := by
  unfold escL
  rw [List.map_append, List.flatten_append]
theorem escL_one (c : Nat) : escL [c] = escC c := by
  unfold escL
  show escC c ++ [] = _
  rw [List.append_nil]
theorem escL_pos {l : List Nat} (h : l ≠ []) : 1 ≤ (escL l).length := by
  cases l with
  | nil => exact absurd rfl h
  | cons c r =>
    have e : escL (c :: r) = escC c ++ escL r := rfl
    rw [e, List.length_append]
    rcases esc_cases c with ⟨e, _⟩ | ⟨d, e, _⟩ <;> rw [e] <;> simp only [List.length_cons, List.length_nil] <;> omega

/-- numbers behind a space each -/
def numsR : List Int → List Nat
  | [] => []
  | n :: r => 32 :: (numT n ++ numsR r)
theorem numsR_app : ∀ a b : List Int, numsR (a ++ b) = numsR a ++ numsR b
  | [], _ => rfl
  | n :: a, b => by
    show 32 :: (numT n ++ numsR (a ++ b)) = (32 :: (numT n ++ numsR a)) ++ numsR b
    rw [numsR_app a b, List.cons_append, List.append_assoc]
def sixN (d : Nd) : List Int := [d.st, d.lead, d.wid, d.look, d.alt, d.pop]
theorem wd_six (d : Nd) : wd d = cs d.kind ++ (32 :: (cs d.sym ++ numsR (sixN d))) := by
  rw [wd_eq]
  show _ = cs d.kind ++ (32 :: (cs d.sym ++ (32 :: (numT d.st ++ (32 :: (numT d.lead ++ (32 :: (numT d.wid ++ (32 :: (numT d.look ++ (32 :: (numT d.alt ++ (32 :: (numT d.pop ++ []))))))))))))))
  rw [List.append_nil]
theorem numsR_next (ns : List Int) {x : Nat} {l : List Nat} (hx : ¬ x ∈ cs digS) : ∃ y t, numsR ns ++ x :: l = y :: t ∧ ¬ y ∈ cs digS := by
  cases ns with
  | nil => exact ⟨x, l, rfl, hx⟩
  | cons n r => exact ⟨32, _, rfl, by decide +kernel⟩
def sgnV : List V := [.bl true, .bl false, .bl false, .bl false, .bl true, .bl false]
/-- a node's words, as read -/
def wordV (d : Nd) : List V := .str d.kind :: .str d.sym :: numsV d

/-! ### a reader is made; a node from its words -/
theorem ok_rinit (T : Txt K mg) : FnOk P w K mg base CX0 1 T.a_Reader_init T.fd_Reader_init ["self", "notation"] (spReaderInit T.C_Reader) := by
  refine T.F_Reader_init.ok sc_Reader_init (fun vs H Q E h => ?_) (fun cdv A outer s H vs Q E hr h => ?_)
  · obtain ⟨p, dx, z, rfl, _⟩ := h
    rfl
  · obtain ⟨p, dx, z, rfl, hp, q⟩ := h
    refine ⟨_, (pss_cons (ps_fld (pv 0) (pv 1) rfl)
      (pss_cons (ps_fld (pv 0) pe_int rfl)
      (pss_one (ps_fld (pv 0) (pe_join pe_str (pe_lc (own := [("char", 2)]) (g := gName 2) (by rfl) sc_Reader_init.nd (pi_str (pe_glob (v := .str "\t\n !\"#$&'()*+,-./0123456789:;<=>?@ABCDEFGHIJKLMNOPQRSTUVWXYZ[\\]^_abcdefghijklmnopqrstuvwxyz{|}~") (by rfl) T.c_PLAIN.choose_spec ⟨_, rfl⟩)) (blkOk_by (own := [("char", 2)]) (N := ["self", "notation", "char"]) (sc := defScope s_Reader_init) (by decide +kernel)) (fun _ _ _ _ _ => pg_name (i := 2) sc_Reader_init.nd rfl (Or.inl rfl)) (fun _ _ _ _ _ => (pts_one (pt_cmpR op_notIn_sign (pv 2) pe_str rfl))) (fun _ _ _ _ _ => (pv 2)))) rfl)))), ?_⟩
    have ln0 : ([] : List (Str × V)).length = 0 := rfl
    have l1 := putF_le "_notation" (.str z) []
    have l2 := putF_le "_place" (.int 0) (putF "_notation" (.str z) [])
    refine ⟨_, rfl, _, rfl, p, _, dx, _, rfl, hp, T.CL_Reader, T.NA_Reader__notation, by omega, ?_⟩
    refine ⟨_, rfl, p, _, dx, _, rfl, upd_same, T.CL_Reader, T.NA_Reader__place, by omega, ?_⟩
    rw [upd_upd]
    obtain ⟨H1, hH1⟩ : ∃ H1, H1 = upd H p (.ins T.C_Reader dx (putF "_place" (.int 0) (putF "_notation" (.str z) []))) := ⟨_, rfl⟩
    rw [← hH1]
    have hp1 : H1 p = some (.ins T.C_Reader dx (putF "_place" (.int 0) (putF "_notation" (.str z) []))) := by rw [hH1]; exact upd_same
    refine ⟨⟨_, rfl⟩, _, rfl, fun D nD => ?_⟩
    refine lc_strS (fun i H' => H' = upd H1 D (.lst (((((cs plainS).take i).filter fun c => decide (c ≠ 10) && decide (c ≠ 9) && decide (c ≠ 92) && decide (c ≠ 34)).map sg).map V.str))) rfl ?_ ?_
    · rintro i c H' hc rfl
      have hc' : (cs plainS)[i]? = some c := by rw [← hc]; exact Array.getElem?_toList
      refine ⟨rfl, ?_⟩
      refine ⟨_, rfl, c, _, rfl, rfl, _, rfl, ?_⟩
      have eq4 : (!decide (c ∈ cs (Str.ofString "\n\t\\\""))) = (decide (c ≠ 10) && decide (c ≠ 9) && decide (c ≠ 92) && decide (c ≠ 34)) := by
        rw [show cs (Str.ofString "\n\t\\\"") = [10, 9, 92, 34] by decide +kernel]
        simp only [List.mem_cons, List.not_mem_nil, or_false, not_or, ne_eq, decide_not, Bool.decide_or, Bool.not_or, Bool.and_assoc]
      rw [eq4, takeN hc', List.filter_append, List.map_append, List.map_append]
      by_cases ck : (decide (c ≠ 10) && decide (c ≠ 9) && decide (c ≠ 92) && decide (c ≠ 34)) = true
      · rw [ck]
        refine iteT ⟨_, rfl, _, upd_same, ?_, ?_⟩
        · rw [List.length_map, List.length_map]
          exact sz2 (Nat.lt_of_le_of_lt (Nat.le_trans (List.length_filter_le _ _) (by rw [List.length_take]; exact Nat.min_le_right _ _)) (by decide +kernel))
        · rw [upd_upd, show List.filter (fun c => decide (c ≠ 10) && decide (c ≠ 9) && decide (c ≠ 92) && decide (c ≠ 34)) [c] = [c] by rw [List.filter_cons, if_pos ck]; rfl]
          rfl
      · have ck : (decide (c ≠ 10) && decide (c ≠ 9) && decide (c ≠ 92) && decide (c ≠ 34)) = false := by simpa using ck
        rw [ck]
        refine iteF ?_
        rw [show List.filter (fun c => decide (c ≠ 10) && decide (c ≠ 9) && decide (c ≠ 92) && decide (c ≠ 34)) [c] = [] by rw [List.filter_cons, if_neg (by rw [ck]; decide)]; rfl]
        rw [List.map_nil, List.map_nil, List.append_nil]
    · rintro H' rfl
      have el : (cs plainS).take (Str.cps (Str.ofString "\t\n !\"#$&'()*+,-./0123456789:;<=>?@ABCDEFGHIJKLMNOPQRSTUVWXYZ[\\]^_abcdefghijklmnopqrstuvwxyz{|}~")).size = cs plainS := List.take_of_length_le (by rw [Array.length_toList]; exact Nat.le_refl _)
      rw [el, show (cs plainS).filter (fun c => decide (c ≠ 10) && decide (c ≠ 9) && decide (c ≠ 92) && decide (c ≠ 34)) = plainL from rfl]
      refine ⟨_, D, plainL.map sg, rfl, rfl, .inl (SqL.of upd_same), ?_, ?_⟩
      · rw [sg_lens, List.length_map]
        exact (by decide +kernel)
      · rw [join_sg (by decide +kernel)]
        have npD : p ≠ D := ne_of_none hp1 nD
        refine ⟨_, rfl, p, _, dx, _, rfl, by rw [upd_ne npD]; exact hp1, T.CL_Reader, T.NA_Reader__plain_chars, ?_, ?_⟩
        · have := putF_le "_place" (.int 0) (putF "_notation" (.str z) [])
          omega
        · refine q _ _ (fun b o e => ?_) (cs_mk _)
          by_cases nb : b = p
          · subst nb
            rw [upd_same] at e ⊢
            exact e
          · rw [upd_ne nb] at e ⊢
            rw [upd_ne (fun z => by rw [z, ← (show H1 D = H D by rw [hH1, upd_ne npD.symm]), nD] at e; cases e), hH1, upd_ne nb]
            exact e
def spNodeR (K : PySem.W.Frag) (C : Addr) : Sp := fun vs H Q _ => ∃ (a b : Addr) (d : Nd) (us : List V), vs = [.ref a, .ref b] ∧ H a = some (.lst (wordV d)) ∧ H b = some (.lst us) ∧
  ∀ p dx tp H', Same H H' → H p = none → H' p = some (.ins C dx (nfl d tp)) → H' tp = some (.tup us) → Q (.ref p) H'
theorem ok_node (T : Txt K mg) : FnOk P w K mg base CX0 3 T.a_node T.fd_node ["words", "nodes"] (spNodeR K T.C_Node) := by
  have G_Node_init : FnOk P w K mg base CX0 1 T.a_Node_init T.fd_Node_init psN (spNInit K T.C_Node) := ok_Node_init T
  refine T.F_node.ok sc_node (fun vs H Q E h => ?_) (fun cdv A outer s H vs Q E hr h => ?_)
  · obtain ⟨a, b, d, us, rfl, _⟩ := h
    rfl
  · have hr_Node_init : Room 2 _ := hr
    obtain ⟨a, b, d, us, rfl, ha, hb, q⟩ := h
    refine ⟨_, (pss_cons (ps_asg (pv 0) (pg_lst (by rfl) (pgs_cons (pg_name (i := 2) sc_node.nd rfl (.inl rfl)) (pgs_cons (pg_name (i := 3) sc_node.nd rfl (.inl rfl)) (pgs_cons (pg_name (i := 4) sc_node.nd rfl (.inl rfl)) (pgs_cons (pg_name (i := 5) sc_node.nd rfl (.inl rfl)) (pgs_cons (pg_name (i := 6) sc_node.nd rfl (.inl rfl)) (pgs_cons (pg_name (i := 7) sc_node.nd rfl (.inl rfl)) (pgs_cons (pg_name (i := 8) sc_node.nd rfl (.inl rfl)) (pgs_cons (pg_name (i := 9) sc_node.nd rfl (.inl rfl)) pgs_nil))))))))))
      (pss_one (ps_ret (pe_makeK (n := 2) T.MK_Node G_Node_init hr_Node_init (by rfl) T.G_Node (kb_Node7 T).choose_spec pass0 (pa_cons (pv 2) (pa_cons (pv 3) pa_nil)) (pk_cons (pv 4) (pk_cons (pv 5) (pk_cons (pv 6) (pk_cons (pv 7) (pk_cons (pv 8) (pk_cons (pv 1) (pk_cons (pv 9) pk_nil))))))))))), ?_⟩
    refine ⟨_, rfl, a, wordV d, rfl, SqL.of ha, rfl, _, _, rfl, _, _, rfl, _, _, rfl, _, _, rfl, _, _, rfl, _, _, rfl, _, _, rfl, _, _, rfl, rfl, ?_⟩
    refine ⟨_, rfl, _, rfl, _, rfl, _, rfl, _, rfl, _, rfl, _, rfl, _, rfl, _, rfl, rfl, rfl, fun x dx nx ndx hne => ?_⟩
    have s1 : Same H (upd (upd H dx (.own x)) x (.ins T.C_Node dx [])) := (same_upd ndx).trans (same_upd (by rw [upd_ne hne.symm]; exact nx))
    refine ⟨x, dx, b, d, us, upd_same, rfl, .inr ⟨SqL.of (s1 _ _ hb), fun tp ntx ntp => ?_⟩⟩
    have ntp0 : H tp = none := s1.free ntp
    refine ⟨rfl, q x dx tp _ ?_ nx upd_same ?_⟩
    · intro c o e
      have nc : c ≠ x := fun z => by rw [z, nx] at e; cases e
      rw [upd_ne nc, upd_ne (fun z => by rw [z, ntp0] at e; cases e)]
      exact s1 _ _ e
    · rw [upd_ne ntx]
      exact upd_same

theorem log_small {i : Int} (h0 : 0 ≤ i) (h : i ≤ 1000000) : i.natAbs.log2 < 1920 := by
  have h1 : i.natAbs ≤ 1000000 := by omega
  have h2 : i.natAbs < 2 ^ 1920 := Nat.lt_of_le_of_lt h1 (by decide +kernel)
  by_cases hz : i.natAbs = 0
  · rw [hz]
    decide +kernel
  · exact (Nat.log2_lt hz).mpr h2

/-! ### a tree's error -/
def okNum (v : V) : Prop := ∃ n : Int, v = .int n ∧ 0 ≤ n ∧ n ≤ 1000000
theorem ok_TreeError_init (T : Txt K mg) : FnOk P w K mg base CX0 2 T.a_TreeError_init T.fd_TreeError_init ["self", "place"] (spInit1 "place" T.C_TreeError okNum) := by
  refine T.F_TreeError_init.ok sc_TreeError_init (fun vs H Q E h => ?_) (fun cdv A outer s H vs Q E hr h => ?_)
  · obtain ⟨a, v, rfl, _⟩ := h
    rfl
  · obtain ⟨a, v, rfl, ⟨n, rfl, n0, n1⟩, ha, q⟩ := h
    refine ⟨_, (pss_cons (ps_expr (pe_baseInit (by rfl) T.G_MendedError T.B_MendedError (pa_cons (pv 0) (pa_cons (pe_joined (.cons pe_str (.cons (pe_fmt (pv 1)) .nil))) pa_nil))))
      (pss_one (ps_ost (pv 0) (pv 1)))), ?_⟩
    have big : sizeLine = 2 ^ 24 := rfl
    have ln := PyProof.Rows.int_text_len_1921 (log_small n0 (by omega))
    refine ⟨_, rfl, _, rfl, ?_, _, rfl, .inr ⟨n, rfl, log_small n0 (by omega), _, rfl, ?_, ?_⟩⟩
    · rw [strLen_append, big]
      show 0 + 12 ≤ _
      omega
    · rw [strLen_append, strLen_append, big]
      show 0 + 12 + (Str.ofString (toString n)).length ≤ _
      omega
    refine ⟨a, _, _, rfl, by show 1 ≤ 1000; decide, T.E_TreeError.oex, ha, ?_⟩
    refine ⟨_, rfl, _, rfl, a, _, rfl, T.E_TreeError.oex, T.n_TreeError_place, .inl ⟨ha, fun dx nd hne => ?_⟩⟩
    exact q dx nd hne
/-! ### the law's reader, sign by sign -/
def nextM (slot mood size c : Nat) : Option Nat :=
  if 2 < slot then
    if mood = 0 ∧ c = 45 ∧ (slot = 3 ∨ slot = 7) then some 6
    else if mood = 6 ∧ c = 49 ∨ mood = 0 ∧ c = 48 then some 7
    else if (mood = 0 ∨ mood = 8) ∧ size < 9 ∧ c ∈ cs digS then some 8
    else none
  else if mood = 0 ∧ c ∈ cs lettS ∨ mood = 1 ∧ c ∈ cs nameS then some 1
  else if mood = 0 ∧ c = 34 then some 2
  else if (mood = 2 ∨ mood = 3) ∧ c = 92 then some 4
  else if mood = 3 ∧ c = 34 then some 5
  else if mood = 4 ∧ c ∈ cs "nt\\\"" then some 3
  else if (mood = 2 ∨ mood = 3) ∧ 32 ≤ c ∧ ¬ (c = 34 ∨ c = 96) then some 3
  else none
structure Au where
  depth : Int
  slot : Nat
  mood : Nat
  size : Nat
def stepA (s : Au) (c : Nat) : Option Au :=
  if s.slot = 0 then (if c = 40 then some ⟨s.depth + 1, 1, s.mood, s.size⟩ else none)
  else if s.slot = 9 then
    (if s.depth = 0 ∨ ¬ (c = 32 ∨ c = 41) then none
    else if c = 41 then some ⟨s.depth - 1, 9, s.mood, s.size⟩ else some ⟨s.depth, 0, s.mood, s.size⟩)
  else if c = 32 ∧ (s.mood = 1 ∨ s.mood = 5 ∨ s.mood = 7 ∨ s.mood = 8) then some ⟨s.depth, if s.slot + 1 = 9 then 0 else s.slot + 1, 0, 0⟩
  else if c = 41 ∧ s.slot = 8 ∧ (s.mood = 7 ∨ s.mood = 8) then some ⟨s.depth - 1, 9, 0, 0⟩
  else (nextM s.slot s.mood s.size c).map fun m => ⟨s.depth, s.slot, m, s.size + 1⟩
def runA : Au → List Nat → Option Au
  | s, [] => some s
  | s, c :: l => match stepA s c with
    | some s' => runA s' l
    | none => none
def Au0 : Au := ⟨0, 0, 0, 0⟩
theorem runA_app : ∀ {a b : List Nat} {s s' : Au}, runA s a = some s' → runA s (a ++ b) = runA s' b
  | [], b, s, s', h => by
    cases h
    rfl
  | c :: a, b, s, s', h => by
    have h : (match stepA s c with | some s1 => runA s1 a | none => none) = some s' := h
    show (match stepA s c with | some s1 => runA s1 (a ++ b) | none => none) = _
    cases e : stepA s c with
    | none =>
      rw [e] at h
      cases h
    | some s1 =>
      rw [e] at h
      exact runA_app (a := a) h
theorem runA_one {s s' : Au} {c : Nat} (h : stepA s c = some s') : runA s [c] = some s' := by
  unfold runA
  rw [h]
  rfl
/-- the state behind k signs -/
def At (z : Str) (k : Nat) (s : Au) : Prop := k ≤ (cs z).length ∧ runA Au0 ((cs z).take k) = some s
theorem At.zero (z : Str) : At z 0 Au0 := ⟨Nat.zero_le _, rfl⟩
theorem At.next {z : Str} {k x : Nat} {l : List Nat} {s s' : Au} (h : At z k s) (hz : (cs z).drop k = x :: l) (hs : stepA s x = some s') : At z (k + 1) s' := by
  have hx : (cs z)[k]? = some x := by
    have e := congrArg (fun t : List Nat => t[0]?) hz
    simpa using e
  refine ⟨(List.getElem?_eq_some_iff.mp hx).1, ?_⟩
  rw [takeN hx, runA_app h.2]
  exact runA_one hs
def FaultAt (z : Str) (k : Nat) : Prop := ∃ s, At z k s ∧ ((∃ x l, (cs z).drop k = x :: l ∧ stepA s x = none) ∨ ((cs z).drop k = [] ∧ ¬ (s.slot = 9 ∧ s.depth = 0)))
/-- an error with its place; the heap but for r as it was -/
def ErrK (C r : Addr) (H : Hp) (E : XK) (k : Nat) : Prop := ∀ d H', But r H H' → H d = none → H' d = some (.xd [(("place" : Str), .int (k : Int))]) → E (.ref C) (some d) H'
theorem ErrK.mono {C r : Addr} {H H1 : Hp} {E : XK} {k : Nat} {o : HO} (h : ErrK C r H E k) (b : But r H H1) (hr : H1 r = some o) : ErrK C r H1 E k := fun d H' b' nd hd => h d H' (b.trans b') (b.free (fun e => by rw [e, hr] at nd; cases nd) nd) hd
def Errs (C r : Addr) (H : Hp) (E : XK) (z : Str) : Prop := ∀ k, FaultAt z k → ErrK C r H E k
theorem Errs.mono {C C2 r : Addr} {H H1 : Hp} {E : XK} {z : Str} {z2 : Str} {k2 : Nat} (h : Errs C r H E z) (b : But r H H1) (R : RdAt C2 H1 r z2 k2) : Errs C r H1 E z := fun k f => by
  obtain ⟨dx, pc, hk, _⟩ := R.ex
  exact (h k f).mono b hk
theorem FaultAt.le {z : Str} {k : Nat} (h : FaultAt z k) : k ≤ (cs z).length := by
  obtain ⟨s, h, _⟩ := h
  exact h.1
theorem itT {c : Bool} {A B : Prop} (h : c = true) (a : A) : if c = true then A else B := by
  rw [h]
  exact iteT a
theorem raise_place {K : PySem.W.Frag} {C CT r dx : Addr} {z pc : Str} {k : Nat} {H : Hp} {E : XK} {σ : L2.St} (cl : Cls K C) (na : NoAttr K C "_place") (hk : H r = some (.ins C dx (rdf z (k : Int) pc))) (lk : k ≤ 1000000) (q : ErrK CT r H E k) :
    tMkO CT (spInit1 "place" CT okNum) [] (tCons (tFld K (tVar 0) (Str.ofString "_place")) tNil) (some (.ref r) :: σ) H E :=
  mk1 (ta := tCons (tFld K (tVar 0) (Str.ofString "_place")) tNil) (f := "place") (ok := okNum) (C := CT)
    ⟨_, rfl, _, _, _, _, _, rfl, hk, cl, na, rd_place _ _ _, .int (k : Int), rfl, ⟨_, rfl, by omega, by omega⟩, fun d H' sm nd hd => q d H' (But.of sm) nd hd⟩
    (by
      rintro Q1 Q2 h ⟨x, e0, p, C0, dx0, fs0, v0, e1, a1, a2, a3, a4, q⟩
      exact ⟨x, e0, p, C0, dx0, fs0, v0, e1, a1, a2, a3, a4, h _ _ q⟩)
/-- one sign is passed, or refused -/
def spPassX (C CE : Addr) : Sp := fun vs H Q E => ∃ (r : Addr) (chars z : Str) (k : Nat), vs = [.ref r, .str chars] ∧ RdAt C H r z k ∧ chars.length ≤ 4000000 ∧ k ≤ 1000000 ∧
  (∀ x l, (cs z).drop k = x :: l → x ∈ cs chars → ∀ v H', But r H H' → RdAt C H' r z (k + 1) → Q v H') ∧ ((∀ x l, (cs z).drop k = x :: l → ¬ x ∈ cs chars) → ErrK CE r H E k)
theorem ok_passX (T : Txt K mg) : FnOk P w K mg base (L2.CX P w) 4 T.a_Reader__pass_one_of T.fd_Reader__pass_one_of ["self", "chars"] (spPassX T.C_Reader T.C_TreeError) := by
  have G_Reader__char : FnOk P w K mg base CX0 1 T.a_Reader__char T.fd_Reader__char ["self"] (spChar T.C_Reader) := ok_char T
  have G_TreeError_init : FnOk P w K mg base CX0 2 T.a_TreeError_init T.fd_TreeError_init ["self", "place"] (spInit1 "place" T.C_TreeError okNum) := ok_TreeError_init T
  refine T.F_Reader__pass_one_of.okX sc_Reader__pass_one_of (fun vs H Q E h => ?_) (fun cdv A outer s H vs Q E hr h => ?_)
  · obtain ⟨r, chars, z, k, rfl, _⟩ := h
    rfl
  · have hr_Reader__char : Room 1 _ := hr.mono (by decide)
    have hr_TreeError_init : Room 3 _ := hr
    obtain ⟨r, chars, z, k, rfl, hR, lc, lk, q1, q2⟩ := h
    refine ⟨_, (pss_cons (ps_if (PW.pt (pw_or (pt_cmpR op_eq (pe_meth0 (pv 0) T.CL_Reader T.ME_Reader_char G_Reader__char hr_Reader__char T.b_Reader__char .nil pass0) pe_str (nomark _)) (pw_or1 (pt_cmpR op_notIn_sign (pe_meth0 (pv 0) T.CL_Reader T.ME_Reader_char G_Reader__char hr_Reader__char T.b_Reader__char .nil pass0) (pv 1) rfl)))) (pss_one (ps_raise rfl (takes_of rfl rfl rfl rfl) (pmk_oex T.E_TreeError.oex T.E_TreeError.iC T.E_TreeError.tI G_TreeError_init hr_TreeError_init T.b_TreeError_init .nil pass0 (by rfl) T.E_TreeError.g (pa_cons (pe_fld (pv 0) rfl) pa_nil)))) pss_nil)
      (pss_one (ps_fldaug (pv 0) pe_int in_add))), ?_⟩
    obtain ⟨dx, pc, hk, hpc⟩ := id hR.ex
    refine ⟨_, rfl, _, _, _, rfl, hk, rd_no _ _ _ (by decide +kernel) (by decide +kernel) (by decide +kernel), r, z, k, rfl, hR, fun c hc => ?_⟩
    cases hl : (cs z).drop k with
    | nil =>
      obtain rfl := char_none hc hl
      refine ⟨rfl, _, rfl, itT (decide_eq_true rfl) ?_⟩
      exact iteT (raise_place T.CL_Reader T.NA_Reader__place hk lk (q2 fun x l e => by rw [hl] at e; cases e))
    | cons x l =>
      obtain rfl := char_some hc hl
      refine ⟨rfl, _, rfl, ite2 (fun h => absurd (of_decide_eq_true h) (sg_ne x)) (fun _ => ?_)⟩
      refine ⟨_, rfl, _, _, _, rfl, hk, rd_no _ _ _ (by decide +kernel) (by decide +kernel) (by decide +kernel), r, z, k, rfl, hR, fun c hc => ?_⟩
      obtain rfl := char_some hc hl
      refine ⟨_, rfl, x, chars, rfl, rfl, _, rfl, ?_⟩
      by_cases hx : x ∈ cs chars
      · rw [show decide (x ∈ chars.cps.toList) = true from decide_eq_true hx]
        refine iteF ?_
        refine ⟨_, rfl, r, _, dx, _, .int (k : Int), rfl, hk, T.CL_Reader, T.NA_Reader__place, rd_place _ _ _, ?_⟩
        refine ⟨_, _, rfl, rfl, dx, _, hk, rdf_len _ _ _, q1 x l hl hx _ _ But.set ⟨⟨dx, pc, ?_, hpc⟩, hR.le⟩⟩
        rw [upd_same, rd_put, show (k : Int) + 1 = ((k + 1 : Nat) : Int) by omega]
      · rw [show decide (x ∈ chars.cps.toList) = false from decide_eq_false hx]
        refine iteT ?_
        exact raise_place T.CL_Reader T.NA_Reader__place hk lk (q2 fun y l' e => by rw [hl] at e; obtain ⟨rfl, _⟩ := List.cons.inj e; exact hx)
theorem ok_signX (T : Txt K mg) : FnOk P w K mg base (L2.CX P w) 5 T.a_Reader_sign T.fd_Reader_sign ["self", "char"] (spPassX T.C_Reader T.C_TreeError) := by
  have G_Reader__pass_one_of : FnOk P w K mg base (L2.CX P w) 4 T.a_Reader__pass_one_of T.fd_Reader__pass_one_of ["self", "chars"] (spPassX T.C_Reader T.C_TreeError) := ok_passX T
  refine T.F_Reader_sign.okX sc_Reader_sign (fun vs H Q E h => ?_) (fun cdv A outer s H vs Q E hr h => ?_)
  · obtain ⟨r, chars, z, k, rfl, _⟩ := h
    rfl
  · have hr_Reader__pass_one_of : Room 4 _ := hr
    obtain ⟨r, chars, z, k, rfl, hR, lc, lk, q1, q2⟩ := h
    refine ⟨_, (pss_one (ps_expr (pe_meth (pv 0) T.CL_Reader T.ME_Reader_pass_one_of G_Reader__pass_one_of hr_Reader__pass_one_of T.b_Reader__pass_one_of .nil (passes_call (takes_of rfl rfl rfl rfl) (fun _ _ _ _ z => z)) (pa_cons (pv 1) pa_nil)))), ?_⟩
    obtain ⟨dx, pc, hk, hpc⟩ := id hR.ex
    refine ⟨_, rfl, _, _, _, rfl, hk, rd_no _ _ _ (by decide +kernel) (by decide +kernel) (by decide +kernel), _, rfl, r, chars, z, k, rfl, hR, lc, lk, fun x l hl hx v H' b' R' => q1 x l hl hx _ H' b' R', q2⟩

/-! ### numbers, read or refused -/
theorem dv_snoc (v : List Nat) (c : Nat) : NumText.digitsVal (v ++ [c]) = NumText.digitsVal v * 10 + (c - 48) := by
  unfold NumText.digitsVal
  rw [List.foldl_append]
  rfl
theorem dv_pos : ∀ (v : List Nat) (a : Nat), 1 ≤ a → 1 ≤ v.foldl (fun acc c => acc * 10 + (c - 48)) a
  | [], a, h => h
  | c :: v, a, h => dv_pos v (a * 10 + (c - 48)) (by omega)
theorem numL_back : ∀ (n : Nat) (w : List Nat), w.length = n → (∀ c ∈ w, 48 ≤ c ∧ c ≤ 57) → w ≠ [] → (∀ r, w = 48 :: r → r = []) → TL.numL (NumText.digitsVal w) = w
  | 0, w, hn, _, hw, _ => absurd (List.eq_nil_of_length_eq_zero hn) hw
  | n + 1, w, hn, hd, hw, h0 => by
    rcases List.eq_nil_or_concat w with e | ⟨v, c, e⟩
    · exact absurd e hw
    · subst e
      rw [List.concat_eq_append] at *
      have hc := hd c (List.mem_append_right _ List.mem_cons_self)
      rw [dv_snoc]
      cases v with
      | nil =>
        show TL.numL (0 * 10 + (c - 48)) = [c]
        rw [TL.numL_lt (by omega)]
        congr 1
        omega
      | cons a v =>
        have ha := hd a List.mem_cons_self
        have na : ¬ a = 48 := fun e => by
          have := h0 (v ++ [c]) (by rw [e]; rfl)
          exact absurd this (by simp)
        have p : 1 ≤ NumText.digitsVal (a :: v) := dv_pos v (0 * 10 + (a - 48)) (by omega)
        have ih := numL_back n (a :: v) (by rw [List.length_append] at hn; exact Nat.succ.inj hn) (fun x hx => hd x (List.mem_append_left _ hx)) (by simp) (fun r e => absurd (List.cons.inj e).1 na)
        rw [TL.numL_step (by omega), show (NumText.digitsVal (a :: v) * 10 + (c - 48)) / 10 = NumText.digitsVal (a :: v) by omega, show (NumText.digitsVal (a :: v) * 10 + (c - 48)) % 10 = c - 48 by omega, ih, show 48 + (c - 48) = c by omega]
theorem dv_lt : ∀ (n : Nat) (w : List Nat), w.length = n → (∀ c ∈ w, 48 ≤ c ∧ c ≤ 57) → NumText.digitsVal w < 10 ^ n
  | 0, w, hn, _ => by
    rw [List.eq_nil_of_length_eq_zero hn]
    decide
  | n + 1, w, hn, hd => by
    rcases List.eq_nil_or_concat w with e | ⟨v, c, e⟩
    · rw [e] at hn
      cases hn
    · subst e
      rw [List.concat_eq_append] at *
      have hc := hd c (List.mem_append_right _ List.mem_cons_self)
      have ih := dv_lt n v (by rw [List.length_append] at hn; exact Nat.succ.inj hn) (fun x hx => hd x (List.mem_append_left _ hx))
      rw [dv_snoc, Nat.pow_succ]
      omega
def Stuck (z : Str) (k : Nat) (s : Au) : Prop := ∀ x l, (cs z).drop k = x :: l → x ≠ 32 → (s.slot = 8 → x ≠ 41) → stepA s x = none
theorem step_in {d : Int} {slot m sz c : Nat} (h0 : 1 ≤ slot) (h8 : slot ≤ 8) (h1 : c = 32 → m = 0 ∨ m = 2 ∨ m = 3 ∨ m = 4 ∨ m = 6) (h2 : slot = 8 → c = 41 → m = 0 ∨ m = 2 ∨ m = 3 ∨ m = 4 ∨ m = 6) : stepA ⟨d, slot, m, sz⟩ c = (nextM slot m sz c).map fun m' => ⟨d, slot, m', sz + 1⟩ := by
  unfold stepA
  rw [if_neg (by show ¬ slot = 0; omega), if_neg (by show ¬ slot = 9; omega), if_neg (fun h => by
    have := h1 h.1
    have h := h.2
    simp only at h
    omega), if_neg (fun h => by
    have := h2 h.2.1 h.1
    have h := h.2.2
    simp only at h
    omega)]
theorem ask_nil {C r : Addr} {z x : Str} {k : Nat} {σ : L2.St} {H : Hp} {Qb : Bool → Hp → Prop} (hR : RdAt C H r z k) (hy : (cs z).drop k = []) (hQ : Qb false H) :
    (tAnd (tTest (tOp rNe (tMeth C (Str.ofString "_char") (spChar C) [] E0 (tVar 0) tNil) (tC (V.str (Str.ofString ""))))) (tTest (tOp (fun x y H Q => ∃ c z, x = V.str { cps := #[c] } ∧ y = V.str z ∧ Q (V.bl (decide (c ∈ z.cps.toList))) H) (tMeth C (Str.ofString "_char") (spChar C) [] E0 (tVar 0) tNil) (tC (V.str x))))) (some (.ref r) :: σ) H Qb := by
  obtain ⟨dx, pc, hk, hpc⟩ := id hR.ex
  have no : ∀ {m : Str}, ¬ m = "_plain_chars" → ¬ m = "_place" → ¬ m = "_notation" → (rdf z (k : Int) pc).lookup m = none := fun h1 h2 h3 => rd_no _ _ _ h1 h2 h3
  refine ⟨_, rfl, _, _, _, rfl, hk, no (by decide +kernel) (by decide +kernel) (by decide +kernel), r, z, k, rfl, hR, fun c hc => ?_⟩
  obtain rfl := char_none hc hy
  exact ⟨rfl, _, rfl, ite2 (fun h => absurd h (by rw [decide_eq_true rfl]; decide)) (fun _ => hQ)⟩
def spNumX (C CE : Addr) : Sp := fun vs H Q E => ∃ (r : Addr) (b : Bool) (z : Str) (k : Nat) (d : Int) (slot : Nat), vs = [.ref r, .bl b] ∧ RdAt C H r z k ∧ z.length ≤ 1000000 ∧ At z k ⟨d, slot, 0, 0⟩ ∧ 3 ≤ slot ∧ slot ≤ 8 ∧ b = decide (slot = 3 ∨ slot = 7) ∧
  (∀ i m sz H', NumOk i → (b = false → 0 ≤ i) → (cs z).drop k = numT i ++ (cs z).drop (k + (numT i).length) → At z (k + (numT i).length) ⟨d, slot, m, sz⟩ → (m = 7 ∨ m = 8) → Stuck z (k + (numT i).length) ⟨d, slot, m, sz⟩ → But r H H' → RdAt C H' r z (k + (numT i).length) → Q (.int i) H') ∧ Errs CE r H E z
theorem stuck7 {z : Str} {k : Nat} {d : Int} {slot sz : Nat} (h0 : 3 ≤ slot) (h8 : slot ≤ 8) : Stuck z k ⟨d, slot, 7, sz⟩ := fun x l _ n32 n41 => by
  rw [step_in (by omega) h8 (fun e => absurd e n32) (fun e1 e2 => absurd e2 (n41 e1))]
  unfold nextM
  rw [if_pos (by omega), if_neg (by omega), if_neg (by omega), if_neg (by omega)]
  rfl
theorem stuck8 {z : Str} {k : Nat} {d : Int} {slot sz : Nat} (h0 : 3 ≤ slot) (h8 : slot ≤ 8) (hn : ∀ x l, (cs z).drop k = x :: l → ¬ x ∈ cs digS) : Stuck z k ⟨d, slot, 8, sz⟩ := fun x l e n32 n41 => by
  rw [step_in (by omega) h8 (fun e => absurd e n32) (fun e1 e2 => absurd e2 (n41 e1))]
  unfold nextM
  rw [if_pos (by omega), if_neg (by omega), if_neg (by omega), if_neg (fun h => hn x l e h.2.2)]
  rfl
theorem ok_numX (T : Txt K mg) : FnOk P w K mg base (L2.CX P w) 6 T.a_Reader__number T.fd_Reader__number ["self", "signed"] (spNumX T.C_Reader T.C_TreeError) := by
  have G_Reader__char : FnOk P w K mg base CX0 1 T.a_Reader__char T.fd_Reader__char ["self"] (spChar T.C_Reader) := ok_char T
  have G_TreeError_init : FnOk P w K mg base CX0 2 T.a_TreeError_init T.fd_TreeError_init ["self", "place"] (spInit1 "place" T.C_TreeError okNum) := ok_TreeError_init T
  have G_Reader__pass_one_of : FnOk P w K mg base (L2.CX P w) 4 T.a_Reader__pass_one_of T.fd_Reader__pass_one_of ["self", "chars"] (spPassX T.C_Reader T.C_TreeError) := ok_passX T
  have G_Reader_sign : FnOk P w K mg base (L2.CX P w) 5 T.a_Reader_sign T.fd_Reader_sign ["self", "char"] (spPassX T.C_Reader T.C_TreeError) := ok_signX T
  refine T.F_Reader__number.okX sc_Reader__number (fun vs H Q E h => ?_) (fun cdv A outer s H vs Q E hr h => ?_)
  · obtain ⟨r, b, z, k, d, slot, rfl, _⟩ := h
    rfl
  · have hr_Reader__char : Room 1 _ := hr.mono (by decide)
    have hr_TreeError_init : Room 3 _ := hr.mono (by decide)
    have hr_Reader__pass_one_of : Room 4 _ := hr.mono (by decide)
    have hr_Reader_sign : Room 5 _ := hr
    obtain ⟨r, b, z, k, d, slot, rfl, hR, lz, hA, h3, h8, hb, q, qe⟩ := h
    refine ⟨_, (pss_cons (ps_if (PW.pt (pw_and (pt_val (pv 1)) (pw_and1 (pt_cmpR op_eq (pe_meth0 (pv 0) T.CL_Reader T.ME_Reader_char G_Reader__char hr_Reader__char T.b_Reader__char .nil pass0) pe_str (nomark _))))) (pss_cons (ps_fldaug (pv 0) pe_int in_add)
      (pss_cons (ps_expr (pe_meth (pv 0) T.CL_Reader T.ME_Readersign G_Reader_sign hr_Reader_sign T.b_Reader_sign .nil (passes_call (takes_of rfl rfl rfl rfl) (fun _ _ _ _ z => z)) (pa_cons pe_str pa_nil)))
      (pss_one (ps_ret (pe_un un_neg pe_int))))) pss_nil)
      (pss_cons (ps_set (i := 2) sc_Reader__number.nd rfl (.inl rfl) (pe_fld (pv 0) rfl))
      (pss_cons (ps_expr (pe_meth (pv 0) T.CL_Reader T.ME_Reader_pass_one_of G_Reader__pass_one_of hr_Reader__pass_one_of T.b_Reader__pass_one_of .nil (passes_call (takes_of rfl rfl rfl rfl) (fun _ _ _ _ z => z)) (pa_cons (pe_glob (v := .str "0123456789") (by rfl) T.c_DIGITS.choose_spec ⟨_, rfl⟩) pa_nil)))
      (pss_cons (ps_while (passes_of rfl) (PW.pt (pw_and (pt_cmpR op_ne (pe_meth0 (pv 0) T.CL_Reader T.ME_Reader_char G_Reader__char hr_Reader__char T.b_Reader__char .nil pass0) pe_str (nomark _)) (pw_and1 (pt_cmpR op_in_sign (pe_meth0 (pv 0) T.CL_Reader T.ME_Reader_char G_Reader__char hr_Reader__char T.b_Reader__char .nil pass0) (pe_glob (v := .str "0123456789") (by rfl) T.c_DIGITS.choose_spec ⟨_, rfl⟩) rfl)))) (pss_cons (ps_if (PW.pt (pw_or (pt_cmpR op_eq (pe_ix ix_str (pe_fld (pv 0) rfl) (pv 2) (fun _ _ => rfl)) pe_str (nomark _)) (pw_or1 (pt_cmpR op_eq (pe_op op_sub (pe_fld (pv 0) rfl) (pv 2)) (pe_glob (v := .int 9) (by rfl) T.c_MOST_DIGITS.choose_spec ⟨_, rfl⟩) (nomark _))))) (pss_one (ps_raise rfl (takes_of rfl rfl rfl rfl) (pmk_oex T.E_TreeError.oex T.E_TreeError.iC T.E_TreeError.tI G_TreeError_init hr_TreeError_init T.b_TreeError_init .nil pass0 (by rfl) T.E_TreeError.g (pa_cons (pe_fld (pv 0) rfl) pa_nil)))) pss_nil)
      (pss_one (ps_fldaug (pv 0) pe_int in_add))))
      (pss_one (ps_ret (pe_callTy call_int_str (by rfl) T.m_int (by decide +kernel) (pa_cons (pe_slice sl_str (pe_fld (pv 0) rfl) (po_some (pv 2)) (po_some (pe_fld (pv 0) rfl))) pa_nil)))))))), ?_⟩
    obtain ⟨dx, pc, hk, hpc⟩ := id hR.ex
    have lk : k ≤ 1000000 := by
      have := hA.1
      rw [← len_cs] at this
      omega
    have no : ∀ {m : Str}, ¬ m = "_plain_chars" → ¬ m = "_place" → ¬ m = "_notation" → (rdf z (k : Int) pc).lookup m = none := fun h1 h2 h3 => rd_no _ _ _ h1 h2 h3
    have e45 := fun x => sg_dec x 45 "-" (by decide +kernel)
    have stp : ∀ c, stepA ⟨d, slot, 0, 0⟩ c = (nextM slot 0 0 c).map fun m' => ⟨d, slot, m', 0 + 1⟩ := fun c => step_in (by omega) h8 (fun _ => .inl rfl) (fun _ _ => .inl rfl)
    by_cases hm : ∃ l, (cs z).drop k = 45 :: l ∧ b = true
    · obtain ⟨l, hl, hbt⟩ := hm
      subst hbt
      have hsl : slot = 3 ∨ slot = 7 := of_decide_eq_true hb.symm
      refine ⟨_, rfl, true, rfl, iteT ?_⟩
      refine ⟨_, rfl, _, _, _, rfl, hk, no (by decide +kernel) (by decide +kernel) (by decide +kernel), r, z, k, rfl, hR, fun c hc => ?_⟩
      obtain rfl := char_some hc hl
      refine ⟨rfl, _, rfl, itT (by rw [e45]; rfl) ?_⟩
      refine ⟨_, rfl, r, _, dx, _, .int (k : Int), rfl, hk, T.CL_Reader, T.NA_Reader__place, rd_place _ _ _, _, _, rfl, rfl, dx, _, hk, rdf_len _ _ _, ?_⟩
      have R1 : RdAt T.C_Reader (upd H r (.ins T.C_Reader dx (putF "_place" (.int ((k : Int) + 1)) (rdf z (k : Int) pc)))) r z (k + 1) := ⟨⟨dx, pc, by rw [upd_same, rd_put, show (k : Int) + 1 = ((k + 1 : Nat) : Int) by omega], hpc⟩, hR.le⟩
      obtain ⟨dx1, pc1, hk1, hpc1⟩ := id R1.ex
      have hA1 : At z (k + 1) ⟨d, slot, 6, 1⟩ := hA.next hl (by
        rw [stp]
        unfold nextM
        rw [if_pos (by omega), if_pos ⟨rfl, rfl, hsl⟩]
        rfl)
      have lk1 : k + 1 ≤ 1000000 := by
        have := hA1.1
        rw [← len_cs] at this
        omega
      have st1 : ∀ c, stepA ⟨d, slot, 6, 1⟩ c = (nextM slot 6 1 c).map fun m' => ⟨d, slot, m', 1 + 1⟩ := fun c => step_in (by omega) h8 (fun _ => .inr (.inr (.inr (.inr rfl)))) (fun _ _ => .inr (.inr (.inr (.inr rfl))))
      refine ⟨_, rfl, _, _, _, rfl, hk1, rd_no _ _ _ (by decide +kernel) (by decide +kernel) (by decide +kernel), r, _, z, k + 1, rfl, R1, by decide +kernel, lk1, fun x l1 hl1 hx v H2 b2 R2 => ?_, fun hno => ?_⟩
      · have hx : x = 49 := by
          rw [show cs (Str.ofString "1") = [49] by decide +kernel] at hx
          exact List.mem_singleton.mp hx
        subst hx
        refine ⟨_, rfl, ?_⟩
        have hA2 : At z (k + 1 + 1) ⟨d, slot, 7, 2⟩ := hA1.next hl1 (by
          rw [st1]
          unfold nextM
          rw [if_pos (by omega), if_neg (by omega), if_pos (.inl ⟨rfl, rfl⟩)]
          rfl)
        have e1 : (cs z).drop (k + (numT (-1)).length) = l1 := by
          rw [num_neg, show k + [45, 49].length = k + 1 + 1 from rfl, ← List.drop_drop, hl1]
          rfl
        refine q (-1) 7 2 H2 (.inl rfl) (fun e => by cases e) ?_ ?_ (.inl rfl) (stuck7 h3 h8) (But.set.trans b2) ?_
        · rw [e1, num_neg, hl]
          have : (cs z).drop (k + 1) = l := by rw [← List.drop_drop, hl]; rfl
          rw [hl1] at this
          rw [← this]
          rfl
        · rw [num_neg]
          exact hA2
        · rw [num_neg]
          exact R2
      · exact (qe (k + 1) ⟨_, hA1, by
          cases hl1 : (cs z).drop (k + 1) with
          | nil => exact .inr ⟨rfl, fun h => by have := h.1; simp only at this; omega⟩
          | cons x l1 =>
            refine .inl ⟨x, l1, rfl, ?_⟩
            have := hno x l1 hl1
            rw [show cs (Str.ofString "1") = [49] by decide +kernel, List.mem_singleton] at this
            rw [st1]
            unfold nextM
            rw [if_pos (by omega), if_neg (by omega), if_neg (by omega), if_neg (by omega)]
            rfl⟩).mono But.set upd_same
    · have kind0 : ∀ x, x ∈ cs digS → stepA ⟨d, slot, 0, 0⟩ x = some ⟨d, slot, if x = 48 then 7 else 8, 1⟩ := fun x hx => by
        have hx2 := dig_mem.mp hx
        rw [stp]
        unfold nextM
        rw [if_pos (by omega), if_neg (by omega)]
        by_cases c : x = 48
        · rw [if_pos (.inr ⟨rfl, c⟩), if_pos c]
          rfl
        · rw [if_neg (by omega), if_pos ⟨.inl rfl, by decide, hx⟩, if_neg c]
          rfl
      refine sif (fun H2 => H2 = H) False (fun Qb hQb => ?_) (fun h => h.elim) (fun _ H2 e2 => ?_)
      · refine ⟨_, rfl, b, rfl, ?_⟩
        cases b with
        | false => exact iteF (hQb _ _ rfl ⟨fun h => (by cases h), fun h => h.elim⟩)
        | true =>
          refine iteT ⟨_, rfl, _, _, _, rfl, hk, no (by decide +kernel) (by decide +kernel) (by decide +kernel), r, z, k, rfl, hR, fun c hc => ?_⟩
          refine ⟨rfl, _, rfl, hQb _ _ rfl ⟨fun h => ?_, fun h => h.elim⟩⟩
          cases hl : (cs z).drop k with
          | nil =>
            obtain rfl := char_none hc hl
            exact absurd (of_decide_eq_true h) (fun e => by injection e with e; exact absurd (congrArg (fun x : Str => (cs x).length) e) (by decide +kernel))
          | cons x l =>
            obtain rfl := char_some hc hl
            rw [e45] at h
            exact hm ⟨l, by rw [hl, of_decide_eq_true h], rfl⟩
      · subst e2
        refine ⟨_, rfl, _, _, _, _, _, rfl, hk, T.CL_Reader, T.NA_Reader__place, rd_place _ _ _, ?_⟩
        refine ⟨_, rfl, _, _, _, rfl, hk, no (by decide +kernel) (by decide +kernel) (by decide +kernel), r, _, z, k, rfl, hR, by decide +kernel, lk, fun x l hl hx v H3 b3 R3 => ?_, fun hno => ?_⟩
        · have hA1 := hA.next hl (kind0 x hx)
          refine while_nat (m0 := (cs z).length - (k + 1)) (fun mm σ H' => ∃ j m, mm = (cs z).length - (k + 1 + j) ∧ σ = [some (.ref r), some (.bl b), some (.int (k : Int))] ∧ j ≤ 8 ∧ ((x = 48 ∧ m = 7 ∧ j = 0) ∨ (¬ x = 48 ∧ m = 8)) ∧ At z (k + 1 + j) ⟨d, slot, m, 1 + j⟩ ∧ (∀ c ∈ ((cs z).drop k).take (1 + j), c ∈ cs digS) ∧ But r H2 H' ∧ RdAt T.C_Reader H' r z (k + 1 + j))
            (fun σ H' => ∃ j m, σ = [some (.ref r), some (.bl b), some (.int (k : Int))] ∧ j ≤ 8 ∧ ((x = 48 ∧ m = 7 ∧ j = 0) ∨ (¬ x = 48 ∧ m = 8)) ∧ At z (k + 1 + j) ⟨d, slot, m, 1 + j⟩ ∧ (∀ c ∈ ((cs z).drop k).take (1 + j), c ∈ cs digS) ∧ But r H2 H' ∧ RdAt T.C_Reader H' r z (k + 1 + j) ∧ ∀ y t, (cs z).drop (k + 1 + j) = y :: t → ¬ y ∈ cs digS)
            ⟨0, if x = 48 then 7 else 8, rfl, rfl, by decide, ?_, hA1, ?_, b3, R3⟩ ?_ ?_
          · by_cases c : x = 48
            · exact .inl ⟨c, if_pos c, rfl⟩
            · exact .inr ⟨c, if_neg c⟩
          · intro c hc
            rw [hl] at hc
            have hc : c ∈ [x] := hc
            rw [List.mem_singleton.mp hc]
            exact hx
          · rintro mm σ H4 ⟨j, m, rfl, rfl, hj, hm4, A4, hds, b4, R4⟩
            obtain ⟨dx4, pc4, hk4, hpc4⟩ := id R4.ex
            have lk4 : k + 1 + j ≤ 1000000 := by
              have := A4.1
              rw [← len_cs] at this
              omega
            have E4 := qe.mono b4 R4
            cases hy : (cs z).drop (k + 1 + j) with
            | nil => exact ⟨false, fun Q hQ => ask_nil R4 hy hQ, fun z => (by cases z), fun _ => ⟨j, m, rfl, hj, hm4, A4, hds, b4, R4, fun y t e => by rw [hy] at e; cases e⟩⟩
            | cons y t =>
              by_cases hyd : y ∈ cs digS
              · refine ⟨true, fun Q hQ => ask_in R4 hy ?_, fun _ => ?_, fun z => (by cases z)⟩
                · rw [show decide (y ∈ cs (Str.ofString "0123456789")) = true from decide_eq_true hyd]
                  exact hQ
                have hc : (cs z)[k]? = some x := by
                  have e := congrArg (fun t : List Nat => t[0]?) hl
                  simpa using e
                have hy2 := dig_mem.mp hyd
                have stA : stepA ⟨d, slot, m, 1 + j⟩ y = (nextM slot m (1 + j) y).map fun m' => ⟨d, slot, m', 1 + j + 1⟩ := step_in (by omega) h8 (fun e => by omega) (fun _ e => by omega)
                refine sif (fun H2 => H2 = H4) (x = 48 ∨ j = 8) (fun Qb hQb => ?_) (fun hbad H5 e5 => ?_) (fun hok H5 e5 => ?_)
                · refine ⟨_, rfl, _, _, _, _, _, rfl, hk4, T.CL_Reader, T.NA_Reader__notation, rd_notation _ _ _, _, rfl, _, _, x, rfl, rfl, szM hR.le, atI_nat hc, rfl, _, rfl, ?_⟩
                  rw [sg_dec x 48 "0" (by decide +kernel)]
                  by_cases c : x = 48
                  · rw [decide_eq_true c]
                    exact iteT (hQb _ _ rfl ⟨fun _ => .inl c, fun _ => rfl⟩)
                  · rw [decide_eq_false c]
                    refine iteF ⟨_, rfl, _, _, _, _, _, rfl, hk4, T.CL_Reader, T.NA_Reader__place, rd_place _ _ _, _, rfl, _, _, rfl, rfl, rfl, _, rfl, hQb _ _ rfl ?_⟩
                    rw [decide_eq_true_eq]
                    refine ⟨fun h => .inr ?_, fun h => ?_⟩
                    · injection h with h
                      omega
                    · rw [h.resolve_left c]
                      exact congrArg V.int (by omega)
                · subst e5
                  refine raise_place T.CL_Reader T.NA_Reader__place hk4 lk4 (E4 _ ⟨_, A4, .inl ⟨y, t, hy, ?_⟩⟩)
                  rw [stA]
                  unfold nextM
                  rcases hm4 with ⟨_, rfl, rfl⟩ | ⟨n48, rfl⟩
                  · rw [if_pos (by omega), if_neg (by omega), if_neg (by omega), if_neg (by omega)]
                    rfl
                  · rw [if_pos (by omega), if_neg (by omega), if_neg (by omega), if_neg (by omega)]
                    rfl
                · subst e5
                  refine ⟨_, rfl, r, _, dx4, _, .int ((k + 1 + j : Nat) : Int), rfl, hk4, T.CL_Reader, T.NA_Reader__place, rd_place _ _ _, _, _, rfl, rfl, dx4, _, hk4, rdf_len _ _ _, ?_⟩
                  have A5 := A4.next hy (s' := ⟨d, slot, 8, 1 + j + 1⟩) (by
                    rw [stA]
                    unfold nextM
                    rcases hm4 with ⟨c, _, _⟩ | ⟨n48, rfl⟩
                    · exact absurd (.inl c) hok
                    · rw [if_pos (by omega), if_neg (by omega), if_neg (by omega), if_pos ⟨.inr rfl, by omega, hyd⟩]
                      rfl)
                  have l5 := A5.1
                  refine ⟨(cs z).length - (k + 1 + (j + 1)), by omega, j + 1, 8, rfl, rfl, by omega, .inr ⟨fun c => hok (.inl c), rfl⟩, ?_, ?_, b4.trans But.set, ⟨⟨dx4, pc4, ?_, hpc4⟩, hR.le⟩⟩
                  · rw [show k + 1 + (j + 1) = k + 1 + j + 1 by omega, show 1 + (j + 1) = 1 + j + 1 by omega]
                    exact A5
                  · have e1 : ((cs z).drop k)[1 + j]? = some y := by
                      have e := congrArg (fun t : List Nat => t[0]?) hy
                      rw [List.getElem?_drop, ← Nat.add_assoc]
                      simpa using e
                    rw [show 1 + (j + 1) = 1 + j + 1 by omega, takeN e1]
                    intro c hc
                    rcases List.mem_append.mp hc with hc | hc
                    · exact hds c hc
                    · rw [List.mem_singleton.mp hc]
                      exact hyd
                  · rw [upd_same, rd_put, show ((k + 1 + j : Nat) : Int) + 1 = ((k + 1 + (j + 1) : Nat) : Int) by omega]
              · refine ⟨false, fun Q hQ => ask_in R4 hy ?_, fun z => (by cases z), fun _ => ⟨j, m, rfl, hj, hm4, A4, hds, b4, R4, fun y' t' e => by rw [hy] at e; obtain ⟨rfl, _⟩ := List.cons.inj e; exact hyd⟩⟩
                rw [show decide (y ∈ cs (Str.ofString "0123456789")) = false from decide_eq_false hyd]
                exact hQ
          · rintro σ H4 ⟨j, m, rfl, hj, hm4, A4, hds, b4, R4, hnd⟩
            obtain ⟨dx4, pc4, hk4, hpc4⟩ := id R4.ex
            obtain ⟨ww, hw⟩ : ∃ ww, ww = ((cs z).drop k).take (1 + j) := ⟨_, rfl⟩
            rw [← hw] at hds
            have lw : ww.length = 1 + j := by
              rw [hw, List.length_take, List.length_drop]
              have := A4.1
              omega
            have hdg : ∀ c ∈ ww, 48 ≤ c ∧ c ≤ 57 := fun c hc => dig_mem.mp (hds c hc)
            have wx : ∃ r, ww = x :: r := ⟨l.take j, by rw [hw, hl, Nat.add_comm]; rfl⟩
            have back : TL.numL (NumText.digitsVal ww) = ww := numL_back (1 + j) ww lw hdg (fun e => by rw [e, List.length_nil] at lw; omega) (fun r e => by
              obtain ⟨r', e'⟩ := wx
              rw [e] at e' lw
              have := (List.cons.inj e').1
              rcases hm4 with ⟨_, _, rfl⟩ | ⟨n48, _⟩
              · exact List.eq_nil_of_length_eq_zero (by rw [List.length_cons] at lw; omega)
              · exact absurd this.symm n48)
            have lt9 : NumText.digitsVal ww < 1000000000 := Nat.lt_of_lt_of_le (dv_lt (1 + j) ww lw hdg) (Nat.pow_le_pow_right (by decide) (show 1 + j ≤ 9 by omega))
            have nT : numT ((NumText.digitsVal ww : Nat) : Int) = ww := by rw [num_nat, back]
            have es : cutS z (some (k : Int)) (some ((k + 1 + j : Nat) : Int)) = Str.ofString (toString ((NumText.digitsVal ww : Nat) : Int)) := cs_inj (by
              rw [cut_mid, List.drop_take, show k + 1 + j - k = 1 + j by omega, ← hw]
              exact nT.symm)
            refine ⟨_, rfl, _, _, _, _, _, rfl, hk4, T.CL_Reader, T.NA_Reader__notation, rd_notation _ _ _, _, rfl, _, rfl, _, rfl, _, _, _, _, _, rfl, hk4, T.CL_Reader, T.NA_Reader__place, rd_place _ _ _, _, rfl, z, rfl, szM hR.le, ?_⟩
            rw [es]
            have ek : k + (numT ((NumText.digitsVal ww : Nat) : Int)).length = k + 1 + j := by rw [nT, lw]; omega
            refine ⟨_, ((NumText.digitsVal ww : Nat) : Int), rfl, PySem.W.KIN.num_reads (by omega) (by omega), ?_, ?_⟩
            · rw [len_cs]
              have e : (cs (Str.ofString (toString ((NumText.digitsVal ww : Nat) : Int)))).length = ww.length := congrArg List.length nT
              rw [e, lw]
              omega
            · refine q _ m (1 + j) H4 (.inr ⟨by omega, by omega⟩) (fun _ => by omega) ?_ ?_ ?_ ?_ b4 ?_
              · rw [ek, nT, hw, show k + 1 + j = k + (1 + j) by omega, ← List.drop_drop, List.take_append_drop]
              · rw [ek]
                exact A4
              · rcases hm4 with ⟨_, h, _⟩ | ⟨_, h⟩
                · exact .inl h
                · exact .inr h
              · rw [ek]
                rcases hm4 with ⟨_, rfl, _⟩ | ⟨_, rfl⟩
                · exact stuck7 h3 h8
                · exact stuck8 h3 h8 hnd
              · rw [ek]
                exact R4
        · refine qe k ⟨_, hA, ?_⟩
          cases hl : (cs z).drop k with
          | nil => exact .inr ⟨rfl, fun h => by have := h.1; simp only at this; omega⟩
          | cons x l =>
            refine .inl ⟨x, l, rfl, ?_⟩
            have nx : ¬ x ∈ cs digS := hno x l hl
            have n48 : ¬ x = 48 := fun e => nx (by rw [e]; decide +kernel)
            rw [stp]
            unfold nextM
            rw [if_pos (by omega), if_neg (fun h => hm ⟨l, by rw [hl, h.2.1], by rw [hb]; exact decide_eq_true h.2.2⟩), if_neg (by omega), if_neg (fun h => nx h.2.2)]
            rfl

/-! ### literals and names, read or refused -/
structure ZOk (z : Str) : Prop where
  sg : ∀ c ∈ cs z, c ∈ cs plainS ∨ c = 96
  le : z.length ≤ 1000000
theorem At.le {z : Str} {k : Nat} {s : Au} (h : At z k s) (o : ZOk z) : k ≤ 1000000 := by
  have := h.1
  rw [← len_cs] at this
  have := o.le
  omega
theorem plainL_facts : ∀ c ∈ plainL, 32 ≤ c ∧ ¬ c = 34 ∧ ¬ c = 96 ∧ ¬ c = 92 := by decide +kernel
theorem drop_mem {l : List Nat} {k x : Nat} {t : List Nat} (h : l.drop k = x :: t) : x ∈ l := by
  have : x ∈ l.drop k := by rw [h]; exact List.mem_cons_self
  exact List.mem_of_mem_drop this
def spLitX (C CE : Addr) : Sp := fun vs H Q E => ∃ (r : Addr) (z : Str) (k : Nat) (d : Int) (slot : Nat) (l : List Nat), vs = [.ref r] ∧ RdAt C H r z k ∧ ZOk z ∧ At z k ⟨d, slot, 0, 0⟩ ∧ 1 ≤ slot ∧ slot ≤ 2 ∧ (cs z).drop k = 34 :: l ∧
  (∀ k' sz v H', At z k' ⟨d, slot, 5, sz⟩ → k ≤ k' → But r H H' → RdAt C H' r z k' → Q v H') ∧ Errs CE r H E z
theorem step_lo {d : Int} {slot m sz c : Nat} (h0 : 1 ≤ slot) (h2 : slot ≤ 2) (h1 : c = 32 → ¬ (m = 1 ∨ m = 5 ∨ m = 7 ∨ m = 8)) : stepA ⟨d, slot, m, sz⟩ c = (nextM slot m sz c).map fun m' => ⟨d, slot, m', sz + 1⟩ := by
  unfold stepA
  rw [if_neg (by show ¬ slot = 0; omega), if_neg (by show ¬ slot = 9; omega), if_neg (fun h => h1 h.1 h.2), if_neg (fun h => by
    have h := h.2.1
    simp only at h
    omega)]
theorem ok_litX (T : Txt K mg) : FnOk P w K mg base (L2.CX P w) 6 T.a_Reader__pass_literal T.fd_Reader__pass_literal ["self"] (spLitX T.C_Reader T.C_TreeError) := by
  have G_Reader__char : FnOk P w K mg base CX0 1 T.a_Reader__char T.fd_Reader__char ["self"] (spChar T.C_Reader) := ok_char T
  have G_Reader__pass_one_of : FnOk P w K mg base (L2.CX P w) 4 T.a_Reader__pass_one_of T.fd_Reader__pass_one_of ["self", "chars"] (spPassX T.C_Reader T.C_TreeError) := ok_passX T
  have G_Reader_sign : FnOk P w K mg base (L2.CX P w) 5 T.a_Reader_sign T.fd_Reader_sign ["self", "char"] (spPassX T.C_Reader T.C_TreeError) := ok_signX T
  refine T.F_Reader__pass_literal.okX sc_Reader__pass_literal (fun vs H Q E h => ?_) (fun cdv A outer s H vs Q E hr h => ?_)
  · obtain ⟨r, z, k, d, slot, l, rfl, _⟩ := h
    rfl
  · have hr_Reader__char : Room 1 _ := hr.mono (by decide)
    have hr_Reader__pass_one_of : Room 4 _ := hr.mono (by decide)
    have hr_Reader_sign : Room 5 _ := hr
    obtain ⟨r, z, k, d, slot, l, rfl, hR, zo, hA, h1, h2, hl, q, qe⟩ := h
    refine ⟨_, (pss_cons (ps_expr (pe_meth (pv 0) T.CL_Reader T.ME_Readersign G_Reader_sign hr_Reader_sign T.b_Reader_sign .nil (passes_call (takes_of rfl rfl rfl rfl) (fun _ _ _ _ z => z)) (pa_cons pe_str pa_nil)))
      (pss_cons (ps_set (i := 1) sc_Reader__pass_literal.nd rfl (.inl rfl) (pe_fld (pv 0) rfl))
      (pss_cons (ps_while (passes_of rfl) (PW.pt (pw_or (pt_cmpR op_ne (pe_meth0 (pv 0) T.CL_Reader T.ME_Reader_char G_Reader__char hr_Reader__char T.b_Reader__char .nil pass0) pe_str (nomark _)) (pw_or1 (pt_cmpR op_eq (pe_fld (pv 0) rfl) (pv 1) (nomark _))))) (pss_one (ps_if (pt_cmpR op_eq (pe_meth0 (pv 0) T.CL_Reader T.ME_Reader_char G_Reader__char hr_Reader__char T.b_Reader__char .nil pass0) pe_str (nomark _)) (pss_cons (ps_fldaug (pv 0) pe_int in_add)
      (pss_one (ps_expr (pe_meth (pv 0) T.CL_Reader T.ME_Reader_pass_one_of G_Reader__pass_one_of hr_Reader__pass_one_of T.b_Reader__pass_one_of .nil (passes_call (takes_of rfl rfl rfl rfl) (fun _ _ _ _ z => z)) (pa_cons pe_str pa_nil))))) (pss_one (ps_expr (pe_meth (pv 0) T.CL_Reader T.ME_Reader_pass_one_of G_Reader__pass_one_of hr_Reader__pass_one_of T.b_Reader__pass_one_of .nil (passes_call (takes_of rfl rfl rfl rfl) (fun _ _ _ _ z => z)) (pa_cons (pe_fld (pv 0) rfl) pa_nil)))))))
      (pss_one (ps_expr (pe_meth (pv 0) T.CL_Reader T.ME_Readersign G_Reader_sign hr_Reader_sign T.b_Reader_sign .nil (passes_call (takes_of rfl rfl rfl rfl) (fun _ _ _ _ z => z)) (pa_cons pe_str pa_nil))))))), ?_⟩
    obtain ⟨dx, pc, hk, hpc⟩ := id hR.ex
    have e34 := fun x => sg_dec x 34 "\"" (by decide +kernel)
    have e92 := fun x => sg_dec x 92 "\\" (by decide +kernel)
    have cq : cs (Str.ofString "\"") = [34] := by decide +kernel
    have hA1 : At z (k + 1) ⟨d, slot, 2, 1⟩ := hA.next hl (by
      rw [step_lo h1 h2 (fun _ => by decide)]
      unfold nextM
      rw [if_neg (by omega), if_neg (fun h => by
        rcases h with ⟨_, h⟩ | ⟨h, _⟩
        · exact absurd h (by decide +kernel)
        · cases h), if_pos ⟨rfl, rfl⟩]
      rfl)
    have stp : ∀ (m sz c : Nat), m = 2 ∨ m = 3 ∨ m = 4 → stepA ⟨d, slot, m, sz⟩ c = (nextM slot m sz c).map fun m' => ⟨d, slot, m', sz + 1⟩ := fun m sz c hm => step_lo h1 h2 (fun _ => by omega)
    refine ⟨_, rfl, _, _, _, rfl, hk, rd_no _ _ _ (by decide +kernel) (by decide +kernel) (by decide +kernel), r, _, z, k, rfl, hR, by decide +kernel, hA.le zo, fun x l1 hl1 hx v H2 b2 R2 => ?_, fun hno => absurd (hno 34 l hl) (by rw [cq]; simp)⟩
    obtain ⟨dx2, pc2, hk2, hpc2⟩ := id R2.ex
    refine ⟨_, rfl, _, _, _, _, _, rfl, hk2, T.CL_Reader, T.NA_Reader__place, rd_place _ _ _, ?_⟩
    refine while_nat (m0 := (cs z).length - (k + 1)) (fun mm σ H' => ∃ p m sz, k + 1 ≤ p ∧ mm = (cs z).length - p ∧ σ = [some (.ref r), some (.int ((k + 1 : Nat) : Int))] ∧ ((p = k + 1 ∧ m = 2) ∨ (k + 1 < p ∧ m = 3)) ∧ At z p ⟨d, slot, m, sz⟩ ∧ But r H H' ∧ RdAt T.C_Reader H' r z p)
      (fun σ H' => ∃ p sz t, k + 1 < p ∧ σ = [some (.ref r), some (.int ((k + 1 : Nat) : Int))] ∧ At z p ⟨d, slot, 3, sz⟩ ∧ (cs z).drop p = 34 :: t ∧ But r H H' ∧ RdAt T.C_Reader H' r z p)
      ⟨k + 1, 2, 1, Nat.le_refl _, rfl, rfl, .inl ⟨rfl, rfl⟩, hA1, b2, R2⟩ ?_ ?_
    · rintro mm σ H4 ⟨p, m, sz, hp, rfl, rfl, hm, A4, b4, R4⟩
      obtain ⟨dx4, pc4, hk4, hpc4⟩ := id R4.ex
      have hm3 : m = 2 ∨ m = 3 := by omega
      have E4 := qe.mono b4 R4
      have no4 : ∀ {m : Str}, ¬ m = "_plain_chars" → ¬ m = "_place" → ¬ m = "_notation" → (rdf z (p : Int) pc4).lookup m = none := fun h1 h2 h3 => rd_no _ _ _ h1 h2 h3
      have lpc : pc4.length ≤ 4000000 := by
        rw [len_cs, hpc4]
        exact (by decide +kernel : plainL.length ≤ 4000000)
      cases hy : (cs z).drop p with
      | nil =>
        refine ⟨true, fun Q hQ => ?_, fun _ => ?_, fun z => (by cases z)⟩
        · refine ⟨_, rfl, _, _, _, rfl, hk4, no4 (by decide +kernel) (by decide +kernel) (by decide +kernel), r, z, _, rfl, R4, fun c hc => ?_⟩
          obtain rfl := char_none hc hy
          exact ⟨rfl, _, rfl, itT (by decide +kernel) hQ⟩
        · refine ⟨_, rfl, _, _, _, rfl, hk4, no4 (by decide +kernel) (by decide +kernel) (by decide +kernel), r, z, _, rfl, R4, fun c hc => ?_⟩
          obtain rfl := char_none hc hy
          refine ⟨rfl, _, rfl, itF (by decide +kernel) ?_⟩
          exact ⟨_, rfl, _, _, _, rfl, hk4, no4 (by decide +kernel) (by decide +kernel) (by decide +kernel), _, rfl, _, _, _, _, _, rfl, hk4, T.CL_Reader, T.NA_Reader__plain_chars, rd_plain_chars _ _ _, r, pc4, z, _, rfl, R4, lpc, A4.le zo, fun x l e => (by rw [hy] at e; cases e), fun _ => E4 _ ⟨_, A4, .inr ⟨hy, fun h => by have := h.1; simp only at this; omega⟩⟩⟩
      | cons y t =>
        by_cases hend : y = 34 ∧ k + 1 < p
        · obtain ⟨rfl, hp2⟩ := hend
          obtain rfl : m = 3 := by omega
          refine ⟨false, fun Q hQ => ?_, fun z => (by cases z), fun _ => ⟨p, sz, t, hp2, rfl, A4, hy, b4, R4⟩⟩
          refine ⟨_, rfl, _, _, _, rfl, hk4, no4 (by decide +kernel) (by decide +kernel) (by decide +kernel), r, z, _, rfl, R4, fun c hc => ?_⟩
          obtain rfl := char_some hc hy
          refine ⟨rfl, _, rfl, itF (by rw [e34]; rfl) ?_⟩
          refine ⟨_, rfl, _, _, _, _, _, rfl, hk4, T.CL_Reader, T.NA_Reader__place, rd_place _ _ _, _, rfl, rfl, _, rfl, ?_⟩
          rw [decide_eq_false (fun e => by injection e with e; omega)]
          exact hQ
        · refine ⟨true, fun Q hQ => ?_, fun _ => ?_, fun z => (by cases z)⟩
          · refine ⟨_, rfl, _, _, _, rfl, hk4, no4 (by decide +kernel) (by decide +kernel) (by decide +kernel), r, z, _, rfl, R4, fun c hc => ?_⟩
            obtain rfl := char_some hc hy
            refine ⟨rfl, _, rfl, ?_⟩
            rw [e34]
            by_cases c34 : y = 34
            · rw [decide_eq_true c34]
              refine iteF ⟨_, rfl, _, _, _, _, _, rfl, hk4, T.CL_Reader, T.NA_Reader__place, rd_place _ _ _, _, rfl, rfl, _, rfl, ?_⟩
              rw [decide_eq_true (by rw [show p = k + 1 by omega])]
              exact hQ
            · rw [decide_eq_false c34]
              exact iteT hQ
          · refine ⟨_, rfl, _, _, _, rfl, hk4, no4 (by decide +kernel) (by decide +kernel) (by decide +kernel), r, z, _, rfl, R4, fun c hc => ?_⟩
            obtain rfl := char_some hc hy
            refine ⟨rfl, _, rfl, ?_⟩
            rw [e92]
            by_cases c92 : y = 92
            · subst c92
              refine itT (decide_eq_true rfl) ?_
              refine ⟨_, rfl, r, _, dx4, _, .int (p : Int), rfl, hk4, T.CL_Reader, T.NA_Reader__place, rd_place _ _ _, _, _, rfl, rfl, dx4, _, hk4, rdf_len _ _ _, ?_⟩
              have R5 : RdAt T.C_Reader (upd H4 r (.ins T.C_Reader dx4 (putF "_place" (.int ((p : Int) + 1)) (rdf z (p : Int) pc4)))) r z (p + 1) := ⟨⟨dx4, pc4, by rw [upd_same, rd_put, show (p : Int) + 1 = ((p + 1 : Nat) : Int) by omega], hpc4⟩, hR.le⟩
              have A5 : At z (p + 1) ⟨d, slot, 4, sz + 1⟩ := A4.next hy (by
                rw [stp _ _ _ (by omega)]
                unfold nextM
                rw [if_neg (by omega), if_neg (fun h => by omega), if_neg (by omega), if_pos ⟨hm3, rfl⟩]
                rfl)
              have E5 := E4.mono (But.set (o := .ins T.C_Reader dx4 (putF "_place" (.int ((p : Int) + 1)) (rdf z (p : Int) pc4)))) R5
              obtain ⟨dx5, pc5, hk5, hpc5⟩ := id R5.ex
              refine ⟨_, rfl, _, _, _, rfl, hk5, rd_no _ _ _ (by decide +kernel) (by decide +kernel) (by decide +kernel), r, _, z, p + 1, rfl, R5, by decide +kernel, A5.le zo, fun x l1 hl1 hx v H6 b6 R6 => ?_, fun hno => E5 _ ⟨_, A5, ?_⟩⟩
              · have A6 : At z (p + 1 + 1) ⟨d, slot, 3, sz + 1 + 1⟩ := A5.next hl1 (by
                  rw [stp _ _ _ (by omega)]
                  unfold nextM
                  rw [if_neg (by omega), if_neg (fun h => by omega), if_neg (by omega), if_neg (by omega), if_neg (by omega), if_pos ⟨rfl, hx⟩]
                  rfl)
                have := A6.1
                exact ⟨(cs z).length - (p + 1 + 1), by omega, p + 1 + 1, 3, _, by omega, rfl, rfl, .inr ⟨by omega, rfl⟩, A6, b4.trans (But.set.trans b6), R6⟩
              · cases hl1 : (cs z).drop (p + 1) with
                | nil => exact .inr ⟨rfl, fun h => by have := h.1; simp only at this; omega⟩
                | cons x l1 =>
                  refine .inl ⟨x, l1, rfl, ?_⟩
                  rw [stp _ _ _ (by omega)]
                  unfold nextM
                  rw [if_neg (by omega), if_neg (fun h => by omega), if_neg (by omega), if_neg (by omega), if_neg (by omega), if_neg (fun h => hno x l1 hl1 h.2), if_neg (by omega)]
                  rfl
            · refine itF (decide_eq_false c92) ?_
              refine ⟨_, rfl, _, _, _, rfl, hk4, no4 (by decide +kernel) (by decide +kernel) (by decide +kernel), _, rfl, _, _, _, _, _, rfl, hk4, T.CL_Reader, T.NA_Reader__plain_chars, rd_plain_chars _ _ _, r, pc4, z, _, rfl, R4, lpc, A4.le zo, fun x l1 hl1 hx v H6 b6 R6 => ?_, fun hno => E4 _ ⟨_, A4, .inl ⟨y, t, hy, ?_⟩⟩⟩
              · rw [hy] at hl1
                obtain ⟨rfl, rfl⟩ := List.cons.inj hl1
                rw [hpc4] at hx
                obtain ⟨g1, g2, g3, g4⟩ := plainL_facts y hx
                have A6 : At z (p + 1) ⟨d, slot, 3, sz + 1⟩ := A4.next hy (by
                  rw [stp _ _ _ (by omega)]
                  unfold nextM
                  rw [if_neg (by omega), if_neg (fun h => by omega), if_neg (by omega), if_neg (by omega), if_neg (by omega), if_neg (by omega), if_pos ⟨hm3, g1, by omega⟩]
                  rfl)
                have := A6.1
                exact ⟨(cs z).length - (p + 1), by omega, p + 1, 3, _, by omega, rfl, rfl, .inr ⟨by omega, rfl⟩, A6, b4.trans b6, R6⟩
              · have hn := hno y t hy
                rw [hpc4] at hn
                rw [stp _ _ _ (by omega)]
                unfold nextM
                rw [if_neg (by omega), if_neg (fun h => by omega), if_neg (by omega), if_neg (by omega), if_neg (fun h => hend ⟨h.2, by omega⟩), if_neg (by omega), if_neg (fun h => ?_)]
                · rfl
                · rcases zo.sg y (drop_mem hy) with g | g
                  · exact hn (plainL_mem g (by omega) c92 (by omega) (by omega))
                  · omega
    · rintro σ H4 ⟨p, sz, t, hp, rfl, A4, hy, b4, R4⟩
      obtain ⟨dx4, pc4, hk4, hpc4⟩ := id R4.ex
      refine ⟨_, rfl, _, _, _, rfl, hk4, rd_no _ _ _ (by decide +kernel) (by decide +kernel) (by decide +kernel), r, _, z, p, rfl, R4, by decide +kernel, A4.le zo, fun x l1 hl1 hx v H6 b6 R6 => ?_, fun hno => absurd (hno 34 t hy) (by rw [cq]; simp)⟩
      have A6 : At z (p + 1) ⟨d, slot, 5, sz + 1⟩ := A4.next hy (by
        rw [stp _ _ _ (by omega)]
        unfold nextM
        rw [if_neg (by omega), if_neg (fun h => by omega), if_neg (by omega), if_neg (by omega), if_pos ⟨rfl, rfl⟩]
        rfl)
      exact q (p + 1) _ _ H6 A6 (by omega) (b4.trans b6) R6
def spNameX (C CE : Addr) : Sp := fun vs H Q E => ∃ (r : Addr) (z : Str) (k : Nat) (d : Int) (slot : Nat), vs = [.ref r] ∧ RdAt C H r z k ∧ ZOk z ∧ At z k ⟨d, slot, 0, 0⟩ ∧ 1 ≤ slot ∧ slot ≤ 2 ∧
  (∀ (x : Str) m sz H', At z (k + (cs x).length) ⟨d, slot, m, sz⟩ → (m = 1 ∨ m = 5) → (cs z).drop k = cs x ++ (cs z).drop (k + (cs x).length) → Stuck z (k + (cs x).length) ⟨d, slot, m, sz⟩ → But r H H' → RdAt C H' r z (k + (cs x).length) → Q (.str x) H') ∧ Errs CE r H E z
theorem ok_nameX (T : Txt K mg) : FnOk P w K mg base (L2.CX P w) 7 T.a_Reader__name T.fd_Reader__name ["self"] (spNameX T.C_Reader T.C_TreeError) := by
  have G_Reader__char : FnOk P w K mg base CX0 1 T.a_Reader__char T.fd_Reader__char ["self"] (spChar T.C_Reader) := ok_char T
  have G_Reader__pass_one_of : FnOk P w K mg base (L2.CX P w) 4 T.a_Reader__pass_one_of T.fd_Reader__pass_one_of ["self", "chars"] (spPassX T.C_Reader T.C_TreeError) := ok_passX T
  have G_Reader__pass_literal : FnOk P w K mg base (L2.CX P w) 6 T.a_Reader__pass_literal T.fd_Reader__pass_literal ["self"] (spLitX T.C_Reader T.C_TreeError) := ok_litX T
  refine T.F_Reader__name.okX sc_Reader__name (fun vs H Q E h => ?_) (fun cdv A outer s H vs Q E hr h => ?_)
  · obtain ⟨r, z, k, d, slot, rfl, _⟩ := h
    rfl
  · have hr_Reader__char : Room 1 _ := hr.mono (by decide)
    have hr_Reader__pass_one_of : Room 4 _ := hr.mono (by decide)
    have hr_Reader__pass_literal : Room 6 _ := hr
    obtain ⟨r, z, k, d, slot, rfl, hR, zo, hA, h1, h2, q, qe⟩ := h
    refine ⟨_, (pss_cons (ps_set (i := 1) sc_Reader__name.nd rfl (.inl rfl) (pe_fld (pv 0) rfl))
      (pss_cons (ps_if (pt_cmpR op_eq (pe_meth0 (pv 0) T.CL_Reader T.ME_Reader_char G_Reader__char hr_Reader__char T.b_Reader__char .nil pass0) pe_str (nomark _)) (pss_cons (ps_expr (pe_meth0 (pv 0) T.CL_Reader T.ME_Reader_pass_literal G_Reader__pass_literal hr_Reader__pass_literal T.b_Reader__pass_literal .nil (passes_call (takes_of rfl rfl rfl rfl) (fun _ _ _ _ z => z))))
      (pss_one (ps_ret (pe_slice sl_str (pe_fld (pv 0) rfl) (po_some (pv 1)) (po_some (pe_fld (pv 0) rfl)))))) pss_nil)
      (pss_cons (ps_expr (pe_meth (pv 0) T.CL_Reader T.ME_Reader_pass_one_of G_Reader__pass_one_of hr_Reader__pass_one_of T.b_Reader__pass_one_of .nil (passes_call (takes_of rfl rfl rfl rfl) (fun _ _ _ _ z => z)) (pa_cons (pe_glob (v := .str "abcdefghijklmnopqrstuvwxyz") (by rfl) T.c_LETTERS.choose_spec ⟨_, rfl⟩) pa_nil)))
      (pss_cons (ps_while (passes_of rfl) (PW.pt (pw_and (pt_cmpR op_ne (pe_meth0 (pv 0) T.CL_Reader T.ME_Reader_char G_Reader__char hr_Reader__char T.b_Reader__char .nil pass0) pe_str (nomark _)) (pw_and1 (pt_cmpR op_in_sign (pe_meth0 (pv 0) T.CL_Reader T.ME_Reader_char G_Reader__char hr_Reader__char T.b_Reader__char .nil pass0) (pe_glob (v := .str "abcdefghijklmnopqrstuvwxyz0123456789_~") (by rfl) T.c_NAME_CHARS.choose_spec ⟨_, rfl⟩) rfl)))) (pss_one (ps_fldaug (pv 0) pe_int in_add)))
      (pss_one (ps_ret (pe_slice sl_str (pe_fld (pv 0) rfl) (po_some (pv 1)) (po_some (pe_fld (pv 0) rfl))))))))), ?_⟩
    obtain ⟨dx, pc, hk, hpc⟩ := id hR.ex
    have no : ∀ {m : Str}, ¬ m = "_plain_chars" → ¬ m = "_place" → ¬ m = "_notation" → (rdf z (k : Int) pc).lookup m = none := fun h1 h2 h3 => rd_no _ _ _ h1 h2 h3
    have e34 := fun x => sg_dec x 34 "\"" (by decide +kernel)
    have stp : ∀ (m sz c : Nat), (c = 32 → ¬ (m = 1 ∨ m = 5 ∨ m = 7 ∨ m = 8)) → stepA ⟨d, slot, m, sz⟩ c = (nextM slot m sz c).map fun m' => ⟨d, slot, m', sz + 1⟩ := fun m sz c hm => step_lo h1 h2 hm
    -- the end, from a place k'
    have fin : ∀ k' m sz H', k ≤ k' → At z k' ⟨d, slot, m, sz⟩ → (m = 1 ∨ m = 5) → Stuck z k' ⟨d, slot, m, sz⟩ → But r H H' → RdAt T.C_Reader H' r z k' → Q (.str (cutS z (some (k : Int)) (some (k' : Int)))) H' := fun k' m sz H' hk' A' hm S' b' R' => by
      have e1 : cs (cutS z (some (k : Int)) (some (k' : Int))) = ((cs z).drop k).take (k' - k) := by rw [cut_mid, List.drop_take]
      have e2 : (cs (cutS z (some (k : Int)) (some (k' : Int)))).length = k' - k := by
        rw [e1, List.length_take, List.length_drop]
        have := A'.1
        omega
      have e3 : k + (cs (cutS z (some (k : Int)) (some (k' : Int)))).length = k' := by omega
      refine q _ m sz H' ?_ hm ?_ ?_ b' ?_
      · rw [e3]
        exact A'
      · rw [e3, e1]
        conv => rhs; rhs; rw [show k' = k + (k' - k) by omega, ← List.drop_drop]
        rw [List.take_append_drop]
      · rw [e3]
        exact S'
      · rw [e3]
        exact R'
    refine ⟨_, rfl, _, _, _, _, _, rfl, hk, T.CL_Reader, T.NA_Reader__place, rd_place _ _ _, ?_⟩
    refine ⟨_, rfl, _, _, _, rfl, hk, no (by decide +kernel) (by decide +kernel) (by decide +kernel), r, z, k, rfl, hR, fun c hc => ?_⟩
    by_cases hq : ∃ l, (cs z).drop k = 34 :: l
    · obtain ⟨l, hl⟩ := hq
      obtain rfl := char_some hc hl
      refine ⟨rfl, _, rfl, itT (by rw [e34]; rfl) ?_⟩
      refine ⟨_, rfl, _, _, _, rfl, hk, no (by decide +kernel) (by decide +kernel) (by decide +kernel), r, z, k, d, slot, l, rfl, hR, zo, hA, h1, h2, hl, fun k' sz v H4 A4 hk' b4 R4 => ?_, qe⟩
      obtain ⟨dx4, pc4, hk4, hpc4⟩ := id R4.ex
      refine ⟨_, rfl, _, _, _, _, _, rfl, hk4, T.CL_Reader, T.NA_Reader__notation, rd_notation _ _ _, _, rfl, _, rfl, _, rfl, _, _, _, _, _, rfl, hk4, T.CL_Reader, T.NA_Reader__place, rd_place _ _ _, _, rfl, z, rfl, szM hR.le, fin k' 5 sz H4 hk' A4 (.inr rfl) (fun x l _ n32 _ => ?_) b4 R4⟩
      rw [stp _ _ _ (fun e => absurd e n32)]
      unfold nextM
      rw [if_neg (by omega), if_neg (fun h => by omega), if_neg (by omega), if_neg (by omega), if_neg (by omega), if_neg (by omega), if_neg (by omega)]
      rfl
    · refine ⟨rfl, _, rfl, itF ?_ ?_⟩
      · cases hl : (cs z).drop k with
        | nil =>
          obtain rfl := char_none hc hl
          decide +kernel
        | cons x l =>
          obtain rfl := char_some hc hl
          rw [e34]
          exact decide_eq_false fun e => hq ⟨l, by rw [hl, e]⟩
      refine ⟨_, rfl, _, _, _, rfl, hk, no (by decide +kernel) (by decide +kernel) (by decide +kernel), r, _, z, k, rfl, hR, by decide +kernel, hA.le zo, fun x l hl hx v H3 b3 R3 => ?_, fun hno => qe k ⟨_, hA, ?_⟩⟩
      · have hA1 : At z (k + 1) ⟨d, slot, 1, 1⟩ := hA.next hl (by
          rw [stp _ _ _ (fun _ => by decide)]
          unfold nextM
          rw [if_neg (by omega), if_pos (.inl ⟨rfl, hx⟩)]
          rfl)
        refine while_nat (m0 := (cs z).length - (k + 1)) (fun mm σ H' => ∃ p sz, k + 1 ≤ p ∧ mm = (cs z).length - p ∧ σ = [some (.ref r), some (.int (k : Int))] ∧ At z p ⟨d, slot, 1, sz⟩ ∧ But r H H' ∧ RdAt T.C_Reader H' r z p)
          (fun σ H' => ∃ p sz, k + 1 ≤ p ∧ σ = [some (.ref r), some (.int (k : Int))] ∧ At z p ⟨d, slot, 1, sz⟩ ∧ But r H H' ∧ RdAt T.C_Reader H' r z p ∧ ∀ y t, (cs z).drop p = y :: t → ¬ y ∈ cs nameS) ⟨k + 1, 1, Nat.le_refl _, rfl, rfl, hA1, b3, R3⟩ ?_ ?_
        · rintro mm σ H4 ⟨p, sz, hp, rfl, rfl, A4, b4, R4⟩
          obtain ⟨dx4, pc4, hk4, hpc4⟩ := id R4.ex
          cases hy : (cs z).drop p with
          | nil => exact ⟨false, fun Q hQ => ask_nil R4 hy hQ, fun z => (by cases z), fun _ => ⟨p, sz, hp, rfl, A4, b4, R4, fun y t e => by rw [hy] at e; cases e⟩⟩
          | cons y t =>
            by_cases hyd : y ∈ cs nameS
            · refine ⟨true, fun Q hQ => ask_in R4 hy ?_, fun _ => ?_, fun z => (by cases z)⟩
              · rw [show decide (y ∈ cs (Str.ofString "abcdefghijklmnopqrstuvwxyz0123456789_~")) = true from decide_eq_true hyd]
                exact hQ
              · refine ⟨_, rfl, r, _, dx4, _, .int (p : Int), rfl, hk4, T.CL_Reader, T.NA_Reader__place, rd_place _ _ _, _, _, rfl, rfl, dx4, _, hk4, rdf_len _ _ _, ?_⟩
                have A5 : At z (p + 1) ⟨d, slot, 1, sz + 1⟩ := A4.next hy (by
                  rw [stp _ _ _ (fun e => absurd hyd (by rw [e]; decide +kernel))]
                  unfold nextM
                  rw [if_neg (by omega), if_pos (.inr ⟨rfl, hyd⟩)]
                  rfl)
                have := A5.1
                refine ⟨(cs z).length - (p + 1), by omega, p + 1, _, by omega, rfl, rfl, A5, b4.trans But.set, ⟨⟨dx4, pc4, ?_, hpc4⟩, hR.le⟩⟩
                rw [upd_same, rd_put, show (p : Int) + 1 = ((p + 1 : Nat) : Int) by omega]
            · refine ⟨false, fun Q hQ => ask_in R4 hy ?_, fun z => (by cases z), fun _ => ⟨p, sz, hp, rfl, A4, b4, R4, fun y' t' e => by rw [hy] at e; obtain ⟨rfl, _⟩ := List.cons.inj e; exact hyd⟩⟩
              rw [show decide (y ∈ cs (Str.ofString "abcdefghijklmnopqrstuvwxyz0123456789_~")) = false from decide_eq_false hyd]
              exact hQ
        · rintro σ H4 ⟨p, sz, hp, rfl, A4, b4, R4, hnn⟩
          obtain ⟨dx4, pc4, hk4, hpc4⟩ := id R4.ex
          refine ⟨_, rfl, _, _, _, _, _, rfl, hk4, T.CL_Reader, T.NA_Reader__notation, rd_notation _ _ _, _, rfl, _, rfl, _, rfl, _, _, _, _, _, rfl, hk4, T.CL_Reader, T.NA_Reader__place, rd_place _ _ _, _, rfl, z, rfl, szM hR.le, fin p 1 sz H4 (by omega) A4 (.inl rfl) (fun x l e n32 _ => ?_) b4 R4⟩
          have nn := hnn x l e
          rw [stp _ _ _ (fun e => absurd e n32)]
          unfold nextM
          rw [if_neg (by omega), if_neg (fun h => by
            rcases h with ⟨h, _⟩ | ⟨_, h⟩
            · cases h
            · exact nn h), if_neg (by omega), if_neg (by omega), if_neg (by omega), if_neg (by omega), if_neg (by omega)]
          rfl
      · cases hl : (cs z).drop k with
        | nil => exact .inr ⟨rfl, fun h => by have := h.1; simp only at this; omega⟩
        | cons x l =>
          refine .inl ⟨x, l, rfl, ?_⟩
          have nx := hno x l hl
          rw [stp _ _ _ (fun _ => by decide)]
          unfold nextM
          rw [if_neg (by omega), if_neg (fun h => by
            rcases h with ⟨_, h⟩ | ⟨h, _⟩
            · exact nx h
            · cases h), if_neg (fun h => hq ⟨l, by rw [hl, h.2]⟩), if_neg (by omega), if_neg (by omega), if_neg (by omega), if_neg (by omega)]
          rfl

/-! ### read_tree: the nodes that are not closed -/
structure Fr where
  g : Addr
  w : Addr
  b : Addr
  d : Nd
  bs : List Tr
  todo : List Tr
theorem rowsL_app (l : Int) : ∀ a b : List Tr, rowsL l (a ++ b) = rowsL l a ++ rowsL l b
  | [], _ => rfl
  | t :: a, b => by
    show t.rows l ++ rowsL l (a ++ b) = (t.rows l ++ rowsL l a) ++ rowsL l b
    rw [rowsL_app l a b, List.append_assoc]
def FrAt (K : PySem.W.Frag) (C : Addr) (H : Hp) (f : Fr) : Prop := SqT K H f.g [.ref f.w, .ref f.b] ∧ H f.w = some (.lst (wordV f.d)) ∧ H f.b = some (.lst (f.bs.map fun t => V.ref t.at)) ∧ NodesAt K C H f.bs ∧ TrsOk f.todo
/-- lists but one stay -/
def Lk (a : Addr) (H H' : Hp) : Prop := ∀ p xs, p ≠ a → H p = some (.lst xs) → H' p = some (.lst xs)
theorem Lk.of {a : Addr} {H H' : Hp} (s : Same H H') : Lk a H H' := fun p xs _ h => s p _ h
theorem Lk.upd {a : Addr} {H : Hp} {o : HO} : Lk a H (upd H a o) := fun p xs n h => by rw [upd_ne n]; exact h
theorem FrAt.keep {K : PySem.W.Frag} {C a : Addr} {H H' : Hp} {f : Fr} (k : Keeps K C H H') (l : Lk a H H') (h : FrAt K C H f) (hw : f.w ≠ a) (hb : f.b ≠ a) : FrAt K C H' f :=
  ⟨k.tup _ _ h.1, l _ _ hw h.2.1, l _ _ hb h.2.2.1, NodesAt.keep k h.2.2.2.1, h.2.2.2.2⟩
theorem rd_nd {C C' r p dx dx' tp : Addr} {H : Hp} {z : Str} {k : Int} {pc : Str} {d : Nd} (h : H r = some (.ins C dx (rdf z k pc))) (h' : H p = some (.ins C' dx' (nfl d tp))) : p ≠ r := fun e => by
  rw [e, h] at h'
  injection h' with h'
  injection h' with _ _ h'
  have e1 := nf_kind d tp
  rw [← h', rd_no _ _ _ (by decide +kernel) (by decide +kernel) (by decide +kernel)] at e1
  cases e1
theorem Keeps.rd {K : PySem.W.Frag} {C r : Addr} {H H' : Hp} {z : Str} {k : Nat} (R : RdAt C H r z k) {C2 : Addr} (b : But r H H') : Keeps K C2 H H' := by
  obtain ⟨dx, pc, hk, _⟩ := R.ex
  refine ⟨fun q dx d tp e => b q _ (rd_nd hk e) e, fun tp us e => ?_⟩
  rcases e with (e | ⟨x, e⟩) | e
  · exact .inl (.inl (b _ _ (fun z => by rw [z, hk] at e; cases e) e))
  · exact .inl (.inr ⟨x, b _ _ (fun z => by rw [z, hk] at e; cases e) e⟩)
  · exact .inr e
def Ls (H H' : Hp) : Prop := ∀ p xs, H p = some (.lst xs) → H' p = some (.lst xs)
theorem Ls.of {H H' : Hp} (s : Same H H') : Ls H H' := fun p xs h => s p _ h
theorem Ls.rd {C r : Addr} {H H' : Hp} {z : Str} {k : Nat} (R : RdAt C H r z k) (b : But r H H') : Ls H H' := fun p xs e => by
  obtain ⟨dx, pc, hk, _⟩ := R.ex
  exact b p _ (fun z => by rw [z, hk] at e; cases e) e
theorem Ls.lk {a : Addr} {H H' : Hp} (l : Ls H H') : Lk a H H' := fun p xs _ h => l p xs h
theorem RdAt.upd {C r : Addr} {H : Hp} {z : Str} {k : Nat} {p : Addr} {o : HO} (R : RdAt C H r z k) (n : r ≠ p) : RdAt C (upd H p o) r z k := by
  obtain ⟨⟨dx, pc, hk, hp⟩, lz⟩ := R
  exact ⟨⟨dx, pc, by rw [upd_ne n]; exact hk, hp⟩, lz⟩
theorem RdAt.new {C r : Addr} {H : Hp} {z : Str} {k : Nat} {p : Addr} {o : HO} (R : RdAt C H r z k) (n : H p = none) : RdAt C (L2.upd H p o) r z k := by
  obtain ⟨dx, pc, hk, hp⟩ := R.ex
  exact R.upd (ne_of_none hk n)
theorem RdAt.ne_lst {C r : Addr} {H : Hp} {z : Str} {k : Nat} {p : Addr} {xs : List V} (R : RdAt C H r z k) (h : H p = some (.lst xs)) : p ≠ r := fun e => by
  obtain ⟨dx, pc, hk, hp⟩ := R.ex
  rw [e, hk] at h
  cases h
theorem RdAt.same {C r : Addr} {H H' : Hp} {z : Str} {k : Nat} (R : RdAt C H r z k) (s : Same H H') : RdAt C H' r z k := by
  obtain ⟨⟨dx, pc, hk, hp⟩, lz⟩ := R
  exact ⟨⟨dx, pc, s _ _ hk, hp⟩, lz⟩
/-- the stack's frames in the heap; the top first -/
structure FrsAt (K : PySem.W.Frag) (C : Addr) (H : Hp) (a : Addr) (S : List Fr) : Prop where
  ha : H a = some (.lst (S.reverse.map fun f => V.ref f.g))
  at_ : ∀ f ∈ S, FrAt K C H f
  ne : ∀ f ∈ S, f.w ≠ a ∧ f.b ≠ a
  dis : S.Pairwise fun f g => f.b ≠ g.w ∧ f.b ≠ g.b
  wb : ∀ f ∈ S, f.w ≠ f.b
theorem FrAt.keepL {K : PySem.W.Frag} {C : Addr} {H H' : Hp} {f : Fr} (k : Keeps K C H H') (l : Ls H H') (h : FrAt K C H f) : FrAt K C H' f :=
  ⟨k.tup _ _ h.1, l _ _ h.2.1, l _ _ h.2.2.1, NodesAt.keep k h.2.2.2.1, h.2.2.2.2⟩
theorem FrsAt.keep {K : PySem.W.Frag} {C a : Addr} {H H' : Hp} {S : List Fr} (F : FrsAt K C H a S) (k : Keeps K C H H') (l : Ls H H') : FrsAt K C H' a S :=
  ⟨l _ _ F.ha, fun f hf => (F.at_ f hf).keepL k l, F.ne, F.dis, F.wb⟩
theorem FrsAt.push {K : PySem.W.Frag} {C a g w b : Addr} {H : Hp} {d : Nd} {td : List Tr} {S : List Fr} (F : FrsAt K C H a S) (hg : SqT K H g [.ref w, .ref b]) (hw : H w = some (.lst (wordV d))) (hb : H b = some (.lst [])) (ht : TrsOk td)
    (nw : w ≠ a) (nb : b ≠ a) (wb : w ≠ b) (nf : ∀ f ∈ S, b ≠ f.w ∧ b ≠ f.b) : FrsAt K C (upd H a (.lst ((S.reverse.map fun f => V.ref f.g) ++ [.ref g]))) a (⟨g, w, b, d, [], td⟩ :: S) := by
  have kp : Keeps K C H (upd H a (.lst ((S.reverse.map fun f => V.ref f.g) ++ [.ref g]))) := Keeps.lst F.ha
  refine ⟨by rw [upd_same, List.reverse_cons, List.map_append]; rfl, fun f hf => ?_, fun f hf => ?_, List.pairwise_cons.mpr ⟨nf, F.dis⟩, fun f hf => ?_⟩
  · rcases List.mem_cons.mp hf with rfl | hf
    · exact ⟨kp.tup _ _ hg, Lk.upd _ _ nw hw, Lk.upd _ _ nb hb, True.intro, ht⟩
    · have n := F.ne f hf
      exact (F.at_ f hf).keep kp Lk.upd n.1 n.2
  · rcases List.mem_cons.mp hf with rfl | hf
    · exact ⟨nw, nb⟩
    · exact F.ne f hf
  · rcases List.mem_cons.mp hf with rfl | hf
    · exact wb
    · exact F.wb f hf
theorem FrsAt.pop {K : PySem.W.Frag} {C a : Addr} {H : Hp} {f : Fr} {S : List Fr} (F : FrsAt K C H a (f :: S)) : FrsAt K C (upd H a (.lst (S.reverse.map fun f => V.ref f.g))) a S ∧ FrAt K C (upd H a (.lst (S.reverse.map fun f => V.ref f.g))) f := by
  have kp : Keeps K C H (upd H a (.lst (S.reverse.map fun f => V.ref f.g))) := Keeps.lst F.ha
  have all : ∀ x ∈ f :: S, FrAt K C (upd H a (.lst (S.reverse.map fun f => V.ref f.g))) x := fun x hx => by
    have n := F.ne x hx
    exact (F.at_ x hx).keep kp Lk.upd n.1 n.2
  exact ⟨⟨upd_same, fun x hx => all x (List.mem_cons_of_mem _ hx), fun x hx => F.ne x (List.mem_cons_of_mem _ hx), (List.pairwise_cons.mp F.dis).2, fun x hx => F.wb x (List.mem_cons_of_mem _ hx)⟩, all f List.mem_cons_self⟩
theorem FrsAt.add {K : PySem.W.Frag} {C a g w b : Addr} {H : Hp} {d : Nd} {bs td : List Tr} {u : Tr} {S : List Fr} (F : FrsAt K C H a (⟨g, w, b, d, bs, td⟩ :: S)) (hu : NodeAt K C H u) :
    FrsAt K C (upd H b (.lst ((bs.map fun t => V.ref t.at) ++ [.ref u.at]))) a (⟨g, w, b, d, bs ++ [u], td⟩ :: S) := by
  have h0 := F.at_ _ List.mem_cons_self
  have n0 := F.ne _ List.mem_cons_self
  have kp : Keeps K C H (upd H b (.lst ((bs.map fun t => V.ref t.at) ++ [.ref u.at]))) := Keeps.lst h0.2.2.1
  obtain ⟨h1, h2⟩ := List.pairwise_cons.mp F.dis
  refine ⟨?_, fun f hf => ?_, fun f hf => ?_, List.pairwise_cons.mpr ⟨h1, h2⟩, fun f hf => ?_⟩
  · rw [upd_ne n0.2.symm]
    have e := F.ha
    rw [List.reverse_cons, List.map_append] at e ⊢
    exact e
  · rcases List.mem_cons.mp hf with rfl | hf
    · refine ⟨kp.tup _ _ h0.1, Lk.upd _ _ (F.wb ⟨g, w, b, d, bs, td⟩ List.mem_cons_self) h0.2.1, by rw [upd_same, List.map_append]; rfl, NodesAt.of fun t ht => ?_, h0.2.2.2.2⟩
      rcases List.mem_append.mp ht with ht | ht
      · exact (NodesAt.mem h0.2.2.2.1 ht).keep kp
      · rw [List.mem_singleton.mp ht]
        exact hu.keep kp
    · have n := h1 f hf
      exact (F.at_ f (List.mem_cons_of_mem _ hf)).keep kp Lk.upd n.1.symm n.2.symm
  · rcases List.mem_cons.mp hf with rfl | hf
    · exact n0
    · exact F.ne f (List.mem_cons_of_mem _ hf)
  · rcases List.mem_cons.mp hf with rfl | hf
    · exact F.wb ⟨g, w, b, d, bs, td⟩ List.mem_cons_self
    · exact F.wb f (List.mem_cons_of_mem _ hf)
theorem same_but {H H1 H2 : Hp} {r : Addr} (s : Same H H1) (hr : H r = none) (b : But r H1 H2) : Same H H2 := fun c o e => b c o (fun z => by rw [z, hr] at e; cases e) (s c o e)

/-! ### words; what follows a node's words -/
structure NumNd (d : Nd) : Prop where
  st : NumOk d.st
  lead : 0 ≤ d.lead ∧ d.lead < 1000000000
  wid : 0 ≤ d.wid ∧ d.wid < 1000000000
  look : 0 ≤ d.look ∧ d.look < 1000000000
  alt : NumOk d.alt
  pop : 0 ≤ d.pop ∧ d.pop < 1000000000
theorem step_sp {d : Int} {slot m sz : Nat} (h1 : 1 ≤ slot) (h8 : slot ≤ 8) (hm : m = 1 ∨ m = 5 ∨ m = 7 ∨ m = 8) : stepA ⟨d, slot, m, sz⟩ 32 = some ⟨d, if slot + 1 = 9 then 0 else slot + 1, 0, 0⟩ := by
  unfold stepA
  rw [if_neg (by show ¬ slot = 0; omega), if_neg (by show ¬ slot = 9; omega), if_pos ⟨rfl, hm⟩]
theorem fault_sp {z : Str} {k : Nat} {d : Int} {slot m sz : Nat} (h1 : 1 ≤ slot) (h7 : slot ≤ 7) (hA : At z k ⟨d, slot, m, sz⟩) (hS : Stuck z k ⟨d, slot, m, sz⟩) (hno : ∀ x l, (cs z).drop k = x :: l → ¬ x ∈ cs (Str.ofString " ")) : FaultAt z k := by
  refine ⟨_, hA, ?_⟩
  cases hl : (cs z).drop k with
  | nil => exact .inr ⟨rfl, fun h => by have := h.1; simp only at this; omega⟩
  | cons x l =>
    refine .inl ⟨x, l, rfl, hS x l hl (fun e => hno x l hl (by rw [e]; decide +kernel)) (fun e => ?_)⟩
    simp only at e
    omega
def spWordsX (C CE : Addr) : Sp := fun vs H Q E => ∃ (r : Addr) (z : Str) (k : Nat) (d : Int), vs = [.ref r] ∧ RdAt C H r z k ∧ ZOk z ∧ At z k ⟨d, 1, 0, 0⟩ ∧
  (∀ p (nd : Nd) m sz H', NumNd nd → (cs z).drop k = wd nd ++ (cs z).drop (k + (wd nd).length) → At z (k + (wd nd).length) ⟨d, 8, m, sz⟩ → (m = 7 ∨ m = 8) → Stuck z (k + (wd nd).length) ⟨d, 8, m, sz⟩ → But r H H' → H p = none → H' p = some (.lst (wordV nd)) → RdAt C H' r z (k + (wd nd).length) → Q (.ref p) H') ∧ Errs CE r H E z
theorem ok_wordsX (T : Txt K mg) : FnOk P w K mg base (L2.CX P w) 8 T.a_Reader_words T.fd_Reader_words ["self"] (spWordsX T.C_Reader T.C_TreeError) := by
  have G_Reader_sign : FnOk P w K mg base (L2.CX P w) 5 T.a_Reader_sign T.fd_Reader_sign ["self", "char"] (spPassX T.C_Reader T.C_TreeError) := ok_signX T
  have G_Reader__name : FnOk P w K mg base (L2.CX P w) 7 T.a_Reader__name T.fd_Reader__name ["self"] (spNameX T.C_Reader T.C_TreeError) := ok_nameX T
  have G_Reader__number : FnOk P w K mg base (L2.CX P w) 6 T.a_Reader__number T.fd_Reader__number ["self", "signed"] (spNumX T.C_Reader T.C_TreeError) := ok_numX T
  refine T.F_Reader_words.okX sc_Reader_words (fun vs H Q E h => ?_) (fun cdv A outer s H vs Q E hr h => ?_)
  · obtain ⟨r, z, k, d, rfl, _⟩ := h
    rfl
  · have hr_Reader_sign : Room 5 _ := hr.mono (by decide)
    have hr_Reader__name : Room 7 _ := hr
    have hr_Reader__number : Room 6 _ := hr.mono (by decide)
    obtain ⟨r, z, k, d, rfl, hR, zo, hA, q, qe⟩ := h
    refine ⟨_, (pss_cons (ps_set (i := 1) sc_Reader_words.nd rfl (.inl rfl) (pe_lst (pa_cons (pe_meth0 (pv 0) T.CL_Reader T.ME_Reader_name G_Reader__name hr_Reader__name T.b_Reader__name .nil (passes_call (takes_of rfl rfl rfl rfl) (fun _ _ _ _ z => z))) pa_nil)))
      (pss_cons (ps_expr (pe_meth (pv 0) T.CL_Reader T.ME_Readersign G_Reader_sign hr_Reader_sign T.b_Reader_sign .nil (passes_call (takes_of rfl rfl rfl rfl) (fun _ _ _ _ z => z)) (pa_cons pe_str pa_nil)))
      (pss_cons (ps_expr (pe_bm PySem.F.plainAttrs_list PySem.F.slot_list_append PySem.F.type_list_append mt_append (pv 1) (pa_cons (pe_meth0 (pv 0) T.CL_Reader T.ME_Reader_name G_Reader__name hr_Reader__name T.b_Reader__name .nil (passes_call (takes_of rfl rfl rfl rfl) (fun _ _ _ _ z => z))) pa_nil)))
      (pss_cons (ps_for (passes_of rfl) rfl (pi_tup (pe_tup (pa_cons pe_bl (pa_cons pe_bl (pa_cons pe_bl (pa_cons pe_bl (pa_cons pe_bl (pa_cons pe_bl pa_nil)))))))) (pg_name (i := 2) sc_Reader_words.nd rfl (.inl rfl)) (pss_cons (ps_expr (pe_meth (pv 0) T.CL_Reader T.ME_Readersign G_Reader_sign hr_Reader_sign T.b_Reader_sign .nil (passes_call (takes_of rfl rfl rfl rfl) (fun _ _ _ _ z => z)) (pa_cons pe_str pa_nil)))
      (pss_one (ps_expr (pe_bm PySem.F.plainAttrs_list PySem.F.slot_list_append PySem.F.type_list_append mt_append (pv 1) (pa_cons (pe_meth (pv 0) T.CL_Reader T.ME_Reader_number G_Reader__number hr_Reader__number T.b_Reader__number .nil (passes_call (takes_of rfl rfl rfl rfl) (fun _ _ _ _ z => z)) (pa_cons (pv 2) pa_nil)) pa_nil))))))
      (pss_one (ps_ret (pv 1))))))), ?_⟩
    obtain ⟨dx, pc, hk, hpc⟩ := id hR.ex
    have c32 : cs (Str.ofString " ") = [32] := by decide +kernel
    refine ⟨_, rfl, _, _, _, rfl, hk, rd_no _ _ _ (by decide +kernel) (by decide +kernel) (by decide +kernel), r, z, k, d, 1, rfl, hR, zo, hA, by decide, by decide, fun x1 m1 sz1 H1 A1 hm1 e1 S1 b1 R1 => ?_, qe⟩
    refine ⟨by show 1 ≤ sizeLine; decide, fun p np => ?_⟩
    obtain ⟨dx1, pc1, hk1, hpc1⟩ := id R1.ex
    have hpr : p ≠ r := (ne_of_none hk1 np).symm
    have np0 : H p = none := b1.free hpr np
    have R1' : RdAt T.C_Reader (upd H1 p (.lst [.str x1])) r z (k + (cs x1).length) := R1.new np
    obtain ⟨H2, hH2⟩ : ∃ H2, H2 = upd H1 p (.lst [.str x1]) := ⟨_, rfl⟩
    rw [← hH2] at R1' ⊢
    have hp2 : H2 p = some (.lst [.str x1]) := by rw [hH2]; exact upd_same
    have b2 : But r H H2 := by rw [hH2]; exact b1.trans (But.new np)
    obtain ⟨dx2, pc2, hk2, hpc2⟩ := id R1'.ex
    refine ⟨_, rfl, _, _, _, rfl, hk2, rd_no _ _ _ (by decide +kernel) (by decide +kernel) (by decide +kernel), r, _, z, _, rfl, R1', by decide +kernel, A1.le zo, fun x l hl hx v H3 b3 R3 => ?_, fun hno => (qe.mono b2 R1') _ (fault_sp (by decide) (by decide) A1 S1 hno)⟩
    have hx : x = 32 := by rw [c32] at hx; exact List.mem_singleton.mp hx
    subst hx
    have A3 : At z (k + (cs x1).length + 1) ⟨d, 2, 0, 0⟩ := A1.next hl (step_sp (by decide) (by decide) (by omega))
    have hp3 := b3 _ _ hpr hp2
    have b23 := b2.trans b3
    obtain ⟨dx3, pc3, hk3, hpc3⟩ := id R3.ex
    refine ⟨_, rfl, .inl ⟨rfl, _, SqL.of hp3⟩, _, rfl, _, _, _, rfl, hk3, rd_no _ _ _ (by decide +kernel) (by decide +kernel) (by decide +kernel), r, z, _, d, 2, rfl, R3, zo, A3, by decide, by decide, fun x2 m2 sz2 H4 A4 hm2 e2 S4 b4 R4 => ?_, qe.mono b23 R3⟩
    have hp4 := b4 _ _ hpr hp3
    refine ⟨p, _, _, rfl, rfl, hp4, by show 1 < sizeLine; decide, ?_⟩
    obtain ⟨L, hL⟩ : ∃ L, L = cs x1 ++ (32 :: cs x2) := ⟨_, rfl⟩
    have ek : k + (cs x1).length + 1 + (cs x2).length = k + L.length := by rw [hL, List.length_append, List.length_cons]; omega
    rw [ek] at A4 e2 S4 R4
    have eL : (cs z).drop k = L ++ (cs z).drop (k + L.length) := by
      rw [hL, List.append_assoc, List.cons_append, ← hL, ← e2, show 32 :: (cs z).drop (k + (cs x1).length + 1) = (cs z).drop (k + (cs x1).length) by rw [hl, ← List.drop_drop, hl]; rfl]
      exact e1
    obtain ⟨dx4, pc4, hk4, hpc4⟩ := id R4.ex
    have R5 : RdAt T.C_Reader (upd H4 p (.lst ([.str x1] ++ [.str x2]))) r z (k + L.length) := R4.upd hpr.symm
    have b5 : But r H (upd H4 p (.lst ([.str x1] ++ [.str x2]))) := (b23.trans b4).updN np0
    have hp5 : (upd H4 p (.lst ([.str x1] ++ [.str x2]))) p = some (.lst (.str x1 :: .str x2 :: [])) := upd_same
    obtain ⟨H5, hH5⟩ : ∃ H5, H5 = upd H4 p (.lst ([.str x1] ++ [.str x2])) := ⟨_, rfl⟩
    rw [← hH5] at R5 b5 hp5 ⊢
    clear hl e1 e2 S1 A1 A3 R1 R1' R3 b1 b2 b3 b4 hH2 hH5 hp2 hp3 hp4 hk1 hk2 hk3 hk4 np
    refine ⟨by show 6 ≤ sizeLine; decide, fun t nt => ⟨_, rfl, ⟨_, SqT.of upd_same⟩, ?_⟩⟩
    have htr : t ≠ r := fun e => by
      obtain ⟨dx5, pc5, hk5, _⟩ := R5.ex
      rw [e, hk5] at nt
      cases nt
    have htp : t ≠ p := fun e => by rw [e, hp5] at nt; cases nt
    have nt0 : H t = none := b5.free htr nt
    refine for_tup (K := K) (a := t) (xs := sgnV) (fun i σ H' => ∃ (y2 : Option V) (ns : List Int) (m sz : Nat), σ = [some (.ref r), some (.ref p), y2] ∧ ns.length = i ∧ (∀ (j : Nat) (n : Int), ns[j]? = some n → NumOk n ∧ (¬ (j = 0 ∨ j = 4) → 0 ≤ n)) ∧ But r H H' ∧ H' t = some (.tup sgnV) ∧ H' p = some (.lst (.str x1 :: .str x2 :: ns.map V.int)) ∧
        (cs z).drop (k + L.length) = numsR ns ++ (cs z).drop (k + L.length + (numsR ns).length) ∧ At z (k + L.length + (numsR ns).length) ⟨d, 2 + i, m, sz⟩ ∧ (m = 1 ∨ m = 5 ∨ m = 7 ∨ m = 8) ∧ (2 < 2 + i → m = 7 ∨ m = 8) ∧ Stuck z (k + L.length + (numsR ns).length) ⟨d, 2 + i, m, sz⟩ ∧ RdAt T.C_Reader H' r z (k + L.length + (numsR ns).length))
      ⟨none, [], m2, sz2, rfl, rfl, fun j n h => by simp at h, b5.trans (But.new nt), upd_same, by rw [upd_ne htp.symm]; exact hp5, rfl, A4, by omega, fun h => by omega, S4, R5.new nt⟩ (fun i σ H' _ ⟨_, _, _, _, _, _, _, _, h, _⟩ => SqT.of h) ?_ ?_
    · rintro i v σ H6 hv ⟨y2, ns, m, sz, rfl, hi, hns, b6, ht6, hp6, e6, A6, hm6, _, S6, R6⟩
      have hi6 : i < 6 := (List.getElem?_eq_some_iff.mp hv).1
      obtain ⟨c, hc, hcb⟩ : ∃ c : Bool, sgnV[i]? = some (.bl c) ∧ c = decide (2 + i + 1 = 3 ∨ 2 + i + 1 = 7) := by
        match i, hi6 with
        | 0, _ => exact ⟨true, rfl, rfl⟩
        | 1, _ => exact ⟨false, rfl, rfl⟩
        | 2, _ => exact ⟨false, rfl, rfl⟩
        | 3, _ => exact ⟨false, rfl, rfl⟩
        | 4, _ => exact ⟨true, rfl, rfl⟩
        | 5, _ => exact ⟨false, rfl, rfl⟩
      rw [hc] at hv
      obtain rfl : V.bl c = v := Option.some.inj hv
      obtain ⟨dx6, pc6, hk6, hpc6⟩ := id R6.ex
      obtain ⟨p6, hp6k⟩ : ∃ p6, p6 = k + L.length + (numsR ns).length := ⟨_, rfl⟩
      rw [← hp6k] at e6 A6 S6 R6 hk6
      refine ⟨_, rfl, _, _, _, rfl, hk6, rd_no _ _ _ (by decide +kernel) (by decide +kernel) (by decide +kernel), r, _, z, p6, rfl, R6, by decide +kernel, A6.le zo, fun x l hl hx v H7 b7 R7 => ?_, fun hno => (qe.mono b6 R6) _ (fault_sp (by omega) (by omega) A6 S6 hno)⟩
      have hx : x = 32 := by rw [c32] at hx; exact List.mem_singleton.mp hx
      subst hx
      have A7 : At z (p6 + 1) ⟨d, 2 + i + 1, 0, 0⟩ := by
        have h := A6.next hl (step_sp (by omega) (by omega) hm6)
        rw [if_neg (by omega)] at h
        exact h
      have hp7 := b7 _ _ hpr hp6
      have ht7 := b7 _ _ htr ht6
      have b67 := b6.trans b7
      obtain ⟨dx7, pc7, hk7, hpc7⟩ := id R7.ex
      refine ⟨_, rfl, .inl ⟨rfl, _, SqL.of hp7⟩, _, rfl, _, _, _, rfl, hk7, rd_no _ _ _ (by decide +kernel) (by decide +kernel) (by decide +kernel), _, rfl, r, c, z, p6 + 1, d, 2 + i + 1, rfl, R7, zo.le, A7, by omega, by omega, hcb, fun n m' sz' H8 on pn en A8 hm8 S8 b8 R8 => ?_, qe.mono b67 R7⟩
      have hp8 := b8 _ _ hpr hp7
      have ht8 := b8 _ _ htr ht7
      refine ⟨p, _, _, rfl, rfl, hp8, ?_, ?_⟩
      · rw [List.length_cons, List.length_cons, List.length_map]
        exact Nat.lt_of_lt_of_le (show ns.length + 1 + 1 < 9 by omega) (by decide)
      · have enx : numsR (ns ++ [n]) = numsR ns ++ (32 :: numT n) := by
          rw [numsR_app]
          show _ ++ (32 :: (numT n ++ [])) = _
          rw [List.append_nil]
        have ep : k + L.length + (numsR (ns ++ [n])).length = p6 + 1 + (numT n).length := by
          rw [enx, List.length_append, List.length_cons]
          omega
        refine ⟨_, ns ++ [n], m', sz', rfl, by rw [List.length_append, hi]; rfl, fun j n' hj => ?_, (b67.trans b8).updN np0, by rw [upd_ne htp]; exact ht8, by rw [upd_same, List.map_append]; rfl, ?_, ?_, by omega, fun _ => hm8, ?_, ?_⟩
        · by_cases hjn : j < ns.length
          · rw [List.getElem?_append_left hjn] at hj
            exact hns j n' hj
          · rw [List.getElem?_append_right (by omega)] at hj
            have hj0 : j - ns.length = 0 := by
              have := (List.getElem?_eq_some_iff.mp hj).1
              rw [List.length_singleton] at this
              omega
            rw [hj0] at hj
            obtain rfl : n = n' := Option.some.inj hj
            refine ⟨on, fun h => pn ?_⟩
            rw [hcb]
            exact decide_eq_false (by omega)
        · rw [ep, enx, List.append_assoc, List.cons_append, ← en, e6]
          congr 1
          rw [hl, ← List.drop_drop, hl]
          rfl
        · rw [ep, show 2 + (i + 1) = 2 + i + 1 by omega]
          exact A8
        · rw [ep, show 2 + (i + 1) = 2 + i + 1 by omega]
          exact S8
        · rw [ep]
          exact R8.upd hpr.symm
    · rintro σ H6 ⟨y2, ns, m, sz, rfl, hi, hns, b6, ht6, hp6, e6, A6, hm6, hm8, S6, R6⟩
      have hi : ns.length = 6 := hi
      match ns, hi with
      | [n1, n2, n3, n4, n5, n6], _ =>
        have hh := fun j n h => hns j n h
        have hpos : ∀ {n : Int}, NumOk n → 0 ≤ n → 0 ≤ n ∧ n < 1000000000 := fun {n} o h => by
          rcases o with e | h
          · omega
          · exact h
        obtain ⟨nd, hnd⟩ : ∃ nd, nd = Nd.mk x1 x2 n1 n2 n3 n4 n5 n6 := ⟨_, rfl⟩
        have ewd : wd nd = L ++ numsR [n1, n2, n3, n4, n5, n6] := by rw [wd_six, hnd, hL, List.append_assoc]; rfl
        have ek2 : k + (wd nd).length = k + L.length + (numsR [n1, n2, n3, n4, n5, n6]).length := by rw [ewd, List.length_append]; omega
        refine ⟨_, rfl, q p nd m sz H6 ?_ ?_ ?_ (hm8 (by decide)) ?_ b6 np0 (by rw [hnd]; exact hp6) ?_⟩
        · rw [hnd]
          exact ⟨(hh 0 n1 rfl).1, hpos (hh 1 n2 rfl).1 ((hh 1 n2 rfl).2 (by decide)), hpos (hh 2 n3 rfl).1 ((hh 2 n3 rfl).2 (by decide)), hpos (hh 3 n4 rfl).1 ((hh 3 n4 rfl).2 (by decide)), (hh 4 n5 rfl).1, hpos (hh 5 n6 rfl).1 ((hh 5 n6 rfl).2 (by decide))⟩
        · rw [ek2, ewd, eL, List.append_assoc, ← e6]
        · rw [ek2]
          exact A6
        · rw [ek2]
          exact S6
        · rw [ek2]
          exact R6
/-- behind a node's words, or behind a node -/
def Ready (z : Str) (k : Nat) (d : Int) : Prop := (∃ m sz, At z k ⟨d, 8, m, sz⟩ ∧ (m = 7 ∨ m = 8) ∧ Stuck z k ⟨d, 8, m, sz⟩) ∨ (At z k ⟨d, 9, 0, 0⟩ ∧ 0 < d)
theorem Ready.close {z : Str} {k : Nat} {d : Int} {l : List Nat} (h : Ready z k d) (hl : (cs z).drop k = 41 :: l) : At z (k + 1) ⟨d - 1, 9, 0, 0⟩ := by
  rcases h with ⟨m, sz, A, hm, S⟩ | ⟨A, hd⟩
  · refine A.next hl ?_
    unfold stepA
    rw [if_neg (show ¬ (8 : Nat) = 0 by decide), if_neg (show ¬ (8 : Nat) = 9 by decide), if_neg (fun h => absurd h.1 (by decide)), if_pos ⟨rfl, rfl, hm⟩]
  · refine A.next hl ?_
    unfold stepA
    rw [if_neg (show ¬ (9 : Nat) = 0 by decide), if_pos rfl, if_neg (fun h => by
      rcases h with h | h
      · simp only at h
        omega
      · exact h (.inr rfl)), if_pos rfl]
theorem Ready.space {z : Str} {k : Nat} {d : Int} {l : List Nat} (h : Ready z k d) (hl : (cs z).drop k = 32 :: l) : At z (k + 1) ⟨d, 0, 0, 0⟩ := by
  rcases h with ⟨m, sz, A, hm, S⟩ | ⟨A, hd⟩
  · have h := A.next hl (step_sp (by decide) (by decide) (by omega))
    exact h
  · refine A.next hl ?_
    unfold stepA
    rw [if_neg (show ¬ (9 : Nat) = 0 by decide), if_pos rfl, if_neg (fun h => by
      rcases h with h | h
      · simp only at h
        omega
      · exact h (.inl rfl)), if_neg (by decide)]
theorem Ready.fault {z : Str} {k : Nat} {d : Int} (h : Ready z k d) (hno : ∀ x l, (cs z).drop k = x :: l → ¬ x = 32 ∧ ¬ x = 41) : FaultAt z k := by
  rcases h with ⟨m, sz, A, hm, S⟩ | ⟨A, hd⟩
  · refine ⟨_, A, ?_⟩
    cases hl : (cs z).drop k with
    | nil => exact .inr ⟨rfl, fun h => by have := h.1; simp only at this; omega⟩
    | cons x l => exact .inl ⟨x, l, rfl, S x l hl (hno x l hl).1 fun _ => (hno x l hl).2⟩
  · refine ⟨_, A, ?_⟩
    cases hl : (cs z).drop k with
    | nil => exact .inr ⟨rfl, fun h => by have := h.2; simp only at this; omega⟩
    | cons x l =>
      refine .inl ⟨x, l, rfl, ?_⟩
      have := hno x l hl
      unfold stepA
      rw [if_neg (show ¬ (9 : Nat) = 0 by decide), if_pos rfl, if_pos (.inr (by omega))]
theorem Ready.le {z : Str} {k : Nat} {d : Int} (h : Ready z k d) (o : ZOk z) : k ≤ 1000000 := by
  rcases h with ⟨m, sz, A, hm, S⟩ | ⟨A, hd⟩
  · exact A.le o
  · exact A.le o
theorem At.open {z : Str} {k : Nat} {d : Int} {l : List Nat} (h : At z k ⟨d, 0, 0, 0⟩) (hl : (cs z).drop k = 40 :: l) : At z (k + 1) ⟨d + 1, 1, 0, 0⟩ := h.next hl (by unfold stepA; rw [if_pos rfl, if_pos rfl])
theorem At.noopen {z : Str} {k : Nat} {d : Int} (h : At z k ⟨d, 0, 0, 0⟩) (hno : ∀ x l, (cs z).drop k = x :: l → ¬ x ∈ cs (Str.ofString "(")) : FaultAt z k := by
  refine ⟨_, h, ?_⟩
  cases hl : (cs z).drop k with
  | nil => exact .inr ⟨rfl, fun h => by have := h.1; simp only at this; omega⟩
  | cons x l =>
    refine .inl ⟨x, l, rfl, ?_⟩
    have nx := hno x l hl
    unfold stepA
    rw [if_pos rfl, if_neg (fun e => nx (by rw [e]; decide +kernel))]
def spGoesX (C CE : Addr) : Sp := fun vs H Q E => ∃ (r : Addr) (z : Str) (k : Nat) (d : Int), vs = [.ref r] ∧ RdAt C H r z k ∧ ZOk z ∧ Ready z k d ∧
  (∀ l H', (cs z).drop k = 41 :: l → At z (k + 1) ⟨d - 1, 9, 0, 0⟩ → But r H H' → RdAt C H' r z (k + 1) → Q (.bl false) H') ∧ (∀ l H', (cs z).drop k = 32 :: 40 :: l → At z (k + 2) ⟨d + 1, 1, 0, 0⟩ → But r H H' → RdAt C H' r z (k + 2) → Q (.bl true) H') ∧ Errs CE r H E z
theorem ok_goesX (T : Txt K mg) : FnOk P w K mg base (L2.CX P w) 6 T.a_Reader_goes_on T.fd_Reader_goes_on ["self"] (spGoesX T.C_Reader T.C_TreeError) := by
  have G_Reader__char : FnOk P w K mg base CX0 1 T.a_Reader__char T.fd_Reader__char ["self"] (spChar T.C_Reader) := ok_char T
  have G_Reader_sign : FnOk P w K mg base (L2.CX P w) 5 T.a_Reader_sign T.fd_Reader_sign ["self", "char"] (spPassX T.C_Reader T.C_TreeError) := ok_signX T
  refine T.F_Reader_goes_on.okX sc_Reader_goes_on (fun vs H Q E h => ?_) (fun cdv A outer s H vs Q E hr h => ?_)
  · obtain ⟨r, z, k, d, rfl, _⟩ := h
    rfl
  · have hr_Reader__char : Room 1 _ := hr.mono (by decide)
    have hr_Reader_sign : Room 5 _ := hr
    obtain ⟨r, z, k, d, rfl, hR, zo, rdy, qf, qt, qe⟩ := h
    refine ⟨_, (pss_cons (ps_if (pt_cmpR op_eq (pe_meth0 (pv 0) T.CL_Reader T.ME_Reader_char G_Reader__char hr_Reader__char T.b_Reader__char .nil pass0) pe_str (nomark _)) (pss_cons (ps_fldaug (pv 0) pe_int in_add)
      (pss_one (ps_ret pe_bl))) pss_nil)
      (pss_cons (ps_expr (pe_meth (pv 0) T.CL_Reader T.ME_Readersign G_Reader_sign hr_Reader_sign T.b_Reader_sign .nil (passes_call (takes_of rfl rfl rfl rfl) (fun _ _ _ _ z => z)) (pa_cons pe_str pa_nil)))
      (pss_cons (ps_expr (pe_meth (pv 0) T.CL_Reader T.ME_Readersign G_Reader_sign hr_Reader_sign T.b_Reader_sign .nil (passes_call (takes_of rfl rfl rfl rfl) (fun _ _ _ _ z => z)) (pa_cons pe_str pa_nil)))
      (pss_one (ps_ret pe_bl))))), ?_⟩
    obtain ⟨dx, pc, hk, hpc⟩ := id hR.ex
    have no : ∀ {m : Str}, ¬ m = "_plain_chars" → ¬ m = "_place" → ¬ m = "_notation" → (rdf z (k : Int) pc).lookup m = none := fun h1 h2 h3 => rd_no _ _ _ h1 h2 h3
    have e41 := fun x => sg_dec x 41 ")" (by decide +kernel)
    have c32 : cs (Str.ofString " ") = [32] := by decide +kernel
    have c40 : cs (Str.ofString "(") = [40] := by decide +kernel
    refine ⟨_, rfl, _, _, _, rfl, hk, no (by decide +kernel) (by decide +kernel) (by decide +kernel), r, z, k, rfl, hR, fun c hc => ?_⟩
    by_cases hq : ∃ l, (cs z).drop k = 41 :: l
    · obtain ⟨l, hl⟩ := hq
      obtain rfl := char_some hc hl
      refine ⟨rfl, _, rfl, itT (by rw [e41]; rfl) ?_⟩
      refine ⟨_, rfl, r, _, dx, _, .int (k : Int), rfl, hk, T.CL_Reader, T.NA_Reader__place, rd_place _ _ _, _, _, rfl, rfl, dx, _, hk, rdf_len _ _ _, qf l _ hl (rdy.close hl) But.set ⟨⟨dx, pc, ?_, hpc⟩, hR.le⟩⟩
      rw [upd_same, rd_put, show (k : Int) + 1 = ((k + 1 : Nat) : Int) by omega]
    · refine ⟨rfl, _, rfl, itF ?_ ?_⟩
      · cases hl : (cs z).drop k with
        | nil =>
          obtain rfl := char_none hc hl
          decide +kernel
        | cons x l =>
          obtain rfl := char_some hc hl
          rw [e41]
          exact decide_eq_false fun e => hq ⟨l, by rw [hl, e]⟩
      refine ⟨_, rfl, _, _, _, rfl, hk, no (by decide +kernel) (by decide +kernel) (by decide +kernel), r, _, z, k, rfl, hR, by decide +kernel, rdy.le zo, fun x l hl hx v H1 b1 R1 => ?_, fun hno => qe k (rdy.fault fun x l hl => ⟨fun e => hno x l hl (by rw [e, c32]; simp), fun e => hq ⟨l, by rw [hl, e]⟩⟩)⟩
      have hx : x = 32 := by rw [c32] at hx; exact List.mem_singleton.mp hx
      subst hx
      have A1 := rdy.space hl
      obtain ⟨dx1, pc1, hk1, hpc1⟩ := id R1.ex
      refine ⟨_, rfl, _, _, _, rfl, hk1, rd_no _ _ _ (by decide +kernel) (by decide +kernel) (by decide +kernel), r, _, z, k + 1, rfl, R1, by decide +kernel, A1.le zo, fun x l1 hl1 hx v H2 b2 R2 => ?_, fun hno => (qe.mono b1 R1) _ (A1.noopen hno)⟩
      have hx : x = 40 := by rw [c40] at hx; exact List.mem_singleton.mp hx
      subst hx
      have e2 : (cs z).drop k = 32 :: 40 :: l1 := by
        have : (cs z).drop (k + 1) = l := by rw [← List.drop_drop, hl]; rfl
        rw [hl, ← this, hl1]
      exact qt l1 H2 e2 (A1.open hl1) (b1.trans b2) R2
def spFinX (C CE : Addr) : Sp := fun vs H Q E => ∃ (r : Addr) (z : Str) (k : Nat), vs = [.ref r] ∧ RdAt C H r z k ∧ ZOk z ∧ At z k ⟨0, 9, 0, 0⟩ ∧ ((cs z).drop k = [] → ∀ v, Q v H) ∧ Errs CE r H E z
theorem ok_finX (T : Txt K mg) : FnOk P w K mg base (L2.CX P w) 4 T.a_Reader_finish T.fd_Reader_finish ["self"] (spFinX T.C_Reader T.C_TreeError) := by
  have G_Reader__char : FnOk P w K mg base CX0 1 T.a_Reader__char T.fd_Reader__char ["self"] (spChar T.C_Reader) := ok_char T
  have G_TreeError_init : FnOk P w K mg base CX0 2 T.a_TreeError_init T.fd_TreeError_init ["self", "place"] (spInit1 "place" T.C_TreeError okNum) := ok_TreeError_init T
  refine T.F_Reader_finish.okX sc_Reader_finish (fun vs H Q E h => ?_) (fun cdv A outer s H vs Q E hr h => ?_)
  · obtain ⟨r, z, k, rfl, _⟩ := h
    rfl
  · have hr_Reader__char : Room 1 _ := hr.mono (by decide)
    have hr_TreeError_init : Room 3 _ := hr
    obtain ⟨r, z, k, rfl, hR, zo, hA, q, qe⟩ := h
    refine ⟨_, (pss_one (ps_if (pt_cmpR op_ne (pe_meth0 (pv 0) T.CL_Reader T.ME_Reader_char G_Reader__char hr_Reader__char T.b_Reader__char .nil pass0) pe_str (nomark _)) (pss_one (ps_raise rfl (takes_of rfl rfl rfl rfl) (pmk_oex T.E_TreeError.oex T.E_TreeError.iC T.E_TreeError.tI G_TreeError_init hr_TreeError_init T.b_TreeError_init .nil pass0 (by rfl) T.E_TreeError.g (pa_cons (pe_fld (pv 0) rfl) pa_nil)))) pss_nil)), ?_⟩
    obtain ⟨dx, pc, hk, hpc⟩ := id hR.ex
    refine ⟨_, rfl, _, _, _, rfl, hk, rd_no _ _ _ (by decide +kernel) (by decide +kernel) (by decide +kernel), r, z, k, rfl, hR, fun c hc => ?_⟩
    cases hl : (cs z).drop k with
    | nil =>
      obtain rfl := char_none hc hl
      refine ⟨rfl, _, rfl, itF (by decide +kernel) ?_⟩
      exact q hl _
    | cons x l =>
      obtain rfl := char_some hc hl
      refine ⟨rfl, _, rfl, itT (by rw [decide_eq_false (sg_ne x)]; rfl) ?_⟩
      refine raise_place T.CL_Reader T.NA_Reader__place hk (hA.le zo) (qe k ⟨_, hA, .inl ⟨x, l, hl, ?_⟩⟩)
      unfold stepA
      rw [if_neg (show ¬ (9 : Nat) = 0 by decide), if_pos rfl, if_pos (.inl rfl)]

/-! ### read_tree of any text -/
def sepF : List Fr → List Nat
  | [] => []
  | _ :: _ => [32]
def preF : List Fr → List Nat
  | [] => []
  | f :: S => preF S ++ (sepF S ++ 40 :: (wd f.d ++ wrL f.bs))
theorem wrL_app : ∀ a b : List Tr, wrL (a ++ b) = wrL a ++ wrL b
  | [], _ => rfl
  | t :: a, b => by
    show 32 :: (t.wr ++ wrL (a ++ b)) = (32 :: (t.wr ++ wrL a)) ++ wrL b
    rw [wrL_app a b, List.cons_append, List.append_assoc]
theorem wrL_ge : ∀ ts : List Tr, ts.length ≤ (wrL ts).length
  | [] => Nat.le_refl _
  | t :: ts => by
    have ih := wrL_ge ts
    show ts.length + 1 ≤ (32 :: (t.wr ++ wrL ts)).length
    rw [List.length_cons, List.length_append]
    omega
theorem preF_ge : ∀ S : List Fr, S.length ≤ (preF S).length
  | [] => Nat.le_refl _
  | f :: S => by
    have ih := preF_ge S
    show S.length + 1 ≤ (preF S ++ (sepF S ++ 40 :: (wd f.d ++ wrL f.bs))).length
    rw [List.length_append, List.length_append, List.length_cons]
    omega
mutual
def TrNum : Tr → Prop
  | .mk _ d ks => NumNd d ∧ TrsNum ks
def TrsNum : List Tr → Prop
  | [] => True
  | t :: ts => TrNum t ∧ TrsNum ts
end
theorem TrsNum.app : ∀ {a : List Tr} {t : Tr}, TrsNum a → TrNum t → TrsNum (a ++ [t])
  | [], _, _, h => ⟨h, True.intro⟩
  | _ :: _, _, h1, h2 => ⟨h1.1, TrsNum.app h1.2 h2⟩
/-- an error with its place; the heap grown -/
def ErrT (C : Addr) (H : Hp) (E : XK) (k : Nat) : Prop := ∀ d H', Same H H' → H d = none → H' d = some (.xd [(("place" : Str), .int (k : Int))]) → E (.ref C) (some d) H'
theorem ErrT.at {C r : Addr} {H H1 : Hp} {E : XK} {k : Nat} (h : ErrT C H E k) (s : Same H H1) (hr : H r = none) : ErrK C r H1 E k := fun d H' b nd hd => h d H' (same_but s hr b) (s.free nd) hd
def spReadX (K : PySem.W.Frag) (C CE : Addr) : Sp := fun vs H Q E => ∃ (z : Str), vs = [.str z] ∧ ZOk z ∧
  (∀ (u : Tr) H', At z (cs z).length ⟨0, 9, 0, 0⟩ → Same H H' → NodeAt K C H' u → TrNum u → u.wr = cs z → Q (.ref u.at) H') ∧ (∀ k, FaultAt z k → ErrT CE H E k)
theorem ok_readX (T : Txt K mg) : FnOk P w K mg base (L2.CX P w) 9 T.a_read_tree T.fd_read_tree ["notation"] (spReadX K T.C_Node T.C_TreeError) := by
  have G_Reader_init : FnOk P w K mg base CX0 1 T.a_Reader_init T.fd_Reader_init ["self", "notation"] (spReaderInit T.C_Reader) := ok_rinit T
  have G_Reader_sign : FnOk P w K mg base (L2.CX P w) 5 T.a_Reader_sign T.fd_Reader_sign ["self", "char"] (spPassX T.C_Reader T.C_TreeError) := ok_signX T
  have G_Reader_words : FnOk P w K mg base (L2.CX P w) 8 T.a_Reader_words T.fd_Reader_words ["self"] (spWordsX T.C_Reader T.C_TreeError) := ok_wordsX T
  have G_Reader_goes_on : FnOk P w K mg base (L2.CX P w) 6 T.a_Reader_goes_on T.fd_Reader_goes_on ["self"] (spGoesX T.C_Reader T.C_TreeError) := ok_goesX T
  have G_node : FnOk P w K mg base CX0 3 T.a_node T.fd_node ["words", "nodes"] (spNodeR K T.C_Node) := ok_node T
  have G_Reader_finish : FnOk P w K mg base (L2.CX P w) 4 T.a_Reader_finish T.fd_Reader_finish ["self"] (spFinX T.C_Reader T.C_TreeError) := ok_finX T
  refine T.F_read_tree.okX sc_read_tree (fun vs H Q E h => ?_) (fun cdv A outer s H vs Q E hr h => ?_)
  · obtain ⟨z, rfl, _⟩ := h
    rfl
  · have hr_Reader_init : Room 2 _ := hr.mono (by decide)
    have hr_Reader_sign : Room 5 _ := hr.mono (by decide)
    have hr_Reader_words : Room 8 _ := hr
    have hr_Reader_goes_on : Room 6 _ := hr.mono (by decide)
    have hr_node : Room 3 _ := hr.mono (by decide)
    have hr_Reader_finish : Room 4 _ := hr.mono (by decide)
    obtain ⟨z, rfl, zo, q, qe⟩ := h
    refine ⟨_, (pss_cons (ps_set (i := 1) sc_read_tree.nd rfl (.inl rfl) (pe_make T.MK_Reader G_Reader_init hr_Reader_init (by rfl) T.G_Reader T.b_Reader_init .nil pass0 (pa_cons (pv 0) pa_nil)))
      (pss_cons (ps_expr (pe_meth (pv 1) T.CL_Reader T.ME_Readersign G_Reader_sign hr_Reader_sign T.b_Reader_sign .nil (passes_call (takes_of rfl rfl rfl rfl) (fun _ _ _ _ z => z)) (pa_cons pe_str pa_nil)))
      (pss_cons (ps_set (i := 2) sc_read_tree.nd rfl (.inl rfl) (pe_lst (pa_cons (pe_tup (pa_cons (pe_meth0 (pv 1) T.CL_Reader T.ME_Readerwords G_Reader_words hr_Reader_words T.b_Reader_words .nil (passes_call (takes_of rfl rfl rfl rfl) (fun _ _ _ _ z => z))) (pa_cons (pe_lst pa_nil) pa_nil))) pa_nil)))
      (pss_one (ps_while (passes_of rfl) (pt_val pe_bl) (pss_cons (ps_if (pt_val (pe_meth0 (pv 1) T.CL_Reader T.ME_Readergoes_on G_Reader_goes_on hr_Reader_goes_on T.b_Reader_goes_on .nil (passes_call (takes_of rfl rfl rfl rfl) (fun _ _ _ _ z => z)))) (pss_cons (ps_expr (pe_bm PySem.F.plainAttrs_list PySem.F.slot_list_append PySem.F.type_list_append mt_append (pv 2) (pa_cons (pe_tup (pa_cons (pe_meth0 (pv 1) T.CL_Reader T.ME_Readerwords G_Reader_words hr_Reader_words T.b_Reader_words .nil (passes_call (takes_of rfl rfl rfl rfl) (fun _ _ _ _ z => z))) (pa_cons (pe_lst pa_nil) pa_nil))) pa_nil)))
      (pss_one ps_continue)) pss_nil)
      (pss_cons (ps_asg (pe_bm0 PySem.F.plainAttrs_list PySem.F.slot_list_pop PySem.F.type_list_pop mt_pop (pv 2)) (pg_tup (by rfl) (pgs_cons (pg_name (i := 3) sc_read_tree.nd rfl (.inl rfl)) (pgs_cons (pg_name (i := 4) sc_read_tree.nd rfl (.inl rfl)) pgs_nil))))
      (pss_cons (ps_set (i := 5) sc_read_tree.nd rfl (.inl rfl) (pe_call G_node hr_node (by rfl) T.g_node T.F_node.kp T.b_node .nil pass0 (pa_cons (pv 3) (pa_cons (pv 4) pa_nil))))
      (pss_cons (ps_if (pt_not (pt_truth (pv 2) (by intro _; rfl))) (pss_cons (ps_expr (pe_meth0 (pv 1) T.CL_Reader T.ME_Readerfinish G_Reader_finish hr_Reader_finish T.b_Reader_finish .nil (passes_call (takes_of rfl rfl rfl rfl) (fun _ _ _ _ z => z))))
      (pss_one (ps_ret (pv 5)))) pss_nil)
      (pss_one (ps_expr (pe_bm PySem.F.plainAttrs_list PySem.F.slot_list_append PySem.F.type_list_append mt_append (pe_ix ix_tup (pe_ix ix_list (pv 2) (pe_un un_neg pe_int) (fun _ _ => rfl)) pe_int (fun _ _ => rfl)) (pa_cons (pv 5) pa_nil))))))))))))), ?_⟩
    have lz : z.length ≤ 4000000 := Nat.le_trans zo.le (by decide)
    have c40 : cs (Str.ofString "(") = [40] := by decide +kernel
    refine ⟨_, rfl, fun r dx hr0 hdx hne => ?_⟩
    have eT : ∀ {H1 : Hp}, Same H H1 → Errs T.C_TreeError r H1 E z := fun s k f => (qe k f).at s hr0
    refine ⟨r, dx, z, rfl, upd_same, fun pc H1 s1 epc => ?_⟩
    have R1 : RdAt T.C_Reader H1 r z 0 := ⟨⟨dx, pc, s1 _ _ (by rw [upd_upd]; exact upd_same), epc⟩, lz⟩
    have s01 : Same H H1 := fun b o e => s1 _ _ (by
      rw [upd_upd, upd_ne (fun z => by rw [z, hr0] at e; cases e), upd_ne (fun z => by rw [z, hdx] at e; cases e)]
      exact e)
    obtain ⟨dx1, pc1, hk1, hpc1⟩ := id R1.ex
    refine ⟨rfl, _, rfl, _, _, _, rfl, hk1, rd_no _ _ _ (by decide +kernel) (by decide +kernel) (by decide +kernel), r, _, z, 0, rfl, R1, by decide +kernel, Nat.zero_le _, fun x l0 hl0 hx v H2 b2 R2 => ?_, fun hno => eT s01 _ ((At.zero z).noopen hno)⟩
    have hx : x = 40 := by rw [c40] at hx; exact List.mem_singleton.mp hx
    subst hx
    have A2 := (At.zero z).open hl0
    have s02 := same_but s01 hr0 b2
    obtain ⟨dx2, pc2, hk2, hpc2⟩ := id R2.ex
    refine ⟨_, rfl, _, _, _, rfl, hk2, rd_no _ _ _ (by decide +kernel) (by decide +kernel) (by decide +kernel), r, z, 0 + 1, 0 + 1, rfl, R2, zo, A2, fun w0 nd0 m0 sz0 H3 nn0 e0 A3 hm0 S3 b3 nw hw R3 => ?_, eT s02⟩
    refine ⟨by show 0 ≤ sizeLine; decide, fun b nb => ?_⟩
    refine ⟨by show 2 ≤ sizeLine; decide, fun g ng => ?_⟩
    refine ⟨by show 1 ≤ sizeLine; decide, fun a na => ?_⟩
    have s03 := same_but s02 hr0 b3
    have sb := same_upd (o := .lst []) nb
    have sg_ := same_upd (o := .tup [.ref w0, .ref b]) ng
    have sa := same_upd (o := .lst [.ref g]) na
    have hb0 : (upd H3 b (.lst [])) b = some (.lst []) := upd_same
    have hg0 : (upd (upd H3 b (.lst [])) g (.tup [.ref w0, .ref b])) g = some (.tup [.ref w0, .ref b]) := upd_same
    have hwb : w0 ≠ b := ne_of_none hw nb
    have hwa : w0 ≠ a := ne_of_none (sg_ _ _ (sb _ _ hw)) na
    have hba : b ≠ a := ne_of_none (sg_ _ _ hb0) na
    have na0 : H a = none := s03.free (sb.free (sg_.free na))
    have nb0 : H b = none := s03.free nb
    obtain ⟨H4, hH4⟩ : ∃ H4, H4 = upd (upd (upd H3 b (.lst [])) g (.tup [.ref w0, .ref b])) a (.lst [.ref g]) := ⟨_, rfl⟩
    rw [← hH4] at sa ⊢
    have s34 : Same H3 H4 := (sb.trans sg_).trans sa
    have ha4 : H4 a = some (.lst [.ref g]) := by rw [hH4]; exact upd_same
    have t3 : (cs z).take (0 + 1 + (wd nd0).length) = preF [⟨g, w0, b, nd0, [], []⟩] := by
      have e1 : (cs z).take (0 + 1) = [40] := by
        rw [List.drop_zero] at hl0
        rw [hl0]
        rfl
      rw [List.take_add, e1, e0, List.take_left]
      show [40] ++ wd nd0 = [] ++ ([] ++ 40 :: (wd nd0 ++ []))
      rw [List.append_nil]
      rfl
    refine while_nat (m0 := (cs z).length - (0 + 1 + (wd nd0).length)) (fun m σ H' => ∃ (F : Fr) (S : List Fr) (k : Nat) (y3 y4 y5 : Option V), σ = [some (.str z), some (.ref r), some (.ref a), y3, y4, y5] ∧ m = (cs z).length - k ∧ Same H H' ∧ RdAt T.C_Reader H' r z k ∧ (cs z).take k = preF (F :: S) ∧ Ready z k (((F :: S).length : Nat) : Int) ∧
        FrsAt K T.C_Node H' a (F :: S) ∧ (∀ f ∈ F :: S, H f.b = none ∧ f.todo = [] ∧ NumNd f.d ∧ TrsNum f.bs))
      (fun _ _ => False)
      ⟨⟨g, w0, b, nd0, [], []⟩, [], _, none, none, none, rfl, rfl, s03.trans s34, R3.same s34, t3, .inl ⟨_, _, A3, hm0, S3⟩, ⟨ha4, fun f hf => ?_, fun f hf => ?_, List.pairwise_singleton _ _, fun f hf => ?_⟩, fun f hf => ?_⟩ ?_ (fun _ _ h => h.elim)
    · rw [List.mem_singleton.mp hf]
      exact ⟨SqT.of (sa _ _ hg0), s34 _ _ hw, (sg_.trans sa) _ _ hb0, True.intro, True.intro⟩
    · rw [List.mem_singleton.mp hf]
      exact ⟨hwa, hba⟩
    · rw [List.mem_singleton.mp hf]
      exact hwb
    · rw [List.mem_singleton.mp hf]
      exact ⟨nb0, rfl, nn0, True.intro⟩
    · rintro m σ H1 ⟨F, S, k, y3, y4, y5, rfl, rfl, sm, R, htk, rdy, FS, nbs⟩
      refine ⟨true, fun Q hQ => ⟨true, rfl, hQ⟩, fun _ => ?_, fun z => (by cases z)⟩
      have lk : k ≤ (cs z).length := by
        rcases rdy with ⟨_, _, A, _⟩ | ⟨A, _⟩
        · exact A.1
        · exact A.1
      have ltk : (preF (F :: S)).length = k := by rw [← htk, List.length_take, Nat.min_eq_left lk]
      have lS := preF_ge (F :: S)
      have lzl : (cs z).length ≤ 1000000 := by rw [← len_cs]; exact zo.le
      obtain ⟨dx1, pc1, hk1, hpc1⟩ := id R.ex
      obtain ⟨fg, fw, fb, fd, fbs, ftodo⟩ := F
      have hF := nbs _ List.mem_cons_self
      obtain ⟨nb1, rfl, nd1, tn1⟩ : H fb = none ∧ ftodo = [] ∧ NumNd fd ∧ TrsNum fbs := hF
      refine ⟨_, rfl, _, _, _, rfl, hk1, rd_no _ _ _ (by decide +kernel) (by decide +kernel) (by decide +kernel), r, z, k, _, rfl, R, zo, rdy, fun l H2 hl A2 b2 R2 => ?_, fun l H2 hl A2 b2 R2 => ?_, eT sm⟩
      · -- a node ends
        refine ⟨false, rfl, iteF ?_⟩
        have FS2 := FS.keep (Keeps.rd R b2) (Ls.rd R b2)
        have sm2 := same_but sm hr0 b2
        have htk2 : (cs z).take (k + 1) = preF (⟨fg, fw, fb, fd, fbs, []⟩ :: S) ++ [41] := by
          rw [List.take_add, htk, hl]
          rfl
        obtain ⟨FS3, FA3⟩ := FS2.pop
        have ha2 : H2 a = some (.lst ((S.reverse.map fun f => V.ref f.g) ++ [.ref fg])) := by
          have e := FS2.ha
          rw [List.reverse_cons, List.map_append] at e
          exact e
        refine ⟨_, rfl, .inl ⟨rfl, _, SqL.of ha2⟩, a, _, .ref fg, rfl, rfl, ha2, by rw [List.length_append, List.length_singleton, Nat.add_sub_cancel, List.getElem?_append_right (Nat.le_refl _), Nat.sub_self]; rfl, ?_⟩
        rw [List.dropLast_concat]
        have sm3 : Same H (upd H2 a (.lst (S.reverse.map fun f => V.ref f.g))) := same_mut sm2 na0
        have R3' : RdAt T.C_Reader (upd H2 a (.lst (S.reverse.map fun f => V.ref f.g))) r z (k + 1) := R2.upd (R2.ne_lst ha2).symm
        obtain ⟨H3, hH3⟩ : ∃ H3, H3 = upd H2 a (.lst (S.reverse.map fun f => V.ref f.g)) := ⟨_, rfl⟩
        rw [← hH3] at FS3 FA3 sm3 R3' ⊢
        obtain ⟨tg, hw3, hb3, ns3, _⟩ := FA3
        refine ⟨fg, _, rfl, tg, rfl, _, _, rfl, _, _, rfl, rfl, ?_⟩
        refine ⟨_, rfl, _, rfl, fw, fb, fd, _, rfl, hw3, hb3, fun p dx p2 H4 s4 np hp htp => ?_⟩
        have FS4 := FS3.keep (Keeps.of s4) (Ls.of s4)
        have R4 := R3'.same s4
        have sm4 := sm3.trans s4
        have nu : NodeAt K T.C_Node H4 (.mk p fd fbs) := ⟨⟨dx, p2, hp, SqT.of htp⟩, NodesAt.keep (Keeps.of s4) ns3⟩
        have tu : TrNum (.mk p fd fbs) := ⟨nd1, tn1⟩
        have wu : (Tr.mk p fd fbs).wr = 40 :: (wd fd ++ (wrL fbs ++ [41])) := rfl
        obtain ⟨dx4, pc4, hk4, hpc4⟩ := id R4.ex
        cases S with
        | nil =>
          refine ⟨_, rfl, false, .inl ⟨_, SqL.of FS4.ha, rfl⟩, iteT ?_⟩
          have A3 : At z (k + 1) ⟨0, 9, 0, 0⟩ := A2
          refine ⟨_, rfl, _, _, _, rfl, hk4, rd_no _ _ _ (by decide +kernel) (by decide +kernel) (by decide +kernel), r, z, k + 1, rfl, R4, zo, A3, fun he v => ?_, eT sm4⟩
          have ek : k + 1 = (cs z).length := by
            have := congrArg List.length he
            rw [List.length_drop, List.length_nil] at this
            have := A3.1
            omega
          refine ⟨_, rfl, q (.mk p fd fbs) H4 (by rw [← ek]; exact A3) sm4 nu tu ?_⟩
          rw [ek, List.take_length] at htk2
          rw [wu, htk2]
          show _ = ([] ++ ([] ++ 40 :: (wd fd ++ wrL fbs))) ++ [41]
          simp only [List.nil_append, List.cons_append, List.append_assoc]
        | cons G S =>
          obtain ⟨gg, gw, gb, gd, gbs, gtodo⟩ := G
          obtain ⟨nbg, rfl, ndg, tng⟩ : H gb = none ∧ gtodo = [] ∧ NumNd gd ∧ TrsNum gbs := nbs _ (List.mem_cons_of_mem _ List.mem_cons_self)
          have e1 : ((⟨gg, gw, gb, gd, gbs, []⟩ :: S : List Fr).reverse.map fun f => V.ref f.g) = (S.reverse.map fun f => V.ref f.g) ++ [.ref gg] := by
            rw [List.reverse_cons, List.map_append]
            rfl
          have ha4 := FS4.ha
          rw [e1] at ha4
          refine ⟨_, rfl, true, .inl ⟨_, SqL.of ha4, by simp⟩, iteF ?_⟩
          obtain ⟨tg4, hw4, hb4, ns4, ok4⟩ := FS4.at_ _ List.mem_cons_self
          have FS5 := FS4.add nu
          refine ⟨_, rfl, _, rfl, a, _, _, _, rfl, rfl, SqL.of ha4, atI_last _ _, ?_⟩
          have lgb : gbs.length ≤ k := by
            rw [← ltk]
            show _ ≤ ((preF S ++ (sepF S ++ 40 :: (wd gd ++ wrL gbs))) ++ _).length
            have := wrL_ge gbs
            simp only [List.length_append, List.length_cons]
            omega
          refine ⟨gg, _, 1, _, rfl, rfl, tg4, atI_nat (j := 1) rfl, .inl ⟨rfl, _, SqL.of hb4⟩, _, rfl, gb, _, _, rfl, rfl, hb4, ?_, ?_⟩
          · rw [List.length_map]
            exact Nat.lt_of_le_of_lt (show gbs.length ≤ 1000000 by omega) (by decide)
          refine ⟨(cs z).length - (k + 1), by have := A2.1; omega, ⟨gg, gw, gb, gd, gbs ++ [Tr.mk p fd fbs], []⟩, S, k + 1, _, _, _, rfl, rfl, same_mut sm4 nbg, R4.upd (R4.ne_lst hb4).symm, ?_, .inr ⟨?_, ?_⟩, FS5, fun f hf => ?_⟩
          · rw [htk2]
            show ((preF S ++ (sepF S ++ 40 :: (wd gd ++ wrL gbs))) ++ ([32] ++ 40 :: (wd fd ++ wrL fbs))) ++ [41] = preF S ++ (sepF S ++ 40 :: (wd gd ++ wrL (gbs ++ [Tr.mk p fd fbs])))
            rw [wrL_app]
            show _ = preF S ++ (sepF S ++ 40 :: (wd gd ++ (wrL gbs ++ (32 :: ((40 :: (wd fd ++ (wrL fbs ++ [41]))) ++ [])))))
            simp only [List.append_assoc, List.cons_append, List.nil_append, List.append_nil]
          · have e2 : (((⟨fg, fw, fb, fd, fbs, []⟩ :: ⟨gg, gw, gb, gd, gbs, []⟩ :: S : List Fr).length : Nat) : Int) - 1 = (((⟨gg, gw, gb, gd, gbs ++ [Tr.mk p fd fbs], []⟩ :: S : List Fr).length : Nat) : Int) := by
              simp only [List.length_cons]
              omega
            rw [e2] at A2
            exact A2
          · simp only [List.length_cons]
            omega
          · rcases List.mem_cons.mp hf with rfl | hf
            · exact ⟨nbg, rfl, ndg, TrsNum.app tng tu⟩
            · exact nbs f (List.mem_cons_of_mem _ (List.mem_cons_of_mem _ hf))
      · -- a child begins
        refine ⟨true, rfl, iteT ?_⟩
        have FS2 := FS.keep (Keeps.rd R b2) (Ls.rd R b2)
        have sm2 := same_but sm hr0 b2
        obtain ⟨dx2, pc2, hk2, hpc2⟩ := id R2.ex
        refine ⟨_, rfl, .inl ⟨rfl, _, SqL.of FS2.ha⟩, _, rfl, _, _, _, rfl, hk2, rd_no _ _ _ (by decide +kernel) (by decide +kernel) (by decide +kernel), r, z, k + 2, _, rfl, R2, zo, A2, fun w1 nd2 m2 sz2 H3 nn2 e2 A3 hm2 S3 b3 nw hw R3 => ?_, eT sm2⟩
        have FS3 := FS2.keep (Keeps.rd R2 b3) (Ls.rd R2 b3)
        have sm3 := same_but sm2 hr0 b3
        refine ⟨by show 0 ≤ sizeLine; decide, fun b1 nb1' => ?_⟩
        refine ⟨by show 2 ≤ sizeLine; decide, fun g1 ng1 => ?_⟩
        have sb1 := same_upd (o := .lst []) nb1'
        have sg1 := same_upd (o := .tup [.ref w1, .ref b1]) ng1
        have hb1 : (upd H3 b1 (.lst [])) b1 = some (.lst []) := upd_same
        have hg1 : (upd (upd H3 b1 (.lst [])) g1 (.tup [.ref w1, .ref b1])) g1 = some (.tup [.ref w1, .ref b1]) := upd_same
        have s35 := sb1.trans sg1
        have FS5 := FS3.keep (Keeps.of s35) (Ls.of s35)
        have nw0 : ∀ f ∈ (⟨fg, fw, fb, fd, fbs, []⟩ :: S : List Fr), b1 ≠ f.w ∧ b1 ≠ f.b := fun f hf => by
          have h := FS3.at_ f hf
          exact ⟨(ne_of_none h.2.1 nb1').symm, (ne_of_none h.2.2.1 nb1').symm⟩
        have hba1 : b1 ≠ a := (ne_of_none FS3.ha nb1').symm
        have hwa1 : w1 ≠ a := (ne_of_none FS2.ha nw).symm
        have hwb1 : w1 ≠ b1 := ne_of_none hw nb1'
        have FS6 := FS5.push (td := []) (SqT.of hg1) (s35 _ _ hw) (sg1 _ _ hb1) True.intro hwa1 hba1 hwb1 nw0
        have lst : ((⟨fg, fw, fb, fd, fbs, []⟩ :: S : List Fr).reverse.map fun f => V.ref f.g).length < sizeLine := by
          rw [List.length_map, List.length_reverse]
          exact Nat.lt_of_le_of_lt (show _ ≤ 1000000 by omega) (by decide)
        refine ⟨a, _, _, rfl, rfl, FS5.ha, lst, ?_⟩
        have l3 := A3.1
        refine ⟨(cs z).length - (k + 2 + (wd nd2).length), by omega, ⟨g1, w1, b1, nd2, [], []⟩, ⟨fg, fw, fb, fd, fbs, []⟩ :: S, k + 2 + (wd nd2).length, _, _, _, rfl, rfl, same_mut (sm3.trans s35) na0, (R3.same s35).upd (R3.ne_lst FS3.ha).symm, ?_, .inl ⟨m2, sz2, ?_, hm2, ?_⟩, FS6, fun f hf => ?_⟩
        · have e3 : (cs z).take (k + 2) = preF (⟨fg, fw, fb, fd, fbs, []⟩ :: S) ++ [32, 40] := by
            rw [List.take_add, htk, hl]
            rfl
          rw [List.take_add, e3, e2, List.take_left]
          show _ = preF (⟨fg, fw, fb, fd, fbs, []⟩ :: S) ++ ([32] ++ 40 :: (wd nd2 ++ []))
          simp only [List.append_assoc, List.cons_append, List.nil_append, List.append_nil]
        · have e4 : (((⟨fg, fw, fb, fd, fbs, []⟩ :: S : List Fr).length : Nat) : Int) + 1 = (((⟨g1, w1, b1, nd2, [], []⟩ :: ⟨fg, fw, fb, fd, fbs, []⟩ :: S : List Fr).length : Nat) : Int) := by
            simp only [List.length_cons]
            omega
          rw [← e4]
          exact A3
        · have e4 : (((⟨fg, fw, fb, fd, fbs, []⟩ :: S : List Fr).length : Nat) : Int) + 1 = (((⟨g1, w1, b1, nd2, [], []⟩ :: ⟨fg, fw, fb, fd, fbs, []⟩ :: S : List Fr).length : Nat) : Int) := by
            simp only [List.length_cons]
            omega
          rw [← e4]
          exact S3
        · rcases List.mem_cons.mp hf with rfl | hf
          · exact ⟨sm3.free nb1', rfl, nn2, True.intro⟩
          · exact nbs f hf

/-! ### tests, told by what they ask -/
def Ts (tt : L2.TT) (σ : L2.St) (H : Hp) (A : Prop) : Prop := ∀ Q : Bool → Hp → Prop, (∀ c, (c = true ↔ A) → Q c H) → tt σ H Q
theorem Ts.imp {tt : L2.TT} {σ : L2.St} {H : Hp} {A B : Prop} (h : Ts tt σ H A) (e : A ↔ B) : Ts tt σ H B := fun Q q => h Q fun c i => q c (i.trans e)
theorem Ts.and {t u : L2.TT} {σ : L2.St} {H : Hp} {A B : Prop} (a : Ts t σ H A) (b : A → Ts u σ H B) : Ts (tAnd t u) σ H (A ∧ B) := fun Q q => a _ fun c i => by
  cases c
  · exact iteF (q false ⟨fun h => (by cases h), fun h => i.mpr h.1⟩)
  · exact iteT (b (i.mp rfl) _ fun d j => q d ⟨fun h => ⟨i.mp rfl, j.mp h⟩, fun h => j.mpr h.2⟩)
theorem Ts.or {t u : L2.TT} {σ : L2.St} {H : Hp} {A B : Prop} (a : Ts t σ H A) (b : ¬ A → Ts u σ H B) : Ts (tOr t u) σ H (A ∨ B) := fun Q q => a _ fun c i => by
  cases c
  · exact iteF (b (fun h => by cases i.mpr h) _ fun d j => q d ⟨fun h => .inr (j.mp h), fun h => j.mpr (h.resolve_left fun h => by cases i.mpr h)⟩)
  · exact iteT (q true ⟨fun _ => .inl (i.mp rfl), fun _ => rfl⟩)
theorem Ts.not {t : L2.TT} {σ : L2.St} {H : Hp} {A : Prop} (a : Ts t σ H A) : Ts (tNot t) σ H (¬ A) := fun Q q => a _ fun c i => q (!c) (by
  cases c
  · exact ⟨fun _ h => (by cases i.mpr h), fun _ => rfl⟩
  · exact ⟨fun h => (by cases h), fun h => absurd (i.mp rfl) h⟩)
theorem ts_if {tt : L2.TT} {a c : L2.TS} {D : L2.Ends} {σ : L2.St} {H : Hp} {A : Prop} (h : Ts tt σ H A) (ha : A → a { D with nx := fun σ2 H2 => c D σ2 H2 } σ H) (hb : ¬ A → c D σ H) : tSeq (tIfS tt a tNext) c D σ H := h _ fun b i => by
  cases b
  · exact iteF (hb fun h => by cases i.mpr h)
  · exact iteT (ha (i.mp rfl))
theorem ts_ite {tt : L2.TT} {a b : L2.TS} {D : L2.Ends} {σ : L2.St} {H : Hp} {A : Prop} (h : Ts tt σ H A) (ha : A → a D σ H) (hb : ¬ A → b D σ H) : tIfS tt a b D σ H := h _ fun b i => by
  cases b
  · exact iteF (hb fun h => by cases i.mpr h)
  · exact iteT (ha (i.mp rfl))
theorem ts_eqN (n : Nat) {i m : Nat} {z : Int} {σ : L2.St} {H : Hp} (h : σ[i]? = some (some (.int (m : Int)))) (hz : z = ((n : Nat) : Int) := by rfl) : Ts (tTest (tOp rEq (tVar i) (tC (V.int z)))) σ H (m = n) := fun Q q => ⟨_, h, rfl, _, rfl, q _ (by
  rw [decide_eq_true_eq, hz]
  exact ⟨fun e => by injection e with e; omega, fun e => by rw [e]⟩)⟩
theorem ts_eqI {i : Nat} {m z : Int} {σ : L2.St} {H : Hp} (h : σ[i]? = some (some (.int m))) : Ts (tTest (tOp rEq (tVar i) (tC (V.int z)))) σ H (m = z) := fun Q q => ⟨_, h, rfl, _, rfl, q _ (by
  rw [decide_eq_true_eq]
  exact ⟨fun e => by injection e, fun e => by rw [e]⟩)⟩
theorem ts_eqC (n : Nat) {i c : Nat} {x : Str} {σ : L2.St} {H : Hp} (h : σ[i]? = some (some (.str (sg c)))) (hx : x = sg n) : Ts (tTest (tOp rEq (tVar i) (tC (V.str x)))) σ H (c = n) := fun Q q => ⟨_, h, rfl, _, rfl, q _ (by
  rw [sg_dec c n x hx, decide_eq_true_eq])⟩
theorem ts_neC (n : Nat) {i c : Nat} {x : Str} {σ : L2.St} {H : Hp} (h : σ[i]? = some (some (.str (sg c)))) (hx : x = sg n) : Ts (tTest (tOp rNe (tVar i) (tC (V.str x)))) σ H (¬ c = n) := fun Q q => ⟨_, h, rfl, _, rfl, q _ (by
  rw [sg_dec c n x hx]
  simp)⟩
theorem ts_ltI {i : Nat} {m z : Int} {σ : L2.St} {H : Hp} (h : σ[i]? = some (some (.int m))) : Ts (tTest (tOp (rI0 fun i j => .bl (decide (i < j))) (tVar i) (tC (V.int z)))) σ H (m < z) := fun Q q => ⟨_, h, _, _, rfl, rfl, _, rfl, q _ decide_eq_true_iff⟩
theorem ts_gtI {i : Nat} {m z : Int} {σ : L2.St} {H : Hp} (h : σ[i]? = some (some (.int m))) : Ts (tTest (tOp (rI0 fun i j => .bl (decide (j < i))) (tVar i) (tC (V.int z)))) σ H (z < m) := fun Q q => ⟨_, h, _, _, rfl, rfl, _, rfl, q _ decide_eq_true_iff⟩
theorem ts_inC {i c : Nat} {x : Str} {σ : L2.St} {H : Hp} (h : σ[i]? = some (some (.str (sg c)))) : Ts (tTest (tOp (fun x y H Q => ∃ (c : Nat) (z : Str), x = V.str ⟨#[c]⟩ ∧ y = V.str z ∧ Q (V.bl (decide (c ∈ z.cps.toList))) H) (tVar i) (tC (V.str x)))) σ H (c ∈ cs x) := fun Q q => ⟨_, h, c, x, rfl, rfl, _, rfl, q _ decide_eq_true_iff⟩
theorem ts_niC {i c : Nat} {x : Str} {σ : L2.St} {H : Hp} (h : σ[i]? = some (some (.str (sg c)))) : Ts (tTest (tOp (fun x y H Q => ∃ (c : Nat) (z : Str), x = V.str ⟨#[c]⟩ ∧ y = V.str z ∧ Q (V.bl (!decide (c ∈ z.cps.toList))) H) (tVar i) (tC (V.str x)))) σ H (¬ c ∈ cs x) := fun Q q => ⟨_, h, c, x, rfl, rfl, _, rfl, q _ (by simp)⟩
theorem ts_inV {i j c : Nat} {x : Str} {σ : L2.St} {H : Hp} (h : σ[i]? = some (some (.str (sg c)))) (h2 : σ[j]? = some (some (.str x))) : Ts (tTest (tOp (fun x y H Q => ∃ (c : Nat) (z : Str), x = V.str ⟨#[c]⟩ ∧ y = V.str z ∧ Q (V.bl (decide (c ∈ z.cps.toList))) H) (tVar i) (tVar j))) σ H (c ∈ cs x) := fun Q q => ⟨_, h, _, h2, c, x, rfl, rfl, _, rfl, q _ decide_eq_true_iff⟩

/-! ### the law's own reader -/
def nextV (slot mood size c : Nat) : Int := match nextM slot mood size c with
  | some m => (m : Int)
  | none => -1
def spNext : Sp := fun vs H Q _ => ∃ (slot mood size c : Nat), vs = [.int (slot : Int), .int (mood : Int), .int (size : Int), .str (sg c)] ∧ Q (.int (nextV slot mood size c)) H
theorem ok_law_next (T : Txt K mg) : FnOk P w K mg base CX0 1 T.a_law_next T.fd_law_next ["slot", "mood", "size", "char"] spNext := by
  refine T.F_law_next.ok sc_law_next (fun vs H Q E h => ?_) (fun cdv A outer s H vs Q E hr h => ?_)
  · obtain ⟨slot, mood, size, c, rfl, _⟩ := h
    rfl
  · obtain ⟨slot, mood, size, c, rfl, q⟩ := h
    refine ⟨_, (pss_cons (ps_set (i := 4) sc_law_next.nd rfl (.inl rfl) pe_str)
      (pss_cons (ps_set (i := 5) sc_law_next.nd rfl (.inl rfl) pe_str)
      (pss_cons (ps_if (pt_cmpR op_gt (pv 0) pe_int (nomark _)) (pss_cons (ps_if (PW.pt (pw_and (pt_cmpR op_eq (pv 1) pe_int (nomark _)) (pw_and (pt_cmpR op_eq (pv 3) pe_str (nomark _)) (pw_and1 (PW.pt (pw_or (pt_cmpR op_eq (pv 0) pe_int (nomark _)) (pw_or1 (pt_cmpR op_eq (pv 0) pe_int (nomark _))))))))) (pss_one (ps_ret pe_int)) pss_nil)
      (pss_cons (ps_if (PW.pt (pw_or (PW.pt (pw_and (pt_cmpR op_eq (pv 1) pe_int (nomark _)) (pw_and1 (pt_cmpR op_eq (pv 3) pe_str (nomark _))))) (pw_or1 (PW.pt (pw_and (pt_cmpR op_eq (pv 1) pe_int (nomark _)) (pw_and1 (pt_cmpR op_eq (pv 3) pe_str (nomark _)))))))) (pss_one (ps_ret pe_int)) pss_nil)
      (pss_cons (ps_if (PW.pt (pw_and (PW.pt (pw_or (pt_cmpR op_eq (pv 1) pe_int (nomark _)) (pw_or1 (pt_cmpR op_eq (pv 1) pe_int (nomark _))))) (pw_and (pt_cmpR op_lt (pv 2) pe_int (nomark _)) (pw_and1 (pt_cmpR op_in_sign (pv 3) (pv 5) rfl))))) (pss_one (ps_ret pe_int)) pss_nil)
      (pss_one (ps_ret (pe_un un_neg pe_int)))))) pss_nil)
      (pss_cons (ps_if (PW.pt (pw_or (PW.pt (pw_and (pt_cmpR op_eq (pv 1) pe_int (nomark _)) (pw_and1 (pt_cmpR op_in_sign (pv 3) (pv 4) rfl)))) (pw_or1 (PW.pt (pw_and (pt_cmpR op_eq (pv 1) pe_int (nomark _)) (pw_and1 (pt_cmpR op_in_sign (pv 3) (pe_op op_add_str (pe_op op_add_str (pv 4) (pv 5)) pe_str) rfl))))))) (pss_one (ps_ret pe_int)) pss_nil)
      (pss_cons (ps_if (PW.pt (pw_and (pt_cmpR op_eq (pv 1) pe_int (nomark _)) (pw_and1 (pt_cmpR op_eq (pv 3) pe_str (nomark _))))) (pss_one (ps_ret pe_int)) pss_nil)
      (pss_cons (ps_if (PW.pt (pw_and (PW.pt (pw_or (pt_cmpR op_eq (pv 1) pe_int (nomark _)) (pw_or1 (pt_cmpR op_eq (pv 1) pe_int (nomark _))))) (pw_and1 (pt_cmpR op_eq (pv 3) pe_str (nomark _))))) (pss_one (ps_ret pe_int)) pss_nil)
      (pss_cons (ps_if (PW.pt (pw_and (pt_cmpR op_eq (pv 1) pe_int (nomark _)) (pw_and1 (pt_cmpR op_eq (pv 3) pe_str (nomark _))))) (pss_one (ps_ret pe_int)) pss_nil)
      (pss_cons (ps_if (PW.pt (pw_and (pt_cmpR op_eq (pv 1) pe_int (nomark _)) (pw_and1 (pt_cmpR op_in_sign (pv 3) pe_str rfl)))) (pss_one (ps_ret pe_int)) pss_nil)
      (pss_cons (ps_if (PW.pt (pw_and (PW.pt (pw_or (pt_cmpR op_eq (pv 1) pe_int (nomark _)) (pw_or1 (pt_cmpR op_eq (pv 1) pe_int (nomark _))))) (pw_and (pt_cmpR op_ge_str (pv 3) pe_str (nomark _)) (pw_and1 (pt_cmpR op_notIn_sign (pv 3) pe_str rfl))))) (pss_one (ps_ret pe_int)) pss_nil)
      (pss_one (ps_ret (pe_un un_neg pe_int)))))))))))), ?_⟩
    have goal : ∀ v : Int, nextV slot mood size c = v → Q (.int v) H := fun v e => by rw [← e]; exact q
    clear q
    refine ts_if (ts_gtI rfl) (fun h1 => ?_) (fun h1 => ?_)
    · have h1 : 2 < slot := by omega
      refine ts_if ((ts_eqN 0 rfl).and fun _ => (ts_eqC 45 rfl (by decide +kernel)).and fun _ => (ts_eqN 3 rfl).or fun _ => ts_eqN 7 rfl) (fun h2 => ?_) (fun h2 => ?_)
      · exact goal _ (by unfold nextV nextM; rw [if_pos h1, if_pos h2]; rfl)
      refine ts_if (((ts_eqN 6 rfl).and fun _ => ts_eqC 49 rfl (by decide +kernel)).or fun _ => (ts_eqN 0 rfl).and fun _ => ts_eqC 48 rfl (by decide +kernel)) (fun h3 => ?_) (fun h3 => ?_)
      · exact goal _ (by unfold nextV nextM; rw [if_pos h1, if_neg h2, if_pos h3]; rfl)
      refine ts_if (((ts_eqN 0 rfl).or fun _ => ts_eqN 8 rfl).and fun _ => (ts_ltI rfl).and fun _ => ts_inV rfl rfl) (fun h4 => ?_) (fun h4 => ?_)
      · exact goal _ (by unfold nextV nextM; rw [if_pos h1, if_neg h2, if_neg h3, if_pos ⟨h4.1, by have := h4.2.1; omega, h4.2.2⟩]; rfl)
      · exact ⟨_, rfl, goal (-1) (by unfold nextV nextM; rw [if_pos h1, if_neg h2, if_neg h3, if_neg (fun h => h4 ⟨h.1, by have := h.2.1; omega, h.2.2⟩)])⟩
    · have h1 : ¬ 2 < slot := by omega
      refine ts_if ((Ts.and (B := c ∈ cs lettS) (ts_eqN 0 rfl) fun _ => ts_inV rfl rfl).or fun _ => Ts.and (B := c ∈ cs nameS) (ts_eqN 1 rfl) fun _ => ?_) (fun h2 => ?_) (fun h2 => ?_)
      · refine fun Q q => ⟨_, rfl, _, rfl, _, rfl, _, _, rfl, rfl, by decide +kernel, _, _, rfl, rfl, by decide +kernel, c, _, rfl, rfl, _, rfl, q _ ?_⟩
        rw [decide_eq_true_eq, show (Str.ofString "abcdefghijklmnopqrstuvwxyz" ++ Str.ofString "0123456789" ++ Str.ofString "_~" : Str) = nameS by decide +kernel]
      · exact goal _ (by unfold nextV nextM; rw [if_neg h1, if_pos h2]; rfl)
      refine ts_if ((ts_eqN 0 rfl).and fun _ => ts_eqC 34 rfl (by decide +kernel)) (fun h3 => ?_) (fun h3 => ?_)
      · exact goal _ (by unfold nextV nextM; rw [if_neg h1, if_neg h2, if_pos h3]; rfl)
      refine ts_if (((ts_eqN 2 rfl).or fun _ => ts_eqN 3 rfl).and fun _ => ts_eqC 92 rfl (by decide +kernel)) (fun h4 => ?_) (fun h4 => ?_)
      · exact goal _ (by unfold nextV nextM; rw [if_neg h1, if_neg h2, if_neg h3, if_pos h4]; rfl)
      refine ts_if ((ts_eqN 3 rfl).and fun _ => ts_eqC 34 rfl (by decide +kernel)) (fun h5 => ?_) (fun h5 => ?_)
      · exact goal _ (by unfold nextV nextM; rw [if_neg h1, if_neg h2, if_neg h3, if_neg h4, if_pos h5]; rfl)
      refine ts_if ((ts_eqN 4 rfl).and fun _ => ts_inC rfl) (fun h6 => ?_) (fun h6 => ?_)
      · exact goal _ (by unfold nextV nextM; rw [if_neg h1, if_neg h2, if_neg h3, if_neg h4, if_neg h5, if_pos h6]; rfl)
      refine ts_if (((ts_eqN 2 rfl).or fun _ => ts_eqN 3 rfl).and fun _ => Ts.and (A := 32 ≤ c) (fun Q q => ⟨_, rfl, _, _, rfl, rfl, _, rfl, q _ ?_⟩) fun _ => (ts_niC rfl).imp (B := ¬ (c = 34 ∨ c = 96)) ?_) (fun h7 => ?_) (fun h7 => ?_)
      · rw [show (Str.ofString " ").cps.toList = [32] by decide +kernel]
        show (!decide ([c] < [32])) = true ↔ _
        simp [List.cons_lt_cons_iff]
      · rw [show cs (Str.ofString "\"`") = [34, 96] by decide +kernel]
        simp
      · exact goal _ (by unfold nextV nextM; rw [if_neg h1, if_neg h2, if_neg h3, if_neg h4, if_neg h5, if_neg h6, if_pos h7]; rfl)
      · exact ⟨_, rfl, goal (-1) (by unfold nextV nextM; rw [if_neg h1, if_neg h2, if_neg h3, if_neg h4, if_neg h5, if_neg h6, if_neg h7])⟩
theorem inI4 {m : Nat} : inV (.int (m : Int)) [.int 1, .int 5, .int 7, .int 8] = true ↔ (m = 1 ∨ m = 5 ∨ m = 7 ∨ m = 8) := by
  unfold inV
  simp only [List.any_cons, List.any_nil, Bool.or_false, Bool.or_eq_true]
  have e : ∀ a b : Int, eqV (.int a) (.int b) = true ↔ b = a := fun a b => by
    show (a == b) = true ↔ _
    rw [beq_iff_eq]
    exact ⟨Eq.symm, Eq.symm⟩
  rw [e, e, e, e]
  omega
theorem inI2 {m : Nat} : inV (.int (m : Int)) [.int 7, .int 8] = true ↔ (m = 7 ∨ m = 8) := by
  unfold inV
  simp only [List.any_cons, List.any_nil, Bool.or_false, Bool.or_eq_true]
  have e : ∀ a b : Int, eqV (.int a) (.int b) = true ↔ b = a := fun a b => by
    show (a == b) = true ↔ _
    rw [beq_iff_eq]
    exact ⟨Eq.symm, Eq.symm⟩
  rw [e, e]
  omega
/-- the same, the heap grown -/
theorem tsx_ite {tt : L2.TT} {a b : L2.TS} {D : L2.Ends} {σ : L2.St} {H : Hp} {A : Prop} (h : ∀ Q : Bool → Hp → Prop, (∀ c H', Same H H' → (c = true ↔ A) → Q c H') → tt σ H Q) (ha : A → ∀ H', Same H H' → a D σ H') (hb : ¬ A → ∀ H', Same H H' → b D σ H') : tIfS tt a b D σ H := h _ fun b H' s i => by
  cases b
  · exact iteF (hb (fun h => by cases i.mpr h) H' s)
  · exact iteT (ha (i.mp rfl) H' s)
/-- where the law's reader stops -/
def DueF (z : Str) (v : Int) : Prop := (v = -1 ∧ ∃ s, At z (cs z).length s ∧ s.slot = 9 ∧ s.depth = 0) ∨ ∃ k : Nat, v = (k : Int) ∧ FaultAt z k
def spFault : Sp := fun vs H Q _ => ∃ (z : Str), vs = [.str z] ∧ z.length ≤ 1000000 ∧ ∀ v H', DueF z v → Same H H' → Q (.int v) H'
theorem ok_law_fault (T : Txt K mg) : FnOk P w K mg base CX0 2 T.a_law_fault T.fd_law_fault ["text"] spFault := by
  have G_law_next : FnOk P w K mg base CX0 1 T.a_law_next T.fd_law_next ["slot", "mood", "size", "char"] spNext := ok_law_next T
  refine T.F_law_fault.ok sc_law_fault (fun vs H Q E h => ?_) (fun cdv A outer s H vs Q E hr h => ?_)
  · obtain ⟨z, rfl, _⟩ := h
    rfl
  · have hr_law_next : Room 1 _ := hr
    obtain ⟨z, rfl, lz, q⟩ := h
    refine ⟨_, (pss_cons (ps_set (i := 1) sc_law_fault.nd rfl (.inl rfl) pe_int)
      (pss_cons (ps_set (i := 2) sc_law_fault.nd rfl (.inl rfl) pe_int)
      (pss_cons (ps_set (i := 3) sc_law_fault.nd rfl (.inl rfl) pe_int)
      (pss_cons (ps_set (i := 4) sc_law_fault.nd rfl (.inl rfl) pe_int)
      (pss_cons (ps_for PassesOwn.never rfl (pi_range1 (by rfl) T.m_range (pa_cons (pe_callB call_len_str (by rfl) T.m_len PySem.boot_len (pa_cons (pv 0) pa_nil)) pa_nil)) (pg_name (i := 5) sc_law_fault.nd rfl (.inl rfl)) (pss_cons (ps_set (i := 6) sc_law_fault.nd rfl (.inl rfl) (pe_ix ix_str (pv 0) (pv 5) (fun _ _ => rfl)))
      (pss_one (ps_if (pt_cmpR op_eq (pv 2) pe_int (nomark _)) (pss_cons (ps_if (pt_cmpR op_ne (pv 6) pe_str (nomark _)) (pss_one (ps_ret (pv 5))) pss_nil)
      (pss_cons (ps_set (i := 1) sc_law_fault.nd rfl (.inl rfl) (pe_op op_add (pv 1) pe_int))
      (pss_one (ps_set (i := 2) sc_law_fault.nd rfl (.inl rfl) pe_int)))) (pss_one (ps_if (pt_cmpR op_eq (pv 2) pe_int (nomark _)) (pss_cons (ps_if (PW.pt (pw_or (pt_cmpR op_eq (pv 1) pe_int (nomark _)) (pw_or1 (pt_cmpR op_notIn_sign (pv 6) pe_str rfl)))) (pss_one (ps_ret (pv 5))) pss_nil)
      (pss_one (ps_if (pt_cmpR op_eq (pv 6) pe_str (nomark _)) (pss_one (ps_set (i := 1) sc_law_fault.nd rfl (.inl rfl) (pe_op op_sub (pv 1) pe_int))) (pss_one (ps_set (i := 2) sc_law_fault.nd rfl (.inl rfl) pe_int))))) (pss_one (ps_if (PW.pt (pw_and (pt_cmpR op_eq (pv 6) pe_str (nomark _)) (pw_and1 (pt_cmpR op_in_seq (pv 3) (pe_tup (pa_cons pe_int (pa_cons pe_int (pa_cons pe_int (pa_cons pe_int pa_nil))))) rfl)))) (pss_cons (ps_set (i := 2) sc_law_fault.nd rfl (.inl rfl) (pe_op op_add (pv 2) pe_int))
      (pss_cons (ps_if (pt_cmpR op_eq (pv 2) pe_int (nomark _)) (pss_one (ps_set (i := 2) sc_law_fault.nd rfl (.inl rfl) pe_int)) pss_nil)
      (pss_cons (ps_set (i := 3) sc_law_fault.nd rfl (.inl rfl) pe_int)
      (pss_one (ps_set (i := 4) sc_law_fault.nd rfl (.inl rfl) pe_int))))) (pss_one (ps_if (PW.pt (pw_and (pt_cmpR op_eq (pv 6) pe_str (nomark _)) (pw_and (pt_cmpR op_eq (pv 2) pe_int (nomark _)) (pw_and1 (pt_cmpR op_in_seq (pv 3) (pe_tup (pa_cons pe_int (pa_cons pe_int pa_nil))) rfl))))) (pss_cons (ps_set (i := 1) sc_law_fault.nd rfl (.inl rfl) (pe_op op_sub (pv 1) pe_int))
      (pss_cons (ps_set (i := 2) sc_law_fault.nd rfl (.inl rfl) pe_int)
      (pss_cons (ps_set (i := 3) sc_law_fault.nd rfl (.inl rfl) pe_int)
      (pss_one (ps_set (i := 4) sc_law_fault.nd rfl (.inl rfl) pe_int))))) (pss_cons (ps_set (i := 3) sc_law_fault.nd rfl (.inl rfl) (pe_call G_law_next hr_law_next (by rfl) T.g_law_next T.F_law_next.kp T.b_law_next .nil pass0 (pa_cons (pv 2) (pa_cons (pv 3) (pa_cons (pv 4) (pa_cons (pv 6) pa_nil))))))
      (pss_cons (ps_set (i := 4) sc_law_fault.nd rfl (.inl rfl) (pe_op op_add (pv 4) pe_int))
      (pss_one (ps_if (pt_cmpR op_lt (pv 3) pe_int (nomark _)) (pss_one (ps_ret (pv 5))) pss_nil))))))))))))))
      (pss_cons (ps_if (PW.pt (pw_and (pt_cmpR op_eq (pv 2) pe_int (nomark _)) (pw_and1 (pt_cmpR op_eq (pv 1) pe_int (nomark _))))) (pss_one (ps_ret (pe_un un_neg pe_int))) pss_nil)
      (pss_one (ps_ret (pe_callB call_len_str (by rfl) T.m_len PySem.boot_len (pa_cons (pv 0) pa_nil)))))))))), ?_⟩
    refine ⟨_, rfl, z, rfl, szM (Nat.le_trans lz (by decide)), _, rfl, by omega, by omega, ?_⟩
    refine for_range (lo := 0) (n := ((z.length : Nat) : Int).toNat) (fun i σ H' => Same H H' ∧ ∃ (s : Au) (y5 y6 : Option V), σ = [some (.str z), some (.int s.depth), some (.int (s.slot : Int)), some (.int (s.mood : Int)), some (.int (s.size : Int)), y5, y6] ∧ At z i s)
      ⟨Same.refl _, Au0, none, none, rfl, At.zero z⟩ ?_ ?_
    · rintro i σ H1 hi ⟨sm, s, y5, y6, rfl, hA⟩
      have hi2 : i < (cs z).length := by rw [← len_cs]; omega
      obtain ⟨c, hc⟩ : ∃ c, (cs z)[i]? = some c := ⟨_, List.getElem?_eq_getElem hi2⟩
      have hl := drop_at hc
      have e0 : (0 : Int) + (i : Int) = (i : Int) := by omega
      rw [e0]
      refine ⟨_, rfl, _, rfl, z, _, c, rfl, rfl, szM (Nat.le_trans lz (by decide)), atI_nat hc, ?_⟩
      have bad : stepA s c = none → Q (.int (i : Int)) H1 := fun e => q _ _ (.inr ⟨i, rfl, s, hA, .inl ⟨c, _, hl, e⟩⟩) sm
      have good : ∀ (s' : Au) H2, stepA s c = some s' → Same H1 H2 → (Same H H2 ∧ ∃ (s1 : Au) (y5 y6 : Option V), [some (V.str z), some (.int s'.depth), some (.int (s'.slot : Int)), some (.int (s'.mood : Int)), some (.int (s'.size : Int)), some (.int (i : Int)), some (.str (sg c))] = [some (V.str z), some (.int s1.depth), some (.int (s1.slot : Int)), some (.int (s1.mood : Int)), some (.int (s1.size : Int)), y5, y6] ∧ At z (i + 1) s1) := fun s' H2 e s2 => ⟨sm.trans s2, s', _, _, rfl, hA.next hl e⟩
      obtain ⟨d, slot, mood, size⟩ := s
      refine ts_ite (ts_eqN 0 rfl) (fun h0 => ?_) (fun h0 => ?_)
      · refine ts_if (ts_neC 40 rfl (by decide +kernel)) (fun h1 => ?_) (fun h1 => ?_)
        · exact ⟨_, rfl, bad (by unfold stepA; rw [if_pos h0, if_neg h1])⟩
        · have h1 : c = 40 := Classical.byContradiction h1
          exact ⟨_, rfl, _, _, rfl, rfl, good ⟨d + 1, 1, mood, size⟩ H1 (by unfold stepA; rw [if_pos h0, if_pos h1]) (Same.refl _)⟩
      refine ts_ite (ts_eqN 9 rfl) (fun h9 => ?_) (fun h9 => ?_)
      · refine ts_if ((ts_eqI (z := 0) rfl).or fun _ => (ts_niC rfl).imp (B := ¬ (c = 32 ∨ c = 41)) (by rw [show cs (Str.ofString " )") = [32, 41] by decide +kernel]; simp)) (fun h1 => ?_) (fun h1 => ?_)
        · exact ⟨_, rfl, bad (by unfold stepA; rw [if_neg h0, if_pos h9, if_pos h1])⟩
        · refine ts_ite (ts_eqC 41 rfl (by decide +kernel)) (fun h2 => ?_) (fun h2 => ?_)
          · have h9 : slot = 9 := h9
            subst h9
            exact ⟨_, rfl, _, _, rfl, rfl, good ⟨d - 1, 9, mood, size⟩ H1 (by unfold stepA; rw [if_neg h0, if_pos rfl, if_neg h1, if_pos h2]) (Same.refl _)⟩
          · exact good ⟨d, 0, mood, size⟩ H1 (by unfold stepA; rw [if_neg h0, if_pos h9, if_neg h1, if_neg h2]) (Same.refl _)
      refine tsx_ite (A := c = 32 ∧ (mood = 1 ∨ mood = 5 ∨ mood = 7 ∨ mood = 8)) (fun Q' q' => ?_) (fun hA1 H2 s2 => ?_) (fun hA1 H2 s2 => ?_)
      · refine (ts_eqC 32 rfl (by decide +kernel)) _ fun b hb => ?_
        cases b
        · exact iteF (q' _ _ (Same.refl _) ⟨fun h => (by cases h), fun h => hb.mpr h.1⟩)
        · refine iteT ⟨_, rfl, by show 4 ≤ sizeLine; decide, fun p np => ⟨p, _, rfl, .inr (SqT.of upd_same), rfl, rfl, _, rfl, q' _ _ (same_upd np) ?_⟩⟩
          have e1 := hb.mp rfl
          show (inV (.int (mood : Int)) [.int 1, .int 5, .int 7, .int 8]) = true ↔ _
          rw [inI4]
          exact ⟨fun h => ⟨e1, h⟩, fun h => h.2⟩
      · obtain ⟨h1, h2⟩ := hA1
        have st : stepA ⟨d, slot, mood, size⟩ c = some ⟨d, if slot + 1 = 9 then 0 else slot + 1, 0, 0⟩ := by unfold stepA; rw [if_neg h0, if_neg h9, if_pos ⟨h1, h2⟩]
        refine ⟨_, rfl, _, _, rfl, rfl, ?_⟩
        refine ts_if (ts_eqI rfl) (fun h3 => ?_) (fun h3 => ?_)
        · have h3 : (slot : Int) + 1 = 9 := h3
          have h3 : slot + 1 = 9 := by omega
          rw [if_pos h3] at st
          exact good _ H2 st s2
        · have h3 : ¬ (slot : Int) + 1 = 9 := h3
          have h3 : ¬ slot + 1 = 9 := by omega
          rw [if_neg h3] at st
          have g := good _ H2 st s2
          have e1 : ((slot + 1 : Nat) : Int) = (slot : Int) + 1 := by omega
          simp only [e1] at g
          exact g
      refine tsx_ite (A := c = 41 ∧ slot = 8 ∧ (mood = 7 ∨ mood = 8)) (fun Q' q' => ?_) (fun hA2 H3 s3 => ?_) (fun hA2 H3 s3 => ?_)
      · refine (ts_eqC 41 rfl (by decide +kernel)) _ fun b hb => ?_
        cases b
        · exact iteF (q' _ _ (Same.refl _) ⟨fun h => (by cases h), fun h => hb.mpr h.1⟩)
        · refine iteT ((ts_eqN 8 rfl) _ fun b hb2 => ?_)
          cases b
          · exact iteF (q' _ _ (Same.refl _) ⟨fun h => (by cases h), fun h => hb2.mpr h.2.1⟩)
          refine iteT ⟨_, rfl, by show 2 ≤ sizeLine; decide, fun p np => ⟨p, _, rfl, .inr (SqT.of upd_same), rfl, rfl, _, rfl, q' _ _ (same_upd np) ?_⟩⟩
          have e1 := hb.mp rfl
          have e2 := hb2.mp rfl
          show (inV (.int (mood : Int)) [.int 7, .int 8]) = true ↔ _
          rw [inI2]
          exact ⟨fun h => ⟨e1, e2, h⟩, fun h => h.2.2⟩
      · have g := good ⟨d - 1, 9, 0, 0⟩ H3 (by unfold stepA; rw [if_neg h0, if_neg h9, if_neg hA1, if_pos hA2]) (s2.trans s3)
        exact ⟨_, rfl, _, _, rfl, rfl, g⟩
      · have st : stepA ⟨d, slot, mood, size⟩ c = (nextM slot mood size c).map fun m => ⟨d, slot, m, size + 1⟩ := by unfold stepA; rw [if_neg h0, if_neg h9, if_neg hA1, if_neg hA2]
        refine ⟨_, rfl, _, rfl, _, rfl, _, rfl, slot, mood, size, c, rfl, ?_⟩
        refine ⟨_, rfl, _, _, rfl, rfl, ?_⟩
        cases hm : nextM slot mood size c with
        | none =>
          have e1 : nextV slot mood size c = -1 := by unfold nextV; rw [hm]
          rw [e1]
          refine ts_ite (ts_ltI rfl) (fun h => ?_) (fun h => absurd (by decide) h)
          have st2 : stepA ⟨d, slot, mood, size⟩ c = none := by rw [st, hm]; rfl
          exact ⟨_, rfl, q _ _ (.inr ⟨i, rfl, _, hA, .inl ⟨c, _, hl, st2⟩⟩) ((sm.trans s2).trans s3)⟩
        | some m =>
          have e1 : nextV slot mood size c = (m : Int) := by unfold nextV; rw [hm]
          rw [e1]
          refine ts_ite (ts_ltI rfl) (fun h => absurd h (by omega)) (fun h => ?_)
          have g := good ⟨d, slot, m, size + 1⟩ H3 (by rw [st, hm]; rfl) (s2.trans s3)
          have e1 : ((size + 1 : Nat) : Int) = (size : Int) + 1 := by omega
          simp only [e1] at g
          exact g
    · rintro σ H1 ⟨sm, s, y5, y6, rfl, hA⟩
      have el : (0 : Int) + (((z.length : Nat) : Int).toNat : Int) = ((z.length : Nat) : Int) := by omega
      have hA2 : At z (cs z).length s := by
        have e : ((z.length : Nat) : Int).toNat = (cs z).length := by rw [← len_cs]; omega
        rw [e] at hA
        exact hA
      refine ts_if ((ts_eqN 9 rfl).and fun _ => ts_eqI (z := 0) rfl) (fun h => ?_) (fun h => ?_)
      · exact ⟨_, rfl, q _ _ (.inl ⟨rfl, s, hA2, h⟩) sm⟩
      · refine ⟨_, rfl, z, rfl, szM (Nat.le_trans lz (by decide)), q _ _ (.inr ⟨z.length, rfl, ?_⟩) sm⟩
        rw [len_cs]
        exact ⟨s, hA2, .inr ⟨List.drop_eq_nil_of_le (Nat.le_refl _), h⟩⟩

/-! ### the text of rows of words -/
abbrev Rg := Int × List Nat
def pieceG (last : Int) (r : Rg) : List Nat := parens (last + 1 - r.1) ++ (32 :: 40 :: r.2)
def piecesG : Int → List Rg → List (List Nat)
  | _, [] => []
  | last, r :: rs => pieceG last r :: piecesG r.1 rs
def lastG : Int → List Rg → Int
  | last, [] => last
  | _, r :: rs => lastG r.1 rs
theorem piecesG_len : ∀ (rs : List Rg) (a : Int), (piecesG a rs).length = rs.length
  | [], _ => rfl
  | r :: rs, _ => congrArg (· + 1) (piecesG_len rs r.1)
theorem piecesG_snoc : ∀ (rs : List Rg) (last : Int) (r : Rg), piecesG last (rs ++ [r]) = piecesG last rs ++ [pieceG (lastG last rs) r] ∧ lastG last (rs ++ [r]) = r.1
  | [], _, _ => ⟨rfl, rfl⟩
  | x :: rs, _, r => by
    have ih := piecesG_snoc rs x.1 r
    exact ⟨congrArg (_ :: ·) ih.1, ih.2⟩
theorem emit_G : ∀ (rs : List Rw) (last : Int), emit last rs = (piecesG last (rs.map fun r => (r.1, wd r.2))).flatten ++ parens (lastG last (rs.map fun r => (r.1, wd r.2)) + 1)
  | [], _ => rfl
  | r :: rs, last => by
    have ih := emit_G rs r.1
    show parens (last + 1 - r.1) ++ (32 :: 40 :: (wd r.2 ++ emit r.1 rs)) = ((parens (last + 1 - r.1) ++ (32 :: 40 :: wd r.2)) ++ (piecesG r.1 (rs.map fun r => (r.1, wd r.2))).flatten) ++ parens (lastG r.1 (rs.map fun r => (r.1, wd r.2)) + 1)
    rw [ih, List.append_assoc, List.append_assoc]
    simp only [List.cons_append, List.append_assoc]
def textG (rs : List Rg) : List Nat := (piecesG (-1) rs).flatten.drop 1 ++ parens (lastG (-1) rs + 1)
theorem text_wr {t : Tr} {rows : List Rw} (et : t.rows 0 = rows) : textG (rows.map fun r => (r.1, wd r.2)) = t.wr := by
  have ea := emit_all t
  rw [et, emit_G] at ea
  obtain ⟨d0, rs0, er⟩ : ∃ d rs, rows = (0, d) :: rs := by
    cases t with
    | mk p d ks => exact ⟨d, rowsL 1 ks, et.symm⟩
  unfold textG
  rw [er] at ea ⊢
  have ef : (piecesG (-1) (((0, d0) :: rs0 : List Rw).map fun r => (r.1, wd r.2))).flatten = 32 :: (40 :: wd d0 ++ (piecesG 0 (rs0.map fun r => (r.1, wd r.2))).flatten) := rfl
  rw [ef] at ea ⊢
  rw [List.cons_append] at ea
  exact (List.cons.inj ea).2
/-- a sign of the law's texts -/
def SgC (c : Nat) : Prop := c ∈ cs plainS ∨ c = 96
def SgL (l : List Nat) : Prop := ∀ c ∈ l, SgC c
theorem SgL.app {a b : List Nat} (h1 : SgL a) (h2 : SgL b) : SgL (a ++ b) := fun c hc => by
  rcases List.mem_append.mp hc with h | h
  · exact h1 c h
  · exact h2 c h
theorem SgL.drop {a : List Nat} (h : SgL a) (n : Nat) : SgL (a.drop n) := fun c hc => h c (List.mem_of_mem_drop hc)
theorem SgL.take {a : List Nat} (h : SgL a) (n : Nat) : SgL (a.take n) := fun c hc => h c (List.mem_of_mem_take hc)
instance (l : List Nat) : Decidable (SgL l) := by unfold SgL SgC; exact inferInstance
theorem sg_parens (n : Int) : SgL (parens n) := fun c hc => by
  rw [List.eq_of_mem_replicate hc]
  exact .inl (by decide +kernel)
theorem SgL.of_plain {l : List Nat} (h : ∀ c ∈ l, c ∈ cs plainS) : SgL l := fun c hc => .inl (h c hc)
theorem pieces_sg : ∀ (rs : List Rg) (last : Int), (∀ r ∈ rs, SgL r.2) → SgL (piecesG last rs).flatten
  | [], _, _ => fun c hc => absurd hc List.not_mem_nil
  | r :: rs, last, h => by
    have ih := pieces_sg rs r.1 fun x hx => h x (List.mem_cons_of_mem _ hx)
    show SgL ((parens (last + 1 - r.1) ++ (32 :: 40 :: r.2)) ++ (piecesG r.1 rs).flatten)
    exact SgL.app (SgL.app (sg_parens _) (SgL.app (a := [32, 40]) (by decide +kernel) (h r List.mem_cons_self))) ih
theorem text_sg {rs : List Rg} (h : ∀ r ∈ rs, SgL r.2) : SgL (textG rs) := SgL.app ((pieces_sg rs _ h).drop 1) (sg_parens _)
/-- a list of texts; a list of such lists -/
def WsAt (H : Hp) (v : V) (ws : List Str) : Prop := ∃ g, v = .ref g ∧ H g = some (.lst (ws.map V.str))
theorem WsAt.same {H H' : Hp} {v : V} {ws : List Str} (h : WsAt H v ws) (s : Same H H') : WsAt H' v ws := by
  obtain ⟨g, e, hg⟩ := h
  exact ⟨g, e, s _ _ hg⟩
def TabAt (H : Hp) (l : Addr) (W : List (List Str)) : Prop := ∃ us, H l = some (.lst us) ∧ Paired (WsAt H) us W
theorem TabAt.same {H H' : Hp} {l : Addr} {W : List (List Str)} (h : TabAt H l W) (s : Same H H') : TabAt H' l W := by
  obtain ⟨us, h1, h2⟩ := h
  exact ⟨us, s _ _ h1, Paired.mapP h2 fun _ _ h => h.same s⟩
def jn (ws : List Str) : List Nat := cs (Txt.join " " ws)
def WOk (ws : List Str) : Prop := ws.length = 8 ∧ ∀ x ∈ ws, x.length ≤ 60 ∧ SgL (cs x)
theorem sum_leN (n : Nat) : ∀ qs : List Str, (∀ x ∈ qs, x.length ≤ n) → (qs.map fun x : Str => x.length).sum ≤ n * qs.length
  | [], _ => Nat.le_refl _
  | q :: qs, h => by
    have ih := sum_leN n qs fun x hx => h x (List.mem_cons_of_mem _ hx)
    have h1 := h q List.mem_cons_self
    show q.length + (qs.map fun x : Str => x.length).sum ≤ n * (qs.length + 1)
    rw [Nat.mul_succ]
    omega
theorem jn_ok : ∀ ws : List Str, (∀ x ∈ ws, x.length ≤ 60 ∧ SgL (cs x)) → (jn ws).length ≤ 61 * ws.length ∧ SgL (jn ws)
  | [], _ => ⟨Nat.zero_le _, fun c hc => absurd hc (by unfold jn; rw [TL.join_eq]; show ¬ c ∈ cs Str.empty; decide +revert +kernel)⟩
  | [x], h => by
    have hx := h x List.mem_cons_self
    unfold jn
    rw [TL.join_eq]
    show (cs x).length ≤ 61 * 1 ∧ SgL (cs x)
    rw [← len_cs]
    exact ⟨by omega, hx.2⟩
  | x :: y :: r, h => by
    have ih := jn_ok (y :: r) fun z hz => h z (List.mem_cons_of_mem _ hz)
    have hx := h x List.mem_cons_self
    unfold jn at ih ⊢
    rw [TL.join_eq] at ih ⊢
    have e : cs (Str.join " " (x :: y :: r)) = cs x ++ ([32] ++ cs (Str.join " " (y :: r))) := by
      show cs (x ++ " " ++ Str.join " " (y :: r)) = _
      rw [cs_app, cs_app, show cs (" " : Str) = [32] by decide +kernel, List.append_assoc]
    rw [e, List.length_append, List.length_append, ← len_cs x]
    refine ⟨?_, SgL.app hx.2 (SgL.app (by decide +kernel) ih.2)⟩
    have := ih.1
    show x.length + (1 + _) ≤ 61 * ((y :: r).length + 1)
    omega
theorem mul_par (n : Int) : cs (Txt.mul ")" n) = parens n := by
  show (Txt.mul ")" n).cps.toList = _
  rw [OwnOp.mul_cs, show (Str.ofString ")").cps.toList = [41] by decide +kernel]
  unfold parens
  induction n.toNat with
  | zero => rfl
  | succ m ih => rw [List.replicate_succ, List.flatten_cons, ih]; rfl
theorem par_len (n : Int) : (parens n).length = n.toNat := List.length_replicate
def spJoined : Sp := fun vs H Q _ => ∃ (lv tb : Addr) (L : List Int) (W : List (List Str)), vs = [.ref lv, .ref tb] ∧ LevsAt H lv L ∧ Lev L ∧ TabAt H tb W ∧ W.length = L.length ∧ L.length ≤ 200 ∧ (∀ ws ∈ W, WOk ws) ∧
  ∀ (x : Str) H', Same H H' → cs x = textG (L.zip (W.map jn)) → x.length ≤ 200000 → Q (.str x) H'
theorem ok_joined (T : Txt K mg) : FnOk P w K mg base CX0 1 T.a_law_joined T.fd_law_joined ["levels", "table"] spJoined := by
  refine T.F_law_joined.ok sc_law_joined (fun vs H Q E h => ?_) (fun cdv A outer s H vs Q E hr h => ?_)
  · obtain ⟨lv, tb, L, W, rfl, _⟩ := h
    rfl
  · obtain ⟨lv, tb, L, W, rfl, hL, lev, ⟨us, ht, hu⟩, lW, lL, ok, q⟩ := h
    refine ⟨_, (pss_cons (ps_set (i := 2) sc_law_joined.nd rfl (.inl rfl) (pe_lst pa_nil))
      (pss_cons (ps_set (i := 3) sc_law_joined.nd rfl (.inl rfl) (pe_un un_neg pe_int))
      (pss_cons (ps_for PassesOwn.never rfl (pi_range1 (by rfl) T.m_range (pa_cons (pe_callB call_len_seq (by rfl) T.m_len PySem.boot_len (pa_cons (pv 0) pa_nil)) pa_nil)) (pg_name (i := 4) sc_law_joined.nd rfl (.inl rfl)) (pss_cons (ps_expr (pe_bm PySem.F.plainAttrs_list PySem.F.slot_list_append PySem.F.type_list_append mt_append (pv 2) (pa_cons (pe_op op_add_str (pe_op op_add_str (pe_op OwnOp.op_mulS pe_str (pe_op op_sub (pe_op op_add (pv 3) pe_int) (pe_ix ix_list (pv 0) (pv 4) (fun _ _ => rfl)))) pe_str) (pe_join pe_str (pe_ix ix_list (pv 1) (pv 4) (fun _ _ => rfl)))) pa_nil)))
      (pss_one (ps_set (i := 3) sc_law_joined.nd rfl (.inl rfl) (pe_ix ix_list (pv 0) (pv 4) (fun _ _ => rfl))))))
      (pss_one (ps_ret (pe_op op_add_str (pe_slice sl_str (pe_join pe_str (pv 2)) (po_some pe_int) po_none) (pe_op OwnOp.op_mulS pe_str (pe_op op_add (pv 3) pe_int)))))))), ?_⟩
    have lus := paired_len hu
    refine ⟨by show 0 ≤ sizeLine; decide, fun p np => ?_⟩
    refine ⟨1, rfl, ?_⟩
    have hlp : Same H (upd H p (.lst [])) := same_upd np
    refine ⟨_, rfl, lv, _, rfl, .inl (SqL.of (hlp _ _ hL)), _, rfl, by rw [List.length_map]; omega, by rw [List.length_map]; omega, ?_⟩
    refine for_range (lo := 0) (n := (((L.map V.int).length : Nat) : Int).toNat) (fun j σ H' => Same H H' ∧ ∃ (ps : List Str) (last : Int) (y4 : Option V), σ = [some (.ref lv), some (.ref tb), some (.ref p), some (.int last), y4] ∧ H' p = some (.lst (ps.map V.str)) ∧ ps.map cs = piecesG (-1) ((L.zip (W.map jn)).take j) ∧ last = lastG (-1) ((L.zip (W.map jn)).take j) ∧ -1 ≤ last ∧ last < (j : Int) ∧ ∀ x ∈ ps, x.length ≤ 900)
      ⟨hlp, [], -1, none, rfl, upd_same, rfl, rfl, by decide, by decide, fun x hx => absurd hx List.not_mem_nil⟩ ?_ ?_
    · rintro j σ H1 hj ⟨sm, ps, last, y4, rfl, hp, ep, el, l0, l1, lp⟩
      rw [List.length_map] at hj
      have hj : j < L.length := by omega
      have e1 : L[j]? = some L[j] := List.getElem?_eq_getElem hj
      obtain ⟨ws, hws⟩ : ∃ ws, W[j]? = some ws := ⟨_, List.getElem?_eq_getElem (by omega)⟩
      obtain ⟨u, hu0, g, rfl, hg0⟩ := paired_get hu hws
      have okw := ok ws (List.mem_of_getElem? hws)
      have lr := lev_le lev (i := j) (x := L[j]) e1
      have hr0 : (L.zip (W.map jn))[j]? = some (L[j], jn ws) := by
        rw [List.getElem?_zip_eq_some]
        exact ⟨e1, by rw [List.getElem?_map, hws]; rfl⟩
      have lps : ps.length = j := by
        have e := congrArg List.length ep
        rw [List.length_map, piecesG_len, List.length_take, List.length_zip, List.length_map] at e
        omega
      have hL1 := sm _ _ hL
      have ht1 := sm _ _ ht
      have hg1 := sm _ _ hg0
      have e0 : (0 : Int) + (j : Int) = (j : Int) := by omega
      have atL : atI (L.map V.int) (0 + (j : Int)) = some (.int L[j]) := by rw [e0]; exact atI_nat (by rw [List.getElem?_map, e1]; rfl)
      have atT : atI us (0 + (j : Int)) = some (.ref g) := by rw [e0]; exact atI_nat hu0
      obtain ⟨jl, jsg⟩ := jn_ok ws okw.2
      have jl : (jn ws).length ≤ 488 := by
        have := okw.1
        omega
      have lm : (Txt.mul ")" (last + 1 - L[j])).length ≤ 202 := by
        rw [len_cs, mul_par, par_len]
        omega
      have l2 : (" (" : Str).length = 2 := by decide +kernel
      have lj : (Txt.join " " ws).length ≤ 488 := by
        rw [len_cs]
        exact jl
      have sw := sum_leN 60 ws fun x hx => (okw.2 x hx).1
      have lq : (Txt.mul ")" (last + 1 - L[j]) ++ " (").length ≤ 204 := by
        rw [len_cs, cs_app, List.length_append, ← len_cs, ← len_cs, l2]
        omega
      refine ⟨_, rfl, .inl ⟨rfl, _, SqL.of hp⟩, _, rfl, _, _, rfl, rfl, _, rfl, _, rfl, lv, _, _, _, rfl, rfl, SqL.of hL1, atL, _, _, rfl, rfl, _, _, rfl, rfl, by decide +kernel, by omega, by omega, _, _, rfl, rfl, szM (by rw [l2]; exact Nat.le_trans (Nat.add_le_add_right lm 2) (by decide)), ⟨_, rfl⟩, _, rfl, _, rfl, tb, _, _, _, rfl, rfl, SqL.of ht1, atT, _, _, ws, rfl, rfl, .inl (SqL.of hg1), ?_, ?_⟩
      · have e8 := okw.1
        rw [show (" " : Str).length = 1 by decide +kernel]
        omega
      refine ⟨_, _, rfl, rfl, szM (Nat.le_trans (Nat.add_le_add lq lj) (by decide)), p, _, _, rfl, rfl, hp, sz2 (by rw [List.length_map, lps]; omega), ?_⟩
      have np0 : H p = none := np
      have hpL : p ≠ lv := (ne_of_none hL np).symm
      have hL2 : (upd H1 p (.lst (ps.map V.str ++ [.str (Txt.mul ")" (last + 1 - L[j]) ++ " (" ++ Txt.join " " ws)]))) lv = some (.lst (L.map V.int)) := by rw [upd_ne hpL.symm]; exact hL1
      refine ⟨_, rfl, _, rfl, lv, _, _, _, rfl, rfl, SqL.of hL2, atL, ?_⟩
      have ec : cs (Txt.mul ")" (last + 1 - L[j]) ++ " (" ++ Txt.join " " ws) = pieceG last (L[j], jn ws) := by
        rw [cs_app, cs_app, mul_par, show cs (" (" : Str) = [32, 40] by decide +kernel, List.append_assoc]
        rfl
      have sn := piecesG_snoc ((L.zip (W.map jn)).take j) (-1) (L[j], jn ws)
      rw [← takeN hr0, ← el] at sn
      refine ⟨same_mut sm np, ps ++ [_], L[j], _, rfl, by rw [upd_same, List.map_append]; rfl, ?_, sn.2.symm, by omega, by omega, fun x hx => ?_⟩
      · rw [List.map_append, ep, sn.1]
        show _ ++ [cs _] = _
        rw [ec]
      · rcases List.mem_append.mp hx with h | h
        · exact lp x h
        · rw [List.mem_singleton.mp h, len_cs, cs_app, List.length_append, ← len_cs, ← len_cs]
          omega
    · rintro σ H1 ⟨sm, ps, last, y4, rfl, hp, ep, el, l0, l1, lp⟩
      have eall : (((L.map V.int).length : Nat) : Int).toNat = (L.zip (W.map jn)).length := by
        rw [List.length_zip, List.length_map, List.length_map]
        omega
      rw [eall, List.take_length] at ep el
      have lps : ps.length = L.length := by
        have e := congrArg List.length ep
        rw [List.length_map, piecesG_len, List.length_zip, List.length_map] at e
        omega
      have h1 := sum_leN 900 ps lp
      refine ⟨⟨_, rfl⟩, _, rfl, _, _, ps, rfl, rfl, .inl (SqL.of hp), ?_, ?_⟩
      · show _ + ps.length * 0 ≤ _
        omega
      have ecut : cs (cutS (Txt.join "" ps) (some 1) none) = (piecesG (-1) (L.zip (W.map jn))).flatten.drop 1 := by
        rw [show (some (1 : Int)) = some ((1 : Nat) : Int) from rfl, cut_suf (Txt.join "" ps) 1, cs_joinT (show cs ("" : Str) = [] by decide +kernel), ep]
      have lt : (Txt.join "" ps).length ≤ 900 * ps.length := by
        rw [len_cs, cs_joinT (show cs ("" : Str) = [] by decide +kernel), List.length_flatten, List.map_map]
        refine Nat.le_trans (Nat.le_of_eq ?_) h1
        congr 1
      have lcut : (cutS (Txt.join "" ps) (some 1) none).length ≤ 900 * ps.length := by
        rw [len_cs, ecut, List.length_drop, ← ep, ← cs_joinT (show cs ("" : Str) = [] by decide +kernel), ← len_cs]
        omega
      have lm : (Txt.mul ")" (last + 1)).length ≤ 201 := by
        rw [len_cs, mul_par, par_len]
        rw [List.length_map] at l1
        omega
      refine ⟨1, rfl, _, rfl, szM (by omega), ?_⟩
      refine ⟨_, rfl, _, _, rfl, rfl, _, _, rfl, rfl, by decide +kernel, by omega, by rw [List.length_map] at l1; omega, _, _, rfl, rfl, szM (by omega), q _ H1 sm ?_ ?_⟩
      · rw [cs_app, ecut, mul_par, el]
        rfl
      · rw [len_cs, cs_app, List.length_append, ← len_cs, ← len_cs]
        omega

/-! ### odd words, changed texts -/
def spPlace : Sp := fun vs H Q _ => ∃ (r : Addr) (n : Int), vs = [.ref r, .int n] ∧ ReelAt H r ∧ 0 < n ∧ ∀ (v : Int) H', 0 ≤ v → v < n → But r H H' → ReelAt H' r → Q (.int v) H'
theorem ok_place (T : Txt K mg) : FnOk P w K mg base CX0 2 T.a_law_place T.fd_law_place ["reel", "size"] spPlace := by
  have G_law_draw : FnOk P w K mg base CX0 1 T.a_law_draw T.fd_law_draw ["reel", "size"] spDraw := ok_draw T
  refine T.F_law_place.ok sc_law_place (fun vs H Q E h => ?_) (fun cdv A outer s H vs Q E hr h => ?_)
  · obtain ⟨r, n, rfl, _⟩ := h
    rfl
  · have hr_law_draw : Room 1 _ := hr
    obtain ⟨r, n, rfl, hR, hn, q⟩ := h
    refine ⟨_, (pss_one (ps_ret (pe_op op_modN (pe_callTy call_int1 (by rfl) T.m_int (by decide +kernel) (pa_cons (pe_op op_add (pe_op op_mul (pe_call G_law_draw hr_law_draw (by rfl) T.g_law_draw T.F_law_draw.kp T.b_law_draw .nil pass0 (pa_cons (pv 0) (pa_cons pe_int pa_nil))) pe_int) (pe_call G_law_draw hr_law_draw (by rfl) T.g_law_draw T.F_law_draw.kp T.b_law_draw .nil pass0 (pa_cons (pv 0) (pa_cons pe_int pa_nil)))) pa_nil)) (pv 1)))), ?_⟩
    refine ⟨_, rfl, r, 1000, rfl, hR, by decide, fun v H1 v0 v1 b1 R1 => ?_⟩
    refine ⟨_, _, rfl, rfl, .inl ⟨by omega, by omega⟩, ?_⟩
    refine ⟨_, rfl, r, 1000, rfl, R1, by decide, fun u H2 u0 u1 b2 R2 => ?_⟩
    refine ⟨_, _, rfl, rfl, .inl ⟨_, rfl, ?_⟩⟩
    refine ⟨_, rfl, _, n, rfl, rfl, by omega, ?_⟩
    obtain ⟨h1, h2⟩ := fmod_range (v * 1000 + u) hn
    exact q _ _ h1 h2 (b1.trans b2) R2
/-- a written list of odd words -/
def strsOk : List V → Bool
  | [] => true
  | .str x :: r => decide (x.length ≤ 20) && (cs x).all (fun c => decide (c ∈ cs plainS) || decide (c = 96)) && strsOk r
  | _ :: _ => false
theorem strsOk_mem : ∀ {vs : List V}, strsOk vs = true → ∀ v ∈ vs, ∃ x : Str, v = .str x ∧ x.length ≤ 20 ∧ SgL (cs x)
  | [], _, v, m => absurd m List.not_mem_nil
  | .str x :: r, h, v, m => by
    unfold strsOk at h
    simp only [Bool.and_eq_true, decide_eq_true_eq, List.all_eq_true, Bool.or_eq_true] at h
    rcases List.mem_cons.mp m with rfl | m
    · exact ⟨x, rfl, h.1.1, fun c hc => h.1.2 c hc⟩
    · exact strsOk_mem h.2 v m
  | .non :: _, h, _, _ => by cases h
  | .bl _ :: _, h, _, _ => by cases h
  | .int _ :: _, h, _, _ => by cases h
  | .byt _ :: _, h, _, _ => by cases h
  | .flt _ :: _, h, _, _ => by cases h
  | .ref _ :: _, h, _, _ => by cases h
  | .ty _ :: _, h, _, _ => by cases h
def spOdd : Sp := fun vs H Q _ => ∃ r : Addr, vs = [.ref r] ∧ ReelAt H r ∧ ∀ (x : Str) H', SgL (cs x) → x.length ≤ 60 → But r H H' → ReelAt H' r → Q (.str x) H'
theorem ok_odd_number (T : Txt K mg) : FnOk P w K mg base CX0 3 T.a_law_odd_number T.fd_law_odd_number ["reel"] spOdd := by
  have G_law_pick : FnOk P w K mg base CX0 2 T.a_law_pick T.fd_law_pick ["reel", "row"] (spPick K) := ok_pick T
  refine T.F_law_odd_number.ok sc_law_odd_number (fun vs H Q E h => ?_) (fun cdv A outer s H vs Q E hr h => ?_)
  · obtain ⟨r, rfl, _⟩ := h
    rfl
  · have hr_law_pick : Room 2 _ := hr
    obtain ⟨r, rfl, hR, q⟩ := h
    refine ⟨_, (pss_cons (ps_set (i := 1) sc_law_odd_number.nd rfl (.inl rfl) (pe_lst (pa_cons pe_str (pa_cons pe_str (pa_cons pe_str (pa_cons pe_str (pa_cons pe_str (pa_cons pe_str (pa_cons pe_str (pa_cons pe_str (pa_cons pe_str (pa_cons pe_str (pa_cons pe_str (pa_cons pe_str (pa_cons pe_str (pa_cons pe_str (pa_cons pe_str pa_nil)))))))))))))))))
      (pss_cons (ps_set (i := 1) sc_law_odd_number.nd rfl (.inl rfl) (pe_op op_cat (pv 1) (pe_lst (pa_cons pe_str (pa_cons pe_str (pa_cons pe_str (pa_cons pe_str (pa_cons pe_str (pa_cons pe_str (pa_cons pe_str (pa_cons pe_str (pa_cons pe_str (pa_cons pe_str (pa_cons pe_str (pa_cons pe_str pa_nil)))))))))))))))
      (pss_one (ps_ret (pe_call G_law_pick hr_law_pick (by rfl) T.g_law_pick T.F_law_pick.kp T.b_law_pick .nil pass0 (pa_cons (pv 0) (pa_cons (pv 1) pa_nil))))))), ?_⟩
    refine ⟨by show 15 ≤ sizeLine; decide, fun p1 np1 => ?_⟩
    refine ⟨_, rfl, by show 12 ≤ sizeLine; decide, fun p2 np2 => ?_⟩
    have R2 := (hR.new (o := .lst [.str "", .str "0", .str "00", .str "01", .str "-1", .str "-0", .str "-2", .str "-", .str "-11", .str "--1", .str "+1", .str "1-", .str "7", .str "999999999", .str "1000000000"]) np1).new (o := .lst [.str "0123456789", .str "1234567890", .str "12345678901", .str "1 2", .str " 1", .str "1 ", .str "1.0", .str "1_0", .str "a", .str "9a", .str "\"1\"", .str "1\n"]) np2
    have k1 : (upd (upd H p1 (.lst [.str "", .str "0", .str "00", .str "01", .str "-1", .str "-0", .str "-2", .str "-", .str "-11", .str "--1", .str "+1", .str "1-", .str "7", .str "999999999", .str "1000000000"])) p2 (.lst [.str "0123456789", .str "1234567890", .str "12345678901", .str "1 2", .str " 1", .str "1 ", .str "1.0", .str "1_0", .str "a", .str "9a", .str "\"1\"", .str "1\n"])) p1 = some (.lst [.str "", .str "0", .str "00", .str "01", .str "-1", .str "-0", .str "-2", .str "-", .str "-11", .str "--1", .str "+1", .str "1-", .str "7", .str "999999999", .str "1000000000"]) := (same_upd np2) _ _ upd_same
    refine ⟨p1, p2, _, _, rfl, rfl, k1, upd_same, by show 15 + 12 ≤ sizeLine; decide, fun p3 np3 => ?_⟩
    refine ⟨_, rfl, _, rfl, r, _, rfl, R2.new np3, .inr ⟨p3, _, rfl, (R2.ne np3).symm, SqL.of upd_same, by show 0 < 27; decide, fun v H4 hv b4 R4 => ?_⟩⟩
    obtain ⟨x, rfl, lx, sx⟩ := strsOk_mem (by decide +kernel) v hv
    exact q x H4 sx (by omega) (((But.new np1).trans (But.new np2)).trans ((But.new np3).trans b4)) R4
def spSign : Sp := fun vs H Q _ => ∃ r : Addr, vs = [.ref r] ∧ ReelAt H r ∧ ∀ (c : Nat) H', SgC c → But r H H' → ReelAt H' r → Q (.str (sg c)) H'
theorem ok_lsign (T : Txt K mg) : FnOk P w K mg base CX0 3 T.a_law_sign T.fd_law_sign ["reel"] spSign := by
  have G_law_draw : FnOk P w K mg base CX0 1 T.a_law_draw T.fd_law_draw ["reel", "size"] spDraw := ok_draw T
  have G_law_pick : FnOk P w K mg base CX0 2 T.a_law_pick T.fd_law_pick ["reel", "row"] (spPick K) := ok_pick T
  refine T.F_law_sign.ok sc_law_sign (fun vs H Q E h => ?_) (fun cdv A outer s H vs Q E hr h => ?_)
  · obtain ⟨r, rfl, _⟩ := h
    rfl
  · have hr_law_draw : Room 1 _ := hr.mono (by decide)
    have hr_law_pick : Room 2 _ := hr
    obtain ⟨r, rfl, hR, q⟩ := h
    refine ⟨_, (pss_cons (ps_set (i := 1) sc_law_sign.nd rfl (.inl rfl) pe_str)
      (pss_cons (ps_set (i := 1) sc_law_sign.nd rfl (.inl rfl) (pe_op op_add_str (pv 1) pe_str))
      (pss_cons (ps_if (pt_cmpR op_eq (pe_call G_law_draw hr_law_draw (by rfl) T.g_law_draw T.F_law_draw.kp T.b_law_draw .nil pass0 (pa_cons (pv 0) (pa_cons pe_int pa_nil))) pe_int (nomark _)) (pss_one (ps_ret (pe_call G_law_pick hr_law_pick (by rfl) T.g_law_pick T.F_law_pick.kp T.b_law_pick .nil pass0 (pa_cons (pv 0) (pa_cons (pv 1) pa_nil))))) pss_nil)
      (pss_one (ps_ret (pe_call G_law_pick hr_law_pick (by rfl) T.g_law_pick T.F_law_pick.kp T.b_law_pick .nil pass0 (pa_cons (pv 0) (pa_cons pe_str pa_nil)))))))), ?_⟩
    have all1 : ∀ c ∈ cs ((Str.ofString "\t\n !\"#$&'()*+,-./0123456789:;<=>?@ABCDEFGHIJKLMNOPQRSTUVWXYZ[\\]^_`" : Str) ++ (Str.ofString "abcdefghijklmnopqrstuvwxyz{|}~" : Str)), SgC c := (by decide +kernel : SgL _)
    have all2 : ∀ c ∈ cs (Str.ofString " ()\"\\-0179az_~A.n\n\t`" : Str), SgC c := (by decide +kernel : SgL _)
    refine ⟨_, rfl, _, _, rfl, rfl, by decide +kernel, ?_⟩
    refine ⟨_, rfl, r, 2, rfl, hR, by decide, fun v H1 v0 v1 b1 R1 => ⟨rfl, _, rfl, ite2 (fun _ => ?_) (fun _ => ?_)⟩⟩
    · exact ⟨_, rfl, _, rfl, r, _, rfl, R1, .inl ⟨_, rfl, by decide +kernel, by decide +kernel, fun c H2 hc b2 R2 => q c H2 (all1 c hc) (b1.trans b2) R2⟩⟩
    · exact ⟨_, rfl, r, _, rfl, R1, .inl ⟨_, rfl, by decide +kernel, by decide +kernel, fun c H2 hc b2 R2 => q c H2 (all2 c hc) (b1.trans b2) R2⟩⟩
theorem sg_sg {c : Nat} (h : SgC c) : SgL (cs (sg c)) := fun d hd => by
  have hd : d ∈ [c] := hd
  rw [List.mem_singleton.mp hd]
  exact h
theorem lenApp (a b : Str) : (a ++ b).length = a.length + b.length := by rw [len_cs, cs_app, List.length_append, ← len_cs, ← len_cs]
theorem lenSg (c : Nat) : (sg c).length = 1 := rfl
theorem sgApp {a b : Str} (h1 : SgL (cs a)) (h2 : SgL (cs b)) : SgL (cs (a ++ b)) := by
  rw [cs_app]
  exact SgL.app h1 h2
theorem ok_odd_word (T : Txt K mg) : FnOk P w K mg base CX0 4 T.a_law_odd_word T.fd_law_odd_word ["reel"] spOdd := by
  have G_law_draw : FnOk P w K mg base CX0 1 T.a_law_draw T.fd_law_draw ["reel", "size"] spDraw := ok_draw T
  have G_law_pick : FnOk P w K mg base CX0 2 T.a_law_pick T.fd_law_pick ["reel", "row"] (spPick K) := ok_pick T
  have G_law_sign : FnOk P w K mg base CX0 3 T.a_law_sign T.fd_law_sign ["reel"] spSign := ok_lsign T
  refine T.F_law_odd_word.ok sc_law_odd_word (fun vs H Q E h => ?_) (fun cdv A outer s H vs Q E hr h => ?_)
  · obtain ⟨r, rfl, _⟩ := h
    rfl
  · have hr_law_draw : Room 1 _ := hr.mono (by decide)
    have hr_law_pick : Room 2 _ := hr.mono (by decide)
    have hr_law_sign : Room 3 _ := hr
    obtain ⟨r, rfl, hR, q⟩ := h
    refine ⟨_, (pss_cons (ps_set (i := 1) sc_law_odd_word.nd rfl (.inl rfl) (pe_call G_law_draw hr_law_draw (by rfl) T.g_law_draw T.F_law_draw.kp T.b_law_draw .nil pass0 (pa_cons (pv 0) (pa_cons pe_int pa_nil))))
      (pss_cons (ps_set (i := 2) sc_law_odd_word.nd rfl (.inl rfl) (pe_call G_law_sign hr_law_sign (by rfl) T.g_law_sign T.F_law_sign.kp T.b_law_sign .nil pass0 (pa_cons (pv 0) pa_nil)))
      (pss_cons (ps_if (pt_cmpR op_eq (pv 1) pe_int (nomark _)) (pss_one (ps_ret (pe_op op_add_str (pe_op op_add_str pe_str (pv 2)) pe_str))) pss_nil)
      (pss_cons (ps_if (pt_cmpR op_eq (pv 1) pe_int (nomark _)) (pss_one (ps_ret (pe_op op_add_str (pe_op op_add_str pe_str (pv 2)) pe_str))) pss_nil)
      (pss_cons (ps_if (pt_cmpR op_eq (pv 1) pe_int (nomark _)) (pss_one (ps_ret (pe_op op_add_str (pe_op op_add_str (pe_call G_law_pick hr_law_pick (by rfl) T.g_law_pick T.F_law_pick.kp T.b_law_pick .nil pass0 (pa_cons (pv 0) (pa_cons (pe_lst (pa_cons pe_str (pa_cons pe_str (pa_cons pe_str pa_nil)))) pa_nil))) (pv 2)) (pe_call G_law_pick hr_law_pick (by rfl) T.g_law_pick T.F_law_pick.kp T.b_law_pick .nil pass0 (pa_cons (pv 0) (pa_cons (pe_lst (pa_cons pe_str (pa_cons pe_str (pa_cons pe_str pa_nil)))) pa_nil)))))) pss_nil)
      (pss_cons (ps_if (pt_cmpR op_eq (pv 1) pe_int (nomark _)) (pss_one (ps_ret pe_str)) pss_nil)
      (pss_cons (ps_set (i := 3) sc_law_odd_word.nd rfl (.inl rfl) (pe_lst (pa_cons pe_str (pa_cons pe_str (pa_cons pe_str (pa_cons pe_str (pa_cons pe_str (pa_cons pe_str (pa_cons pe_str (pa_cons pe_str (pa_cons pe_str (pa_cons pe_str (pa_cons pe_str (pa_cons pe_str (pa_cons pe_str pa_nil)))))))))))))))
      (pss_cons (ps_set (i := 3) sc_law_odd_word.nd rfl (.inl rfl) (pe_op op_cat (pv 3) (pe_lst (pa_cons pe_str (pa_cons pe_str (pa_cons pe_str (pa_cons pe_str (pa_cons pe_str (pa_cons pe_str (pa_cons pe_str (pa_cons pe_str (pa_cons pe_str (pa_cons pe_str (pa_cons pe_str (pa_cons pe_str pa_nil)))))))))))))))
      (pss_one (ps_ret (pe_call G_law_pick hr_law_pick (by rfl) T.g_law_pick T.F_law_pick.kp T.b_law_pick .nil pass0 (pa_cons (pv 0) (pa_cons (pv 3) pa_nil))))))))))))), ?_⟩
    refine ⟨_, rfl, r, 6, rfl, hR, by decide, fun v H1 v0 v1 b1 R1 => ?_⟩
    refine ⟨_, rfl, r, rfl, R1, fun c H2 hc b2 R2 => ?_⟩
    have b12 := b1.trans b2
    have scs := sg_sg hc
    have l1 : (Str.ofString "\"\\").length = 2 := by decide +kernel
    have l2 : (Str.ofString "\"").length = 1 := by decide +kernel
    have g1 : SgL (cs (Str.ofString "\"\\")) := by decide +kernel
    have g2 : SgL (cs (Str.ofString "\"")) := by decide +kernel
    refine ts_if (ts_eqI rfl) (fun _ => ?_) (fun _ => ?_)
    · refine ⟨_, rfl, _, _, rfl, rfl, szM (by rw [l1, lenSg]; decide), _, _, rfl, rfl, szM (by rw [lenApp, l1, l2, lenSg]; decide), q _ H2 (sgApp (sgApp g1 scs) g2) (by rw [lenApp, lenApp, l1, l2, lenSg]; decide) b12 R2⟩
    refine ts_if (ts_eqI rfl) (fun _ => ?_) (fun _ => ?_)
    · refine ⟨_, rfl, _, _, rfl, rfl, szM (by rw [l2, lenSg]; decide), _, _, rfl, rfl, szM (by rw [lenApp, l2, lenSg]; decide), q _ H2 (sgApp (sgApp g2 scs) g2) (by rw [lenApp, lenApp, l2, lenSg]; decide) b12 R2⟩
    refine ts_if (ts_eqI rfl) (fun _ => ?_) (fun _ => ?_)
    · refine ⟨_, rfl, by show 3 ≤ sizeLine; decide, fun p np => ?_⟩
      refine ⟨r, _, rfl, R2.new np, .inr ⟨p, _, rfl, (R2.ne np).symm, SqL.of upd_same, by show 0 < 3; decide, fun v H3 hv b3 R3 => ?_⟩⟩
      obtain ⟨x, rfl, lx, sx⟩ := strsOk_mem (by decide +kernel) v hv
      refine ⟨_, rfl, _, _, rfl, rfl, szM (by rw [lenSg]; omega), ?_⟩
      refine ⟨_, rfl, by show 3 ≤ sizeLine; decide, fun p2 np2 => ?_⟩
      refine ⟨r, _, rfl, R3.new np2, .inr ⟨p2, _, rfl, (R3.ne np2).symm, SqL.of upd_same, by show 0 < 3; decide, fun v H4 hv b4 R4 => ?_⟩⟩
      obtain ⟨y, rfl, ly, sy⟩ := strsOk_mem (by decide +kernel) v hv
      exact ⟨_, _, rfl, rfl, szM (by rw [lenApp, lenSg]; omega), q _ H4 (sgApp (sgApp sx scs) sy) (by rw [lenApp, lenApp, lenSg]; omega) ((b12.trans ((But.new np).trans b3)).trans ((But.new np2).trans b4)) R4⟩
    refine ts_if (ts_eqI rfl) (fun _ => ?_) (fun _ => ?_)
    · exact q _ H2 (by decide +kernel) (by decide +kernel) b12 R2
    refine ⟨by show 13 ≤ sizeLine; decide, fun p1 np1 => ?_⟩
    obtain ⟨x1, hx1⟩ : ∃ x1 : List V, x1 = [.str "", .str "\"a", .str "a\"", .str "A", .str "aB", .str "_a", .str "~a", .str "1a", .str "a-b", .str "\"a\\\"", .str "\"a\\\\\"", .str "\"a\nb\"", .str "\"a\tb\""] := ⟨_, rfl⟩
    have e1 : upd H2 p1 (.lst [.str "", .str "\"a", .str "a\"", .str "A", .str "aB", .str "_a", .str "~a", .str "1a", .str "a-b", .str "\"a\\\"", .str "\"a\\\\\"", .str "\"a\nb\"", .str "\"a\tb\""]) = upd H2 p1 (.lst x1) := by rw [hx1]
    have l13 : x1.length = 13 := by rw [hx1]; rfl
    have ok1 : strsOk x1 = true := by rw [hx1]; decide +kernel
    rw [e1]
    refine ⟨_, rfl, by show 12 ≤ sizeLine; decide, fun p2 np2 => ?_⟩
    have k1 := (same_upd (o := .lst [.str "\"\\n\\t\\\\\"", .str "'a'", .str "\"\"a\"", .str "a b", .str "end", .str "a~1", .str "z9~_", .str "\") (\"", .str "\"\\\"\"", .str "(", .str "()", .str "a(b"]) np2) p1 (.lst x1) upd_same
    have R4 := (R2.new (o := .lst x1) np1).new (o := .lst [.str "\"\\n\\t\\\\\"", .str "'a'", .str "\"\"a\"", .str "a b", .str "end", .str "a~1", .str "z9~_", .str "\") (\"", .str "\"\\\"\"", .str "(", .str "()", .str "a(b"]) np2
    refine ⟨p1, p2, _, _, rfl, rfl, k1, upd_same, by rw [l13]; show 13 + 12 ≤ sizeLine; decide, fun p3 np3 => ?_⟩
    refine ⟨_, rfl, _, rfl, r, _, rfl, R4.new np3, .inr ⟨p3, _, rfl, (R4.ne np3).symm, SqL.of upd_same, by rw [List.length_append, l13]; omega, fun v H5 hv b5 R5 => ?_⟩⟩
    have hb : But r H H5 := ((b12.trans (But.new np1)).trans (But.new np2)).trans ((But.new np3).trans b5)
    rcases List.mem_append.mp hv with hv | hv
    · obtain ⟨x, rfl, lx, sx⟩ := strsOk_mem ok1 v hv
      exact q x H5 sx (by omega) hb R5
    · obtain ⟨x, rfl, lx, sx⟩ := strsOk_mem (by decide +kernel) v hv
      exact q x H5 sx (by omega) hb R5
def spChanged : Sp := fun vs H Q _ => ∃ (r : Addr) (z : Str), vs = [.ref r, .str z] ∧ ReelAt H r ∧ SgL (cs z) ∧ z.length ≤ 300000 ∧ ∀ (x : Str) H', SgL (cs x) → x.length ≤ z.length + 60 → But r H H' → ReelAt H' r → Q (.str x) H'
theorem ok_changed (T : Txt K mg) : FnOk P w K mg base CX0 4 T.a_law_changed T.fd_law_changed ["reel", "text"] spChanged := by
  have G_law_draw : FnOk P w K mg base CX0 1 T.a_law_draw T.fd_law_draw ["reel", "size"] spDraw := ok_draw T
  have G_law_pick : FnOk P w K mg base CX0 2 T.a_law_pick T.fd_law_pick ["reel", "row"] (spPick K) := ok_pick T
  have G_law_place : FnOk P w K mg base CX0 2 T.a_law_place T.fd_law_place ["reel", "size"] spPlace := ok_place T
  have G_law_sign : FnOk P w K mg base CX0 3 T.a_law_sign T.fd_law_sign ["reel"] spSign := ok_lsign T
  refine T.F_law_changed.ok sc_law_changed (fun vs H Q E h => ?_) (fun cdv A outer s H vs Q E hr h => ?_)
  · obtain ⟨r, z, rfl, _⟩ := h
    rfl
  · have hr_law_draw : Room 1 _ := hr.mono (by decide)
    have hr_law_pick : Room 2 _ := hr.mono (by decide)
    have hr_law_place : Room 2 _ := hr.mono (by decide)
    have hr_law_sign : Room 3 _ := hr
    obtain ⟨r, z, rfl, hR, sz, lz, q⟩ := h
    refine ⟨_, (pss_cons (ps_set (i := 2) sc_law_changed.nd rfl (.inl rfl) (pe_call G_law_draw hr_law_draw (by rfl) T.g_law_draw T.F_law_draw.kp T.b_law_draw .nil pass0 (pa_cons (pv 0) (pa_cons pe_int pa_nil))))
      (pss_cons (ps_set (i := 3) sc_law_changed.nd rfl (.inl rfl) (pe_call G_law_place hr_law_place (by rfl) T.g_law_place T.F_law_place.kp T.b_law_place .nil pass0 (pa_cons (pv 0) (pa_cons (pe_op op_add (pe_callB call_len_str (by rfl) T.m_len PySem.boot_len (pa_cons (pv 1) pa_nil)) pe_int) pa_nil))))
      (pss_cons (ps_set (i := 4) sc_law_changed.nd rfl (.inl rfl) (pe_call G_law_sign hr_law_sign (by rfl) T.g_law_sign T.F_law_sign.kp T.b_law_sign .nil pass0 (pa_cons (pv 0) pa_nil)))
      (pss_cons (ps_if (pt_cmpR op_eq (pv 2) pe_int (nomark _)) (pss_one (ps_ret (pe_slice sl_str (pv 1) po_none (po_some (pv 3))))) pss_nil)
      (pss_cons (ps_if (pt_cmpR op_eq (pv 2) pe_int (nomark _)) (pss_one (ps_ret (pe_op op_add_str (pv 1) (pe_call G_law_pick hr_law_pick (by rfl) T.g_law_pick T.F_law_pick.kp T.b_law_pick .nil pass0 (pa_cons (pv 0) (pa_cons (pe_lst (pa_cons pe_str (pa_cons pe_str (pa_cons pe_str (pa_cons pe_str (pa_cons pe_str (pa_cons pe_str (pa_cons pe_str (pa_cons pe_str (pa_cons pe_str pa_nil)))))))))) pa_nil)))))) pss_nil)
      (pss_cons (ps_if (pt_cmpR op_eq (pv 2) pe_int (nomark _)) (pss_one (ps_ret (pe_op op_add_str (pe_op op_add_str (pe_slice sl_str (pv 1) po_none (po_some (pv 3))) (pv 4)) (pe_slice sl_str (pv 1) (po_some (pv 3)) po_none)))) pss_nil)
      (pss_cons (ps_if (pt_cmpR op_eq (pv 2) pe_int (nomark _)) (pss_one (ps_ret (pe_op op_add_str (pe_op op_add_str (pe_slice sl_str (pv 1) po_none (po_some (pv 3))) (pv 4)) (pe_slice sl_str (pv 1) (po_some (pe_op op_add (pv 3) pe_int)) po_none)))) pss_nil)
      (pss_one (ps_ret (pe_op op_add_str (pe_slice sl_str (pv 1) po_none (po_some (pv 3))) (pe_slice sl_str (pv 1) (po_some (pe_op op_add (pe_op op_add (pv 3) pe_int) (pe_call G_law_draw hr_law_draw (by rfl) T.g_law_draw T.F_law_draw.kp T.b_law_draw .nil pass0 (pa_cons (pv 0) (pa_cons pe_int pa_nil))))) po_none))))))))))), ?_⟩
    have zM : z.length ≤ sizeLine := szM (by omega)
    refine ⟨_, rfl, r, 5, rfl, hR, by decide, fun v H1 v0 v1 b1 R1 => ?_⟩
    refine ⟨_, rfl, _, rfl, z, rfl, zM, _, _, rfl, rfl, r, (z.length : Int) + 1, rfl, R1, by omega, fun a H2 a0 a1 b2 R2 => ?_⟩
    obtain ⟨k, rfl⟩ : ∃ k : Nat, a = (k : Int) := ⟨a.toNat, by omega⟩
    refine ⟨_, rfl, r, rfl, R2, fun c H3 hc b3 R3 => ?_⟩
    have b13 := (b1.trans b2).trans b3
    have scs := sg_sg hc
    have epre : cs (cutS z none (some (k : Int))) = (cs z).take k := cut_pre z k
    have lpre : (cutS z none (some (k : Int))).length ≤ k := by rw [len_cs, epre, List.length_take]; omega
    have lk : k ≤ z.length := by omega
    have spre : SgL (cs (cutS z none (some (k : Int)))) := by rw [epre]; exact sz.take k
    have ssuf : ∀ n : Nat, SgL (cs (cutS z (some (n : Int)) none)) := fun n => by rw [cut_suf]; exact sz.drop n
    have lsuf : ∀ n : Nat, (cutS z (some (n : Int)) none).length ≤ z.length - n := fun n => by rw [len_cs, cut_suf, List.length_drop, ← len_cs]; omega
    refine ts_if (ts_eqI rfl) (fun _ => ?_) (fun _ => ?_)
    · exact ⟨_, rfl, _, rfl, _, rfl, z, rfl, zM, q _ H3 spre (by omega) b13 R3⟩
    refine ts_if (ts_eqI rfl) (fun _ => ?_) (fun _ => ?_)
    · refine ⟨_, rfl, _, rfl, by show 9 ≤ sizeLine; decide, fun p np => ?_⟩
      refine ⟨r, _, rfl, R3.new np, .inr ⟨p, _, rfl, (R3.ne np).symm, SqL.of upd_same, by show 0 < 9; decide, fun v H4 hv b4 R4 => ?_⟩⟩
      obtain ⟨x, rfl, lx, sx⟩ := strsOk_mem (by decide +kernel) v hv
      exact ⟨_, _, rfl, rfl, szM (by omega), q _ H4 (sgApp sz sx) (by rw [lenApp]; omega) (b13.trans ((But.new np).trans b4)) R4⟩
    refine ts_if (ts_eqI rfl) (fun _ => ?_) (fun _ => ?_)
    · have := lsuf k
      exact ⟨_, rfl, _, rfl, _, rfl, z, rfl, zM, _, rfl, _, _, rfl, rfl, szM (by rw [lenSg]; omega), _, rfl, _, rfl, _, rfl, z, rfl, zM, _, _, rfl, rfl, szM (by rw [lenApp, lenSg]; omega), q _ H3 (sgApp (sgApp spre scs) (ssuf k)) (by rw [lenApp, lenApp, lenSg]; omega) b13 R3⟩
    refine ts_if (ts_eqI rfl) (fun _ => ?_) (fun _ => ?_)
    · have l1 := lsuf (k + 1)
      have s1 := ssuf (k + 1)
      rw [show ((k + 1 : Nat) : Int) = (k : Int) + 1 by omega] at l1 s1
      exact ⟨_, rfl, _, rfl, _, rfl, z, rfl, zM, _, rfl, _, _, rfl, rfl, szM (by rw [lenSg]; omega), _, rfl, _, rfl, _, _, rfl, rfl, _, rfl, z, rfl, zM, _, _, rfl, rfl, szM (by rw [lenApp, lenSg]; omega), q _ H3 (sgApp (sgApp spre scs) s1) (by rw [lenApp, lenApp, lenSg]; omega) b13 R3⟩
    · refine ⟨_, rfl, _, rfl, _, rfl, z, rfl, zM, _, rfl, _, rfl, _, _, rfl, rfl, _, rfl, r, 2, rfl, R3, by decide, fun u H4 u0 u1 b4 R4 => ?_⟩
      obtain ⟨j, rfl⟩ : ∃ j : Nat, u = (j : Int) := ⟨u.toNat, by omega⟩
      have l1 := lsuf (k + 1 + j)
      have s1 := ssuf (k + 1 + j)
      rw [show ((k + 1 + j : Nat) : Int) = (k : Int) + 1 + (j : Int) by omega] at l1 s1
      exact ⟨_, _, rfl, rfl, _, rfl, z, rfl, zM, _, _, rfl, rfl, szM (by omega), q _ H4 (sgApp spre s1) (by rw [lenApp]; omega) (b13.trans b4) R4⟩

/-! ### spoilt tables -/
theorem call_list_ofK {X : Cx} {K : PySem.W.Frag} (h : X.K = K) : CallR X (.type "list") (fun xs H Q => ∃ p ys, xs = [V.ref p] ∧ (SqL K H p ys ∨ SqT K H p ys) ∧ ∀ l : Addr, H l = none → Q (.ref l) (upd H l (.lst ys))) := by
  subst h
  exact call_list_of
theorem pr_imp2 {α β : Type} {F G : α → β → Prop} : ∀ {xs : List α} {ys : List β}, Paired F xs ys → (∀ x y, x ∈ xs → y ∈ ys → F x y → G x y) → Paired G xs ys
  | _, _, .nil, _ => .nil
  | _, _, .cons r t, h => .cons (h _ _ List.mem_cons_self List.mem_cons_self r) (pr_imp2 t fun x y hx hy => h x y (List.mem_cons_of_mem _ hx) (List.mem_cons_of_mem _ hy))
theorem ws_ne {H : Hp} {r g : Addr} {ws : List Str} (R : ReelAt H r) (h : H g = some (.lst (ws.map V.str))) (n : ws ≠ []) : g ≠ r := fun e => by
  obtain ⟨z, c, h1, _⟩ := R
  rw [e, h1] at h
  cases ws with
  | nil => exact n rfl
  | cons w ws => cases h
theorem tab_ne {H : Hp} {r l : Addr} {us : List V} {W : List (List Str)} (R : ReelAt H r) (h : H l = some (.lst us)) (hp : Paired (WsAt H) us W) (n : W ≠ []) : l ≠ r := fun e => by
  obtain ⟨z, c, h1, _⟩ := R
  rw [e, h1] at h
  cases hp with
  | nil => exact n rfl
  | cons r t =>
    obtain ⟨g, e, _⟩ := r
    subst e
    cases h
theorem TabAt.but {H H' : Hp} {l r : Addr} {W : List (List Str)} (h : TabAt H l W) (b : But r H H') (R : ReelAt H r) (n : W ≠ []) (ok : ∀ ws ∈ W, WOk ws) : TabAt H' l W := by
  obtain ⟨us, h1, h2⟩ := h
  refine ⟨us, b _ _ (tab_ne R h1 h2 n) h1, pr_imp2 h2 fun x y _ hy k => ?_⟩
  obtain ⟨g, e, hg⟩ := k
  refine ⟨g, e, b _ _ (ws_ne R hg fun e => ?_) hg⟩
  have := (ok y hy).1
  rw [e] at this
  cases this
def spTexts (n : Nat) : Sp := fun vs H Q _ => ∃ (r lv tb : Addr) (L : List Int) (W : List (List Str)), vs = [.ref r, .ref lv, .ref tb] ∧ ReelAt H r ∧ lv ≠ r ∧ LevsAt H lv L ∧ Lev L ∧ TabAt H tb W ∧ W.length = L.length ∧ L.length ≤ 200 ∧ (∀ ws ∈ W, WOk ws) ∧
  ∀ (x : Str) H', SgL (cs x) → x.length ≤ n → But r H H' → ReelAt H' r → Q (.str x) H'
theorem zip_sg {L : List Int} {W : List (List Str)} (ok : ∀ ws ∈ W, WOk ws) : SgL (textG (L.zip (W.map jn))) := text_sg fun p hp => by
  obtain ⟨a, b⟩ := p
  obtain ⟨ws, hws, rfl⟩ := List.mem_map.mp (List.of_mem_zip hp).2
  exact (jn_ok ws (ok ws hws).2).2
theorem ok_other_words (T : Txt K mg) : FnOk P w K mg base CX0 5 T.a_law_other_words T.fd_law_other_words ["reel", "levels", "table"] (spTexts 250000) := by
  have G_law_pick : FnOk P w K mg base CX0 2 T.a_law_pick T.fd_law_pick ["reel", "row"] (spPick K) := ok_pick T
  have G_law_place : FnOk P w K mg base CX0 2 T.a_law_place T.fd_law_place ["reel", "size"] spPlace := ok_place T
  have G_law_odd_number : FnOk P w K mg base CX0 3 T.a_law_odd_number T.fd_law_odd_number ["reel"] spOdd := ok_odd_number T
  have G_law_odd_word : FnOk P w K mg base CX0 4 T.a_law_odd_word T.fd_law_odd_word ["reel"] spOdd := ok_odd_word T
  have G_law_joined : FnOk P w K mg base CX0 1 T.a_law_joined T.fd_law_joined ["levels", "table"] spJoined := ok_joined T
  refine T.F_law_other_words.ok sc_law_other_words (fun vs H Q E h => ?_) (fun cdv A outer s H vs Q E hr h => ?_)
  · obtain ⟨r, lv, tb, L, W, rfl, _⟩ := h
    rfl
  · have hr_law_pick : Room 2 _ := hr.mono (by decide)
    have hr_law_place : Room 2 _ := hr.mono (by decide)
    have hr_law_odd_number : Room 3 _ := hr.mono (by decide)
    have hr_law_odd_word : Room 4 _ := hr
    have hr_law_joined : Room 1 _ := hr.mono (by decide)
    obtain ⟨r, lv, tb, L, W, rfl, hR, nlr, hL, lev, hT, lW, lL, ok, q⟩ := h
    refine ⟨_, (pss_cons (ps_set (i := 3) sc_law_other_words.nd rfl (.inl rfl) (pe_call G_law_place hr_law_place (by rfl) T.g_law_place T.F_law_place.kp T.b_law_place .nil pass0 (pa_cons (pv 0) (pa_cons (pe_callB call_len_seq (by rfl) T.m_len PySem.boot_len (pa_cons (pv 1) pa_nil)) pa_nil))))
      (pss_cons (ps_set (i := 4) sc_law_other_words.nd rfl (.inl rfl) (pe_call G_law_pick hr_law_pick (by rfl) T.g_law_pick T.F_law_pick.kp T.b_law_pick .nil pass0 (pa_cons (pv 0) (pa_cons (pe_lst (pa_cons pe_int (pa_cons pe_int (pa_cons pe_int (pa_cons pe_int (pa_cons pe_int (pa_cons pe_int (pa_cons pe_int (pa_cons pe_int (pa_cons pe_int (pa_cons pe_int (pa_cons pe_int (pa_cons pe_int pa_nil))))))))))))) pa_nil))))
      (pss_cons (ps_set (i := 5) sc_law_other_words.nd rfl (.inl rfl) (pe_call G_law_odd_number hr_law_odd_number (by rfl) T.g_law_odd_number T.F_law_odd_number.kp T.b_law_odd_number .nil pass0 (pa_cons (pv 0) pa_nil)))
      (C8.pss_cut (ps_if (pt_cmpR op_lt (pv 4) pe_int (nomark _)) (pss_one (ps_set (i := 5) sc_law_other_words.nd rfl (.inl rfl) (pe_call G_law_odd_word hr_law_odd_word (by rfl) T.g_law_odd_word T.F_law_odd_word.kp T.b_law_odd_word .nil pass0 (pa_cons (pv 0) pa_nil)))) pss_nil)
      (pss_cons (ps_setLc (i := 6) (own := [("words", 7)]) (g := gName 7) (by rfl) sc_law_other_words.nd rfl rfl (sw_true rfl rfl rfl (by decide +kernel)) (pi_list (pv 2)) (blkOk_by (own := [("words", 7)]) (N := ["reel", "levels", "table", "at", "slot", "word", "spoilt", "words"]) (sc := defScope s_law_other_words) (by decide +kernel)) (fun _ _ _ _ _ => pg_name (i := 7) sc_law_other_words.nd rfl (Or.inl rfl)) (fun _ _ _ _ _ => pts_nil) (fun _ _ _ _ _ => (pe_callTy (call_list_ofK (K := K) rfl) (by rfl) T.m_list (by decide +kernel) (pa_cons (pv 7) pa_nil))))
      (pss_cons (ps_asg (pv 5) (pg_sub (pe_ix ix_list (pv 6) (pv 3) (fun _ _ => rfl)) (pv 4) set_list))
      (pss_one (ps_ret (pe_call G_law_joined hr_law_joined (by rfl) T.g_law_joined T.F_law_joined.kp T.b_law_joined .nil pass0 (pa_cons (pv 1) (pa_cons (pv 6) pa_nil))))))))))), ?_⟩
    have lpos : 0 < L.length := by
      obtain ⟨ls, rfl, _⟩ := lev
      exact Nat.succ_pos _
    have Wn : W ≠ [] := fun e => by rw [e] at lW; rw [← lW] at lpos; exact absurd lpos (by decide)
    refine ⟨_, rfl, _, rfl, lv, _, rfl, .inl (SqL.of hL), r, _, rfl, hR, by rw [List.length_map]; omega, fun a H1 a0 a1 b1 R1 => ?_⟩
    rw [List.length_map] at a1
    obtain ⟨k, rfl⟩ : ∃ k : Nat, a = (k : Int) := ⟨a.toNat, by omega⟩
    refine ⟨_, rfl, by show 12 ≤ sizeLine; decide, fun p np => ?_⟩
    refine ⟨r, _, rfl, R1.new np, .inr ⟨p, _, rfl, (R1.ne np).symm, SqL.of upd_same, by show 0 < 12; decide, fun v H2 hv b2 R2 => ?_⟩⟩
    obtain ⟨sl, rfl, s0, s7⟩ := intsIn_mem (lo := 0) (hi := 7) (by decide +kernel) v hv
    obtain ⟨j, rfl⟩ : ∃ j : Nat, sl = (j : Int) := ⟨sl.toNat, by omega⟩
    have b02 := b1.trans ((But.new np).trans b2)
    refine ⟨_, rfl, r, rfl, R2, fun x0 H3 sx0 lx0 b3 R3 => ?_⟩
    refine ⟨fun σ H' => But r H H' ∧ ReelAt H' r ∧ ∃ x : Str, SgL (cs x) ∧ x.length ≤ 60 ∧ σ = [some (.ref r), some (.ref lv), some (.ref tb), some (.int (k : Int)), some (.int (j : Int)), some (.str x), none, none], ?_, ?_⟩
    · refine ts_ite (ts_ltI rfl) (fun _ => ?_) (fun _ => ⟨b02.trans b3, R3, x0, sx0, lx0, rfl⟩)
      exact ⟨_, rfl, r, rfl, R3, fun x H4 sx lx b4 R4 => ⟨(b02.trans b3).trans b4, R4, x, sx, lx, rfl⟩⟩
    · rintro σ H4 ⟨b4, R4, x, sx, lx, rfl⟩
      have hL4 : LevsAt H4 lv L := b4 _ _ nlr hL
      obtain ⟨us, ht, hu⟩ := hT.but b4 hR Wn ok
      have lus := paired_len hu
      refine ⟨_, rfl, tb, rfl, ⟨_, SqL.of ht⟩, fun D nD => ?_⟩
      refine lc_it (walk_list (K := K) (a := tb) (xs := us)) (fun i H' => But D H4 H' ∧ ∃ gs : List Addr, H' D = some (.lst (gs.map V.ref)) ∧ gs.Nodup ∧ D ∉ gs ∧ (∀ g ∈ gs, H4 g = none) ∧ Paired (fun g ws => H' g = some (.lst (List.map V.str ws))) gs (W.take i)) ⟨But.new nD, [], upd_same, List.nodup_nil, List.not_mem_nil, fun g hg => absurd hg List.not_mem_nil, .nil⟩ (fun i H' _ ⟨b, _⟩ => SqL.of (b _ _ (ne_of_none ht nD) ht)) ?_ ?_
      · rintro i v Hx H5 hi ⟨b5, gs, hD, hnd, hDg, hfr, hp⟩ ⟨rfl, hv⟩
        have hv : us[i]? = some v := hv
        obtain ⟨ws, hws⟩ : ∃ ws, W[i]? = some ws := ⟨_, List.getElem?_eq_getElem (by rw [← lus]; exact (List.getElem?_eq_some_iff.mp hv).1)⟩
        obtain ⟨v', hv', g0, rfl, hg0⟩ := paired_get hu hws
        rw [hv] at hv'
        obtain rfl := Option.some.inj hv'
        have hg5 := b5 _ _ (ne_of_none hg0 nD) hg0
        refine ⟨rfl, _, rfl, g0, _, rfl, .inl (SqL.of hg5), fun g ng => ?_⟩
        have hDg2 : D ≠ g := ne_of_none hD ng
        have hD2 : (upd H5 g (.lst (ws.map V.str))) D = some (.lst (gs.map V.ref)) := by rw [upd_ne hDg2]; exact hD
        have lgs := paired_len hp
        rw [List.length_take] at lgs
        have ng4 : H4 g = none := b5.free hDg2.symm ng
        have gn : g ∉ gs := fun hm => by
          obtain ⟨n, hn1, hn2⟩ := List.getElem_of_mem hm
          obtain ⟨y, hy⟩ : ∃ y, (W.take i)[n]? = some y := ⟨_, List.getElem?_eq_getElem (by rw [← paired_len hp]; exact hn1)⟩
          obtain ⟨g', hg', hh⟩ := paired_get hp hy
          rw [List.getElem?_eq_getElem hn1, hn2] at hg'
          obtain rfl := Option.some.inj hg'
          rw [ng] at hh
          cases hh
        refine ⟨_, hD2, sz2 (by rw [List.length_map]; omega), ?_, gs ++ [g], by rw [upd_same, List.map_append]; rfl, ?_, ?_, ?_, ?_⟩
        · intro c o nc e
          rw [upd_ne nc, upd_ne (fun z => by rw [z, ng4] at e; cases e)]
          exact b5 c o nc e
        · rw [List.nodup_append]
          refine ⟨hnd, List.nodup_cons.mpr ⟨List.not_mem_nil, List.nodup_nil⟩, fun a ha b hb => ?_⟩
          rw [List.mem_singleton.mp hb]
          exact fun e => gn (by rw [← e]; exact ha)
        · intro hm
          rcases List.mem_append.mp hm with hm | hm
          · exact hDg hm
          · exact hDg2 (List.mem_singleton.mp hm)
        · intro y hy
          rcases List.mem_append.mp hy with hy | hy
          · exact hfr y hy
          · rw [List.mem_singleton.mp hy]
            exact ng4
        · rw [takeN hws]
          refine paired_app (pr_imp2 hp fun y zs hy _ hh => ?_) (.cons ?_ .nil)
          · rw [upd_ne (fun e => hDg (by rw [← e]; exact hy)), upd_ne (fun e => gn (by rw [← e]; exact hy))]
            exact hh
          · show (upd (upd H5 g _) D _) g = _
            rw [upd_ne hDg2.symm]
            exact upd_same
      · rintro H5 ⟨b5, gs, hD, hnd, hDg, hfr, hp⟩
        rw [lus, List.take_length] at hp
        have lgs := paired_len hp
        have hk : k < W.length := by omega
        obtain ⟨ws, hws⟩ : ∃ ws, W[k]? = some ws := ⟨_, List.getElem?_eq_getElem hk⟩
        obtain ⟨g, hg, hgw⟩ := paired_get hp hws
        have okw := ok ws (List.mem_of_getElem? hws)
        have ixS : ixN (ws.map V.str).length (j : Int) = some j := by
          unfold ixN
          rw [List.length_map, okw.1, if_pos (by omega), if_pos (by omega)]
          rfl
        have gm : g ∈ gs := List.mem_of_getElem? hg
        refine ⟨_, rfl, _, rfl, _, rfl, D, _, _, .ref g, rfl, rfl, SqL.of hD, atI_nat (by rw [List.getElem?_map, hg]; rfl), _, rfl, g, _, _, j, rfl, rfl, hgw, ixS, ?_⟩
        have esh : (ws.map V.str).set j (.str x) = (ws.set j x).map V.str := (List.map_set).symm
        rw [esh]
        obtain ⟨H6, hH6⟩ : ∃ H6, H6 = upd H5 g (.lst ((ws.set j x).map V.str)) := ⟨_, rfl⟩
        rw [← hH6]
        have okn : WOk (ws.set j x) := ⟨by rw [List.length_set]; exact okw.1, fun y hy => by
          rcases List.mem_or_eq_of_mem_set hy with h | h
          · exact okw.2 y h
          · rw [h]
            exact ⟨lx, sx⟩⟩
        have okW : ∀ zs ∈ W.set k (ws.set j x), WOk zs := fun zs hz => by
          rcases List.mem_or_eq_of_mem_set hz with h | h
          · exact ok zs h
          · rw [h]
            exact okn
        have hT6 : TabAt H6 D (W.set k (ws.set j x)) := by
          refine ⟨gs.map V.ref, by rw [hH6, upd_ne (fun e => hDg (by rw [e]; exact gm))]; exact hD, ?_⟩
          have key : ∀ (n : Nat) (zs : List Str), (W.set k (ws.set j x))[n]? = some zs → ∃ g', gs[n]? = some g' ∧ H6 g' = some (.lst (zs.map V.str)) := fun n zs hn => by
            by_cases e : k = n
            · subst e
              rw [List.getElem?_set_self hk] at hn
              obtain rfl := Option.some.inj hn
              exact ⟨g, hg, by rw [hH6]; exact upd_same⟩
            · rw [List.getElem?_set_ne e] at hn
              obtain ⟨g', hg', hh⟩ := paired_get hp hn
              refine ⟨g', hg', ?_⟩
              rw [hH6, upd_ne (fun e2 => e (nd_ix hnd hg (by rw [← e2]; exact hg')))]
              exact hh
          have mk : ∀ (as : List Addr) (Z : List (List Str)), as.length = Z.length → (∀ (n : Nat) (zs : List Str), Z[n]? = some zs → ∃ g', as[n]? = some g' ∧ H6 g' = some (.lst (zs.map V.str))) → Paired (WsAt H6) (as.map V.ref) Z := fun as => by
            induction as with
            | nil =>
              intro Z lz _
              cases Z with
              | nil => exact .nil
              | cons z Z => cases lz
            | cons a as ih =>
              intro Z lz h
              cases Z with
              | nil => cases lz
              | cons z Z =>
                obtain ⟨g', hg', hh⟩ := h 0 z rfl
                obtain rfl : a = g' := Option.some.inj hg'
                exact .cons ⟨a, rfl, hh⟩ (ih Z (Nat.succ.inj lz) fun n zs hn => h (n + 1) zs hn)
          exact mk gs _ (by rw [List.length_set]; exact lgs) key
        have b46 : But r H4 H6 := fun c o nc e => by
          have ncD : c ≠ D := ne_of_none e nD
          rw [hH6, upd_ne (fun z => by rw [z, hfr g gm] at e; cases e)]
          exact b5 c o ncD e
        have hL6 : LevsAt H6 lv L := b46 _ _ nlr hL4
        have R6 : ReelAt H6 r := by
          obtain ⟨z, c, h1, h2⟩ := R4
          refine ⟨z, c, ?_, h2⟩
          rw [hH6, upd_ne (fun e => by rw [e, hfr g gm] at h1; cases h1)]
          exact b5 _ _ (ne_of_none h1 nD) h1
        refine ⟨_, rfl, _, rfl, lv, D, L, _, rfl, hL6, lev, hT6, by rw [List.length_set]; exact lW, lL, okW, fun y H7 s7 ey ly => ?_⟩
        refine q y H7 (by rw [ey]; exact zip_sg okW) (by omega) ((b4.trans b46).trans (But.of s7)) ?_
        obtain ⟨z, c, h1, h2⟩ := R6
        exact ⟨z, c, s7 _ _ h1, h2⟩
theorem ReelAt.same {H H' : Hp} {r : Addr} (h : ReelAt H r) (s : Same H H') : ReelAt H' r := by
  obtain ⟨z, c, h1, h2⟩ := h
  exact ⟨z, c, s _ _ h1, h2⟩
theorem ok_spoilt (T : Txt K mg) : FnOk P w K mg base CX0 6 T.a_law_spoilt T.fd_law_spoilt ["reel", "levels", "table"] (spTexts 260000) := by
  have G_law_draw : FnOk P w K mg base CX0 1 T.a_law_draw T.fd_law_draw ["reel", "size"] spDraw := ok_draw T
  have G_law_joined : FnOk P w K mg base CX0 1 T.a_law_joined T.fd_law_joined ["levels", "table"] spJoined := ok_joined T
  have G_law_other_words : FnOk P w K mg base CX0 5 T.a_law_other_words T.fd_law_other_words ["reel", "levels", "table"] (spTexts 250000) := ok_other_words T
  have G_law_changed : FnOk P w K mg base CX0 4 T.a_law_changed T.fd_law_changed ["reel", "text"] spChanged := ok_changed T
  refine T.F_law_spoilt.ok sc_law_spoilt (fun vs H Q E h => ?_) (fun cdv A outer s H vs Q E hr h => ?_)
  · obtain ⟨r, lv, tb, L, W, rfl, _⟩ := h
    rfl
  · have hr_law_draw : Room 1 _ := hr.mono (by decide)
    have hr_law_joined : Room 1 _ := hr.mono (by decide)
    have hr_law_other_words : Room 5 _ := hr
    have hr_law_changed : Room 4 _ := hr.mono (by decide)
    obtain ⟨r, lv, tb, L, W, rfl, hR, nlr, hL, lev, hT, lW, lL, ok, q⟩ := h
    have Wn : W ≠ [] := fun e => by
      obtain ⟨ls, rfl, _⟩ := lev
      rw [e] at lW
      cases lW
    refine ⟨_, (pss_cons (ps_set (i := 3) sc_law_spoilt.nd rfl (.inl rfl) (pe_call G_law_draw hr_law_draw (by rfl) T.g_law_draw T.F_law_draw.kp T.b_law_draw .nil pass0 (pa_cons (pv 0) (pa_cons pe_int pa_nil))))
      (pss_cons (ps_set (i := 4) sc_law_spoilt.nd rfl (.inl rfl) (pe_call G_law_joined hr_law_joined (by rfl) T.g_law_joined T.F_law_joined.kp T.b_law_joined .nil pass0 (pa_cons (pv 1) (pa_cons (pv 2) pa_nil))))
      (C8.pss_cut (ps_if (pt_cmpR op_gt (pv 3) pe_int (nomark _)) (pss_one (ps_set (i := 4) sc_law_spoilt.nd rfl (.inl rfl) (pe_call G_law_other_words hr_law_other_words (by rfl) T.g_law_other_words T.F_law_other_words.kp T.b_law_other_words .nil pass0 (pa_cons (pv 0) (pa_cons (pv 1) (pa_cons (pv 2) pa_nil)))))) pss_nil)
      (C8.pss_cut (ps_if (PW.pt (pw_and (pt_cmpR op_gt (pv 3) pe_int (nomark _)) (pw_and1 (PW.pt (pw_or (pt_cmpR op_lt (pv 3) pe_int (nomark _)) (pw_or1 (pt_cmpR op_eq (pe_call G_law_draw hr_law_draw (by rfl) T.g_law_draw T.F_law_draw.kp T.b_law_draw .nil pass0 (pa_cons (pv 0) (pa_cons pe_int pa_nil))) pe_int (nomark _)))))))) (pss_one (ps_set (i := 4) sc_law_spoilt.nd rfl (.inl rfl) (pe_call G_law_changed hr_law_changed (by rfl) T.g_law_changed T.F_law_changed.kp T.b_law_changed .nil pass0 (pa_cons (pv 0) (pa_cons (pv 4) pa_nil))))) pss_nil)
      (pss_one (ps_ret (pv 4))))))), ?_⟩
    refine ⟨_, rfl, r, 12, rfl, hR, by decide, fun f H1 f0 f1 b1 R1 => ?_⟩
    have hL1 : LevsAt H1 lv L := b1 _ _ nlr hL
    have hT1 := hT.but b1 hR Wn ok
    refine ⟨_, rfl, _, rfl, lv, tb, L, W, rfl, hL1, lev, hT1, lW, lL, ok, fun y H2 s2 ey ly => ?_⟩
    have R2 := R1.same s2
    have b02 := b1.trans (But.of s2)
    refine ⟨fun σ H' => But r H H' ∧ ReelAt H' r ∧ ∃ x : Str, SgL (cs x) ∧ x.length ≤ 250000 ∧ σ = [some (.ref r), some (.ref lv), some (.ref tb), some (.int f), some (.str x)], ?_, ?_⟩
    · refine ts_ite (ts_gtI rfl) (fun _ => ?_) (fun _ => ⟨b02, R2, y, by rw [ey]; exact zip_sg ok, by omega, rfl⟩)
      have hL2 : LevsAt H2 lv L := s2 _ _ hL1
      exact ⟨_, rfl, _, rfl, _, rfl, r, lv, tb, L, W, rfl, R2, nlr, hL2, lev, hT1.same s2, lW, lL, ok, fun x H3 sx lx b3 R3 => ⟨b02.trans b3, R3, x, sx, lx, rfl⟩⟩
    · rintro σ H3 ⟨b3, R3, x, sx, lx, rfl⟩
      refine ⟨fun σ H' => But r H H' ∧ ReelAt H' r ∧ ∃ x : Str, SgL (cs x) ∧ x.length ≤ 260000 ∧ σ = [some (.ref r), some (.ref lv), some (.ref tb), some (.int f), some (.str x)], ?_, ?_⟩
      · refine if_ev (fun H4 => But r H3 H4 ∧ ReelAt H4 r) (fun Qb qb => ?_) (fun H4 h4 => ?_) (fun H4 h4 => ⟨b3.trans h4.1, h4.2, x, sx, by omega, rfl⟩)
        · refine (ts_gtI rfl) _ fun b _ => ?_
          cases b
          · exact iteF (qb _ _ ⟨But.refl _ _, R3⟩)
          · refine iteT ((ts_ltI rfl) _ fun b _ => ?_)
            cases b
            · exact iteF ⟨_, rfl, r, 4, rfl, R3, by decide, fun v H4 v0 v1 b4 R4 => ⟨rfl, _, rfl, qb _ _ ⟨b4, R4⟩⟩⟩
            · exact iteT (qb _ _ ⟨But.refl _ _, R3⟩)
        · exact ⟨_, rfl, _, rfl, r, x, rfl, h4.2, sx, by omega, fun x2 H5 sx2 lx2 b5 R5 => ⟨(b3.trans h4.1).trans b5, R5, x2, sx2, by omega, rfl⟩⟩
      · rintro σ H4 ⟨b4, R4, x, sx, lx, rfl⟩
        exact ⟨_, rfl, q x H4 sx lx b4 R4⟩

/-! ### a tree's text once more -/
mutual
theorem rows_facts (l : Int) : ∀ t : Tr, TrNum t → ∀ x ∈ t.rows l, NumNd x.2 ∧ l ≤ x.1 ∧ x.1 < l + (t.size : Int) ∧ (wd x.2).length ≤ t.wr.length
  | .mk p d ks, h, x, hx => by
    have hs : (Tr.mk p d ks).size = 1 + sizesL ks := rfl
    have hw : (Tr.mk p d ks).wr.length = 1 + ((wd d).length + ((wrL ks).length + 1)) := by
      show (40 :: (wd d ++ (wrL ks ++ [41]))).length = _
      rw [List.length_cons, List.length_append, List.length_append, List.length_singleton, Nat.add_comm]
    rw [hs, hw]
    rcases List.mem_cons.mp hx with rfl | hx
    · exact ⟨h.1, Int.le_refl _, by show l < _; omega, by show (wd d).length ≤ _; omega⟩
    · obtain ⟨h1, h2, h3, h4⟩ := rowsL_facts (l + 1) ks h.2 x hx
      exact ⟨h1, by omega, by omega, by omega⟩
theorem rowsL_facts (l : Int) : ∀ ts : List Tr, TrsNum ts → ∀ x ∈ rowsL l ts, NumNd x.2 ∧ l ≤ x.1 ∧ x.1 < l + (sizesL ts : Int) ∧ (wd x.2).length ≤ (wrL ts).length
  | [], _, x, hx => absurd hx List.not_mem_nil
  | t :: ts, h, x, hx => by
    have hs : sizesL (t :: ts) = t.size + sizesL ts := rfl
    have hw : (wrL (t :: ts)).length = t.wr.length + (wrL ts).length + 1 := by
      show (32 :: (t.wr ++ wrL ts)).length = _
      rw [List.length_cons, List.length_append]
    rw [hs, hw]
    rcases List.mem_append.mp hx with hx | hx
    · obtain ⟨h1, h2, h3, h4⟩ := rows_facts l t h.1 x hx
      exact ⟨h1, h2, by omega, by omega⟩
    · obtain ⟨h1, h2, h3, h4⟩ := rowsL_facts l ts h.2 x hx
      exact ⟨h1, h2, by omega, by omega⟩
end
mutual
theorem size_wr : ∀ t : Tr, t.size ≤ t.wr.count 40
  | .mk p d ks => by
    have ih := sizes_wr ks
    show 1 + sizesL ks ≤ (40 :: (wd d ++ (wrL ks ++ [41]))).count 40
    rw [List.count_cons_self, List.count_append, List.count_append]
    omega
theorem sizes_wr : ∀ ts : List Tr, sizesL ts ≤ (wrL ts).count 40
  | [] => Nat.le_refl _
  | t :: ts => by
    have h1 := size_wr t
    have h2 := sizes_wr ts
    show t.size + sizesL ts ≤ (32 :: (t.wr ++ wrL ts)).count 40
    rw [List.count_cons_of_ne (by decide), List.count_append]
    omega
end
theorem words_le (d : Nd) : ((wordsD d).map fun x : Str => x.length).sum ≤ (wd d).length := by
  have e := congrArg List.length (wd_eq d)
  simp only [List.length_append, List.length_cons] at e
  show (d.kind.length + (d.sym.length + ((Str.ofString (toString d.st)).length + ((Str.ofString (toString d.lead)).length + ((Str.ofString (toString d.wid)).length + ((Str.ofString (toString d.look)).length + ((Str.ofString (toString d.alt)).length + ((Str.ofString (toString d.pop)).length + 0)))))))) ≤ _
  unfold numT at e
  simp only [← len_cs] at e
  omega
def gR (R : List Rw) : List Rg := R.map fun r => (r.1, wd r.2)
theorem lastG_mem : ∀ (rs : List Rg) (a : Int), lastG a rs = a ∨ ∃ r ∈ rs, lastG a rs = r.1
  | [], _ => .inl rfl
  | r :: rs, _ => by
    rcases lastG_mem rs r.1 with h | ⟨x, hx, h⟩
    · exact .inr ⟨r, List.mem_cons_self, h⟩
    · exact .inr ⟨x, List.mem_cons_of_mem _ hx, h⟩
theorem flat_len_le : ∀ (rs qs : List Rg) (a : Int), (piecesG a rs).flatten.length ≤ (piecesG a (rs ++ qs)).flatten.length
  | [], _, _ => Nat.zero_le _
  | r :: rs, qs, a => by
    have ih := flat_len_le rs qs r.1
    show (pieceG a r ++ (piecesG r.1 rs).flatten).length ≤ (pieceG a r ++ (piecesG r.1 (rs ++ qs)).flatten).length
    rw [List.length_append, List.length_append]
    omega
def spAgain (K : PySem.W.Frag) (C : Addr) : Sp := fun vs H Q _ => ∃ (t : Tr) (m : Int), vs = [.ref t.at, .int m] ∧ NodeAt K C H t ∧ TrNum t ∧ t.wr.length ≤ 300000 ∧ (t.size : Int) + 1 ≤ m ∧ m ≤ 4000000 ∧ ∀ (x : Str) H', Same H H' → cs x = t.wr → Q (.str x) H'
theorem ok_again (T : Txt K mg) : FnOk P w K mg base CX0 1 T.a_law_again T.fd_law_again ["root", "most"] (spAgain K T.C_Node) := by
  refine T.F_law_again.ok sc_law_again (fun vs H Q E h => ?_) (fun cdv A outer s H vs Q E hr h => ?_)
  · obtain ⟨t, m, rfl, _⟩ := h
    rfl
  · obtain ⟨t, m, rfl, ht, tn0, lwr, hm1, hm2, q⟩ := h
    refine ⟨_, (pss_cons (ps_set (i := 2) sc_law_again.nd rfl (.inl rfl) (pe_lst pa_nil))
      (pss_cons (ps_set (i := 3) sc_law_again.nd rfl (.inl rfl) (pe_lst (pa_cons (pe_tup (pa_cons pe_int (pa_cons (pv 0) pa_nil))) pa_nil)))
      (pss_cons (ps_set (i := 4) sc_law_again.nd rfl (.inl rfl) (pe_un un_neg pe_int))
      (pss_cons (ps_for PassesOwn.never rfl (pi_range1 (by rfl) T.m_range (pa_cons (pv 1) pa_nil)) (pg_name (i := 5) sc_law_again.nd rfl (.inl rfl)) (pss_cons (ps_if (pt_not (pt_truth (pv 3) (by intro _; rfl))) (pss_one (ps_ret (pe_op op_add_str (pe_slice sl_str (pe_join pe_str (pv 2)) (po_some pe_int) po_none) (pe_op OwnOp.op_mulN pe_str (pe_op op_add (pv 4) pe_int))))) pss_nil)
      (pss_cons (ps_asg (pe_bm0 PySem.F.plainAttrs_list PySem.F.slot_list_pop PySem.F.type_list_pop mt_pop (pv 3)) (pg_tup (by rfl) (pgs_cons (pg_name (i := 6) sc_law_again.nd rfl (.inl rfl)) (pgs_cons (pg_name (i := 7) sc_law_again.nd rfl (.inl rfl)) pgs_nil))))
      (pss_cons (ps_if (PW.pt (pw_or (pt_not (pt_val (pe_callB (C8.call_isC T.IC_Node) (by rfl) T.m_isinstance (by decide +kernel) (pa_cons (pv 7) (pa_cons (pe_glob (v := .ref T.C_Node) (by rfl) T.G_Node rfl) pa_nil))))) (pw_or1 (pt_not (pt_val (pe_callB call_isi (by rfl) T.m_isinstance (by decide +kernel) (pa_cons (pe_fld (pv 7) rfl) (pa_cons (pe_bltn (v := .ty "tuple") (by rfl) T.m_tuple (by decide +kernel) rfl) pa_nil)))))))) (pss_one (ps_ret pe_str)) pss_nil)
      (pss_cons (ps_set (i := 8) sc_law_again.nd rfl (.inl rfl) (pe_lst (pa_cons (pe_fld (pv 7) rfl) (pa_cons (pe_fld (pv 7) rfl) (pa_cons (pe_fld (pv 7) rfl) (pa_cons (pe_fld (pv 7) rfl) (pa_cons (pe_fld (pv 7) rfl) (pa_cons (pe_fld (pv 7) rfl) pa_nil))))))))
      (pss_cons (ps_for PassesOwn.never rfl (pi_list (pv 8)) (pg_name (i := 9) sc_law_again.nd rfl (.inl rfl)) (pss_one (ps_if (PW.pt (pw_or (pt_not (pt_val (pe_callB call_isi (by rfl) T.m_isinstance (by decide +kernel) (pa_cons (pv 9) (pa_cons (pe_bltn (v := .ty "int") (by rfl) T.m_int (by decide +kernel) rfl) pa_nil))))) (pw_or1 (pt_val (pe_callB call_isi (by rfl) T.m_isinstance (by decide +kernel) (pa_cons (pv 9) (pa_cons (pe_bltn (v := .ty "bool") (by rfl) T.m_bool (by decide +kernel) rfl) pa_nil))))))) (pss_one (ps_ret pe_str)) pss_nil)))
      (pss_cons (ps_if (PW.pt (pw_or (pt_not (pt_val (pe_callB call_isi (by rfl) T.m_isinstance (by decide +kernel) (pa_cons (pe_fld (pv 7) rfl) (pa_cons (pe_bltn (v := .ty "str") (by rfl) T.m_str (by decide +kernel) rfl) pa_nil))))) (pw_or1 (pt_not (pt_val (pe_callB call_isi (by rfl) T.m_isinstance (by decide +kernel) (pa_cons (pe_fld (pv 7) rfl) (pa_cons (pe_bltn (v := .ty "str") (by rfl) T.m_str (by decide +kernel) rfl) pa_nil)))))))) (pss_one (ps_ret pe_str)) pss_nil)
      (pss_cons (ps_set (i := 10) sc_law_again.nd rfl (.inl rfl) (pe_op op_cat (pe_lst (pa_cons (pe_fld (pv 7) rfl) (pa_cons (pe_fld (pv 7) rfl) pa_nil))) (pe_lc (own := [("number", 9)]) (g := gName 9) (by rfl) sc_law_again.nd (pi_list (pv 8)) (blkOk_by (own := [("number", 9)]) (N := ["root", "most", "pieces", "todo", "last", "turn", "level", "node", "numbers", "number", "words", "k"]) (sc := defScope s_law_again) (by decide +kernel)) (fun _ _ _ _ _ => pg_name (i := 9) sc_law_again.nd rfl (Or.inl rfl)) (fun _ _ _ _ _ => pts_nil) (fun _ _ _ _ _ => (pe_callTy call_str_int (by rfl) T.m_str (by decide +kernel) (pa_cons (pv 9) pa_nil))))))
      (pss_cons (ps_expr (pe_bm PySem.F.plainAttrs_list PySem.F.slot_list_append PySem.F.type_list_append mt_append (pv 2) (pa_cons (pe_op op_add_str (pe_op op_add_str (pe_op OwnOp.op_mulN pe_str (pe_op op_sub (pe_op op_add (pv 4) pe_int) (pv 6))) pe_str) (pe_join pe_str (pv 10))) pa_nil)))
      (pss_cons (ps_set (i := 4) sc_law_again.nd rfl (.inl rfl) (pv 6))
      (pss_one (ps_for PassesOwn.never rfl (pi_range3 (by rfl) T.m_range (pa_cons (pe_op op_sub (pe_callB call_len_seq (by rfl) T.m_len PySem.boot_len (pa_cons (pe_fld (pv 7) rfl) pa_nil)) pe_int) (pa_cons (pe_un un_neg pe_int) (pa_cons (pe_un un_neg pe_int) pa_nil)))) (pg_name (i := 11) sc_law_again.nd rfl (.inl rfl)) (pss_one (ps_expr (pe_bm PySem.F.plainAttrs_list PySem.F.slot_list_append PySem.F.type_list_append mt_append (pv 3) (pa_cons (pe_tup (pa_cons (pe_op op_add (pv 6) pe_int) (pa_cons (pe_ix ix_tup (pe_fld (pv 7) rfl) (pv 11) (fun _ _ => rfl)) pa_nil))) pa_nil))))))))))))))))
      (pss_one (ps_ret pe_str)))))), ?_⟩
    have fact := rows_facts 0 t tn0
    have szw : t.size ≤ 300000 := Nat.le_trans (Nat.le_trans (size_wr t) List.count_le_length) lwr
    have lrows : (t.rows 0).length = t.size := size_rows 0 t
    have ewr : textG (gR (t.rows 0)) = t.wr := text_wr rfl
    have eall := emit_all t
    rw [emit_G] at eall
    have lall : (piecesG (-1) (gR (t.rows 0))).flatten.length ≤ 300001 := by
      have e := congrArg List.length eall
      rw [List.length_append, List.length_cons] at e
      unfold gR
      omega
    refine ⟨by show 0 ≤ sizeLine; decide, fun a na => ?_⟩
    refine ⟨_, rfl, by show 2 ≤ sizeLine; decide, fun g ng => ⟨by show 1 ≤ sizeLine; decide, fun b nb => ?_⟩⟩
    have s1 := same_upd (o := .lst []) na
    have s2 := same_upd (o := .tup [.int 0, .ref t.at]) ng
    have s3 := same_upd (o := .lst [.ref g]) nb
    have s03 := (s1.trans s2).trans s3
    have nb0 : H b = none := (s1.trans s2).free nb
    have ha0 : (upd (upd H a (.lst [])) g (.tup [.int 0, .ref t.at])) a = some (.lst []) := s2 _ _ upd_same
    have hab : a ≠ b := ne_of_none ha0 nb
    refine ⟨1, rfl, ?_⟩
    refine ⟨_, rfl, _, rfl, by omega, by omega, ?_⟩
    refine for_range (lo := 0) (n := m.toNat) (fun i σ H' => ∃ (R : List Rw) (ps : List Str) (ws : List V) (st : List Lt) (last : Int) (y5 y6 y7 y8 y9 y10 y11 : Option V), σ = [some (.ref t.at), some (.int m), some (.ref a), some (.ref b), some (.int last), y5, y6, y7, y8, y9, y10, y11] ∧
        Same H H' ∧ H' a = some (.lst (ps.map V.str)) ∧ ps.map cs = piecesG (-1) (gR R) ∧ last = lastG (-1) (gR R) ∧ R.length = i ∧ H' b = some (.lst ws) ∧ Paired (LtAt H') ws st.reverse ∧ R ++ flatR st = t.rows 0 ∧ ∀ p ∈ st, NodeAt K T.C_Node H' p.2)
      ⟨[], [], [.ref g], [(0, t)], -1, none, none, none, none, none, none, none, rfl, s03, s3 _ _ ha0, rfl, rfl, rfl, upd_same, .cons ⟨g, rfl, s3 _ _ upd_same⟩ .nil, by show [] ++ (t.rows 0 ++ []) = _; rw [List.append_nil]; rfl, fun p hp => by rw [List.mem_singleton.mp hp]; exact ht.keep (Keeps.of s03)⟩ ?_ ?_
    · rintro i σ H1 hi ⟨R, ps, ws, st, last, y5, y6, y7, y8, y9, y10, y11, rfl, sm, ha, ep, el, lR, hb, hw, eR, nd⟩
      have lw := paired_len hw
      have lp := congrArg List.length ep
      rw [List.length_map, piecesG_len] at lp
      have lp : ps.length = R.length := by rw [lp]; exact List.length_map _
      have lRn : R.length ≤ t.size := by
        have e := congrArg List.length eR
        rw [List.length_append, lrows] at e
        omega
      have lastb : -1 ≤ last ∧ last < (t.size : Int) := by
        rw [el]
        rcases lastG_mem (gR R) (-1) with h | ⟨x, hx, h⟩
        · rw [h]
          exact ⟨by decide, by omega⟩
        · obtain ⟨y, hy, rfl⟩ := List.mem_map.mp hx
          have := fact y (by rw [← eR]; exact List.mem_append_left _ hy)
          rw [h]
          exact ⟨by show -1 ≤ y.1; omega, by show y.1 < _; omega⟩
      have lflat : (ps.map fun x : Str => x.length).sum ≤ 300001 := by
        have e : (ps.map fun x : Str => x.length).sum = (piecesG (-1) (gR R)).flatten.length := by
          rw [← ep, List.length_flatten, List.map_map]
          congr 1
        rw [e]
        refine Nat.le_trans ?_ lall
        have e2 : gR (t.rows 0) = gR R ++ gR (flatR st) := by
          rw [← eR]
          exact List.map_append
        rw [e2]
        exact flat_len_le _ _ _
      cases st with
      | nil =>
        obtain rfl : ws = [] := List.eq_nil_of_length_eq_zero (by rw [lw]; rfl)
        have eR : R ++ [] = t.rows 0 := eR
        rw [List.append_nil] at eR
        refine ⟨_, rfl, false, .inl ⟨_, SqL.of hb, rfl⟩, iteT ?_⟩
        refine ⟨⟨_, rfl⟩, _, rfl, _, _, ps, rfl, rfl, .inl (SqL.of ha), ?_, ?_⟩
        · show _ + ps.length * 0 ≤ _
          omega
        have ecut : cs (cutS (Txt.join "" ps) (some 1) none) = (piecesG (-1) (gR R)).flatten.drop 1 := by
          rw [show (some (1 : Int)) = some ((1 : Nat) : Int) from rfl, cut_suf (Txt.join "" ps) 1, cs_joinT (show cs ("" : Str) = [] by decide +kernel), ep]
        have lt : (Txt.join "" ps).length ≤ 300001 := by
          rw [len_cs, cs_joinT (show cs ("" : Str) = [] by decide +kernel), List.length_flatten, List.map_map]
          refine Nat.le_trans (Nat.le_of_eq ?_) lflat
          congr 1
        have lcut : (cutS (Txt.join "" ps) (some 1) none).length ≤ 300001 := by
          rw [len_cs, ecut, List.length_drop, ← ep, ← cs_joinT (show cs ("" : Str) = [] by decide +kernel), ← len_cs]
          omega
        have lm : (Txt.mul ")" (last + 1)).length ≤ 300001 := by
          rw [len_cs, mul_par, par_len]
          omega
        refine ⟨1, rfl, _, rfl, szM (by omega), ?_⟩
        refine ⟨_, rfl, _, _, rfl, rfl, _, _, rfl, rfl, by decide +kernel, by omega, by omega, _, _, rfl, rfl, szM (by omega), q _ H1 sm ?_⟩
        rw [cs_app, ecut, mul_par, el, ← ewr, eR]
        rfl
      | cons p st =>
        rw [List.reverse_cons] at hw
        obtain ⟨ws', x, rfl, hw', hx⟩ : ∃ ws' x, ws = ws' ++ [x] ∧ Paired (LtAt H1) ws' st.reverse ∧ LtAt H1 x p := by
          have key : ∀ (qs : List Lt) (vs : List V), Paired (LtAt H1) vs (qs ++ [p]) → ∃ ws' x, vs = ws' ++ [x] ∧ Paired (LtAt H1) ws' qs ∧ LtAt H1 x p := fun qs => by
            induction qs with
            | nil =>
              intro vs h
              cases h with
              | cons r t =>
                cases t
                exact ⟨[], _, rfl, .nil, r⟩
            | cons q0 qs ih =>
              intro vs h
              cases h with
              | cons r t =>
                obtain ⟨ws', x, rfl, h1, h2⟩ := ih _ t
                exact ⟨_ :: ws', x, rfl, .cons r h1, h2⟩
          exact key _ _ hw
        obtain ⟨gp, rfl, hgp⟩ := hx
        refine ⟨_, rfl, true, .inl ⟨_, SqL.of hb, by simp⟩, iteF ?_⟩
        refine ⟨_, rfl, .inl ⟨rfl, _, SqL.of hb⟩, b, _, .ref gp, rfl, rfl, hb, by rw [List.length_append, List.length_singleton, Nat.add_sub_cancel, List.getElem?_append_right (Nat.le_refl _), Nat.sub_self]; rfl, ?_⟩
        rw [List.dropLast_concat]
        have hgp2 : (upd H1 b (.lst ws')) gp = some (.tup [.int p.1, .ref p.2.at]) := (Tups.mut hb) _ _ hgp
        obtain ⟨lv, tp⟩ := p
        obtain ⟨H2, hH2⟩ : ∃ H2, H2 = upd H1 b (.lst ws') := ⟨_, rfl⟩
        rw [← hH2] at hgp2 ⊢
        have sm2 : Same H H2 := by rw [hH2]; exact same_mut sm nb0
        have kp2 : Keeps K T.C_Node H1 H2 := by rw [hH2]; exact Keeps.lst hb
        have hb2 : H2 b = some (.lst ws') := by rw [hH2]; exact upd_same
        have ha2 : H2 a = some (.lst (ps.map V.str)) := by rw [hH2, upd_ne hab]; exact ha
        have tu2 : Tups H1 H2 := by rw [hH2]; exact Tups.mut hb
        have nt2 := (nd (lv, tp) List.mem_cons_self).keep kp2
        obtain ⟨dx, tn, kn, kt⟩ := nt2.it
        have erow : tp.rows lv = (lv, tp.d) :: rowsL (lv + 1) tp.ks := by
          cases tp
          rfl
        have eflat : flatR ((lv, tp) :: st) = tp.rows lv ++ flatR st := rfl
        have mrow : (lv, tp.d) ∈ t.rows 0 := by
          rw [← eR, eflat, erow]
          exact List.mem_append_right _ (List.mem_append_left _ List.mem_cons_self)
        obtain ⟨od, lv0, lv1, lwd⟩ := fact _ mrow
        have lv0 : 0 ≤ lv := lv0
        have lv1 : lv < 0 + (t.size : Int) := lv1
        have lwd : (wd tp.d).length ≤ t.wr.length := lwd
        have lk : tp.ks.length ≤ t.size := by
          have e := congrArg List.length eR
          rw [List.length_append, eflat, List.length_append, lrows] at e
          have e3 := kids_le lv tp
          omega
        refine ⟨gp, _, rfl, SqT.of hgp2, rfl, _, _, rfl, _, _, rfl, rfl, ?_⟩
        refine ⟨_, rfl, _, _, _, rfl, kn, true, rfl, iteF ?_⟩
        refine ⟨_, rfl, _, _, _, _, _, rfl, kn, T.CL_Node, T.NA_Node_nodes, nf_nodes _ _, _, _, _, _, true, rfl, .ty _, sqT_ty kt, kit_ty (by decide +kernel), true, rfl, iteF ?_⟩
        refine ⟨_, rfl, _, _, _, _, _, rfl, kn, T.CL_Node, T.NA_Node_state, nf_state _ _, _, rfl, _, _, _, _, _, rfl, kn, T.CL_Node, T.NA_Node_lead, nf_lead _ _, _, rfl, _, _, _, _, _, rfl, kn, T.CL_Node, T.NA_Node_width, nf_width _ _, _, rfl, _, _, _, _, _, rfl, kn, T.CL_Node, T.NA_Node_look, nf_look _ _, _, rfl, _, _, _, _, _, rfl, kn, T.CL_Node, T.NA_Node_alternative, nf_alternative _ _, _, rfl, _, _, _, _, _, rfl, kn, T.CL_Node, T.NA_Node_popped, nf_popped _ _, by show 6 ≤ sizeLine; decide, fun n6 nn6 => ?_⟩
        have s6 := same_upd (o := .lst (numsV tp.d)) nn6
        have h6 : (upd H2 n6 (.lst (numsV tp.d))) n6 = some (.lst (numsV tp.d)) := upd_same
        obtain ⟨H3, hH3⟩ : ∃ H3, H3 = upd H2 n6 (.lst (numsV tp.d)) := ⟨_, rfl⟩
        rw [← hH3] at s6 h6
        have e3 : upd H2 n6 (.lst [.int tp.d.st, .int tp.d.lead, .int tp.d.wid, .int tp.d.look, .int tp.d.alt, .int tp.d.pop]) = H3 := hH3.symm
        rw [e3]
        refine ⟨_, rfl, n6, rfl, ⟨_, SqL.of h6⟩, ?_⟩
        refine for_list (K := K) (a := n6) (xs := numsV tp.d) (fun _ σ H' => H' = H3 ∧ ∃ y9 : Option V, σ = [some (.ref t.at), some (.int m), some (.ref a), some (.ref b), some (.int last), some (.int (0 + (i : Int))), some (.int lv), some (.ref tp.at), some (.ref n6), y9, y10, y11])
          ⟨rfl, y9, rfl⟩ (fun _ σ H' _ ⟨e, _⟩ => by rw [e]; exact SqL.of h6) ?_ ?_
        · rintro j x σ H' hx ⟨rfl, y9, rfl⟩
          have hm : ∀ v ∈ numsV tp.d, ∃ z : Int, v = .int z := by
            intro v hv
            unfold numsV at hv
            simp only [List.mem_cons, List.not_mem_nil, or_false] at hv
            rcases hv with h | h | h | h | h | h <;> exact ⟨_, h⟩
          obtain ⟨z, rfl⟩ := hm _ (List.mem_of_getElem? hx)
          refine ⟨_, rfl, _, _, _, _, true, rfl, .ty _, .base (.int _), kit_ty (by decide +kernel), true, rfl, iteF ?_⟩
          exact ⟨_, rfl, _, _, _, _, false, rfl, .ty _, .base (.int _), kit_ty (by decide +kernel), false, rfl, iteF ⟨rfl, _, rfl⟩⟩
        · rintro σ H' ⟨rfl, y9, rfl⟩
          have sm3 : Same H H' := sm2.trans s6
          have kn3 := s6 _ _ kn
          have kt3 := (Keeps.of (K := K) (C := T.C_Node) s6).tup _ _ kt
          refine ⟨_, rfl, _, _, _, _, _, rfl, kn3, T.CL_Node, T.NA_Node_kind, nf_kind _ _, _, _, _, _, true, rfl, .ty _, .base (.str _), kit_ty (by decide +kernel), true, rfl, iteF ?_⟩
          refine ⟨_, rfl, _, _, _, _, _, rfl, kn3, T.CL_Node, T.NA_Node_symbol, nf_symbol _ _, _, _, _, _, true, rfl, .ty _, .base (.str _), kit_ty (by decide +kernel), true, rfl, iteF ?_⟩
          have ha3 := s6 _ _ ha2
          have hb3 := s6 _ _ hb2
          refine ⟨_, rfl, _, _, _, _, _, rfl, kn3, T.CL_Node, T.NA_Node_kind, nf_kind _ _, _, rfl, _, _, _, _, _, rfl, kn3, T.CL_Node, T.NA_Node_symbol, nf_symbol _ _, by show 2 ≤ sizeLine; decide, fun q1 nq1 => ?_⟩
          have t1 := same_upd (o := .lst [.str tp.d.kind, .str tp.d.sym]) nq1
          have hq1 : (upd H' q1 (.lst [.str tp.d.kind, .str tp.d.sym])) q1 = some (.lst [.str tp.d.kind, .str tp.d.sym]) := upd_same
          have h61 := t1 _ _ h6
          obtain ⟨H4, hH4⟩ : ∃ H4, H4 = upd H' q1 (.lst [.str tp.d.kind, .str tp.d.sym]) := ⟨_, rfl⟩
          rw [← hH4] at t1 hq1 h61 ⊢
          refine ⟨_, rfl, n6, rfl, ⟨_, SqL.of h61⟩, fun D nD => ?_⟩
          refine lc_it (walk_list (K := K) (a := n6) (xs := numsV tp.d)) (fun i H' => But D H4 H' ∧ H' D = some (.lst (((strsD tp.d).take i).map V.str))) ⟨But.new nD, upd_same⟩ (fun i H' _ ⟨b, _⟩ => SqL.of (b _ _ (ne_of_none h61 nD) h61)) ?_ ?_
          · rintro i x H2 H3 hi ⟨b2, hD⟩ ⟨rfl, hx⟩
            have hi6 : i < 6 := hi
            obtain ⟨z, hz, hs, oz⟩ : ∃ z : Int, (numsV tp.d)[i]? = some (.int z) ∧ (strsD tp.d)[i]? = some (Str.ofString (toString z)) ∧ NumOk z := by
              match i, hi6 with
              | 0, _ => exact ⟨tp.d.st, rfl, rfl, od.st⟩
              | 1, _ => exact ⟨tp.d.lead, rfl, rfl, pos_num od.lead⟩
              | 2, _ => exact ⟨tp.d.wid, rfl, rfl, pos_num od.wid⟩
              | 3, _ => exact ⟨tp.d.look, rfl, rfl, pos_num od.look⟩
              | 4, _ => exact ⟨tp.d.alt, rfl, rfl, od.alt⟩
              | 5, _ => exact ⟨tp.d.pop, rfl, rfl, pos_num od.pop⟩
            have hx : (numsV tp.d)[i]? = some x := hx
            rw [hz] at hx
            obtain rfl : V.int z = x := Option.some.inj hx
            have hlog := num_log oz
            refine ⟨rfl, _, rfl, _, rfl, hlog, _, hD, sz2 (by rw [List.length_map, List.length_take]; omega), ?_, ?_⟩
            · exact fun c o ne e => by rw [upd_ne ne]; exact b2 c o ne e
            · rw [upd_same, takeN hs, List.map_append]
              rfl
          · rintro H5 ⟨b5, hD⟩
            have hD : H5 D = some (.lst ((strsD tp.d).map V.str)) := hD
            have sm4 := sm3.trans t1
            have nD0 : H D = none := sm4.free nD
            have sm5 : Same H H5 := fun c o e => b5 c o (ne_of_none e nD0) (sm4 _ _ e)
            have ha4 := t1 _ _ ha3
            have hb4 := t1 _ _ hb3
            have hq5 := b5 _ _ (ne_of_none hq1 nD) hq1
            have ha5 := b5 _ _ (ne_of_none ha4 nD) ha4
            have hb5 := b5 _ _ (ne_of_none hb4 nD) hb4
            refine ⟨q1, D, _, _, rfl, rfl, hq5, hD, by show 2 + 6 ≤ sizeLine; decide, fun wl nwl => ?_⟩
            have s7 := same_upd (o := .lst ([V.str tp.d.kind, V.str tp.d.sym] ++ (strsD tp.d).map V.str)) nwl
            have hw7 : (upd H5 wl (.lst ([V.str tp.d.kind, V.str tp.d.sym] ++ (strsD tp.d).map V.str))) wl = some (.lst ((wordsD tp.d).map V.str)) := by
              rw [upd_same]
              rfl
            have swd := words_le tp.d
            have lj : (Txt.join " " (wordsD tp.d)).length ≤ 300000 := by
              rw [len_cs]
              exact Nat.le_trans lwd lwr
            have lm : (Txt.mul ")" (last + 1 - lv)).length ≤ 300001 := by
              rw [len_cs, mul_par, par_len]
              omega
            have l2 : (" (" : Str).length = 2 := by decide +kernel
            have l1 : (" " : Str).length = 1 := by decide +kernel
            have ha7 := s7 _ _ ha5
            have hb7 := s7 _ _ hb5
            refine ⟨_, rfl, .inl ⟨rfl, _, SqL.of ha7⟩, _, rfl, _, _, rfl, rfl, _, rfl, _, _, rfl, rfl, _, _, rfl, rfl, by decide +kernel, by omega, by omega, _, _, rfl, rfl, szM (by rw [l2]; omega), ⟨_, rfl⟩, _, rfl, _, _, wordsD tp.d, rfl, rfl, .inl (SqL.of hw7), ?_, ?_⟩
            · rw [l1, show (wordsD tp.d).length = 8 from rfl]
              omega
            refine ⟨_, _, rfl, rfl, szM (by rw [lenApp, l2]; omega), a, _, _, rfl, rfl, ha7, ?_, ?_⟩
            · rw [List.length_map]
              exact Nat.lt_of_le_of_lt (show ps.length ≤ 300000 by omega) (by decide)
            refine ⟨_, rfl, ?_⟩
            obtain ⟨H6, hH6⟩ : ∃ H6, H6 = upd (upd H5 wl (.lst ([V.str tp.d.kind, V.str tp.d.sym] ++ (strsD tp.d).map V.str))) a (.lst (ps.map V.str ++ [.str (Txt.mul ")" (last + 1 - lv) ++ " (" ++ Txt.join " " (wordsD tp.d))])) := ⟨_, rfl⟩
            rw [← hH6]
            have k35 : Keeps K T.C_Node H' H5 := by
              refine (Keeps.of t1).trans ⟨fun p dx d tq e => b5 _ _ (ne_of_none e nD) e, fun tq us e => ?_⟩
              rcases e with (e | ⟨x, e⟩) | e
              · exact .inl (.inl (b5 _ _ (ne_of_none e nD) e))
              · exact .inl (.inr ⟨x, b5 _ _ (ne_of_none e nD) e⟩)
              · exact .inr e
            have tu35 : Tups H' H5 := (Tups.of t1).trans fun c xs e => b5 _ _ (ne_of_none e nD) e
            have kp6 : Keeps K T.C_Node H1 H6 := by rw [hH6]; exact (((kp2.trans (Keeps.of s6)).trans k35).trans (Keeps.of s7)).trans (Keeps.lst ha7)
            have tu6 : Tups H1 H6 := by rw [hH6]; exact (((tu2.trans (Tups.of s6)).trans tu35).trans (Tups.of s7)).trans (Tups.mut ha7)
            have sm6 : Same H H6 := by rw [hH6]; exact same_mut (sm5.trans s7) na
            have ha6 : H6 a = some (.lst ((ps ++ [Txt.mul ")" (last + 1 - lv) ++ " (" ++ Txt.join " " (wordsD tp.d)]).map V.str)) := by rw [hH6, upd_same, List.map_append]; rfl
            have hb6 : H6 b = some (.lst ws') := by rw [hH6, upd_ne hab.symm]; exact hb7
            have k36 : Keeps K T.C_Node H' H6 := by rw [hH6]; exact (k35.trans (Keeps.of s7)).trans (Keeps.lst ha7)
            have kn6 := k36.ins _ _ _ _ kn3
            have kt6 := k36.tup _ _ kt3
            have hw6 : Paired (LtAt H6) ws' st.reverse := Paired.mapP hw' fun _ _ h => h.tups tu6
            have lw6 := paired_len hw6
            rw [List.length_reverse] at lw6
            refine ⟨_, rfl, _, _, _, _, _, rfl, kn6, T.CL_Node, T.NA_Node_nodes, nf_nodes _ _, tn, _, rfl, .inr kt6, ?_⟩
            rw [List.length_map]
            refine ⟨_, _, rfl, rfl, 1, rfl, 1, rfl, _, _, _, tp.ks.length, rfl, rg_down (n := tp.ks.length) (by omega), ?_⟩
            refine for_it (walk_rangeC (lo := ((tp.ks.length : Nat) : Int) - 1) (c := -1) (n := tp.ks.length)) (fun j σ H' => But b H6 H' ∧ ∃ (ws2 : List V) (y11 : Option V), σ = [some (.ref t.at), some (.int m), some (.ref a), some (.ref b), some (.int lv), some (.int (0 + (i : Int))), some (.int lv), some (.ref tp.at), some (.ref n6), y9, some (.ref wl), y11] ∧
                H' b = some (.lst ws2) ∧ Paired (LtAt H') ws2 (st.reverse ++ ((tp.ks.drop (tp.ks.length - j)).map fun t => (lv + 1, t)).reverse) ∧ ws2.length = ws'.length + j)
              ⟨But.refl _ _, ws', y11, rfl, hb6, ?_, rfl⟩ (fun _ _ _ _ _ => True.intro) ?_ ?_
            · rw [Nat.sub_zero, List.drop_length, List.map_nil, List.reverse_nil, List.append_nil]
              exact hw6
            · rintro j x σ H7 H8 hj ⟨b7, ws2, y11, rfl, hb7, hw7, l7⟩ ⟨rfl, hxe⟩
              obtain ⟨k, hk⟩ : ∃ k, k = tp.ks.length - 1 - j := ⟨_, rfl⟩
              have ek : ((tp.ks.length : Nat) : Int) - 1 + ((j : Nat) : Int) * -1 = (k : Int) := by omega
              obtain rfl : x = V.int (k : Int) := hxe.trans (congrArg V.int ek)
              obtain ⟨c, hc⟩ : ∃ c, tp.ks[k]? = some c := ⟨_, List.getElem?_eq_getElem (by omega)⟩
              have kp7 := Keeps.but (K := K) (C := T.C_Node) hb6 b7
              have kn7 := kp7.ins _ _ _ _ kn6
              have kt7 := kp7.tup _ _ kt6
              have hc2 : (tp.ks.map fun t => V.ref t.at)[k]? = some (V.ref c.at) := by rw [List.getElem?_map, hc]; rfl
              refine ⟨_, rfl, .inl ⟨rfl, _, SqL.of hb7⟩, _, rfl, _, _, rfl, rfl, _, rfl, _, _, _, _, _, rfl, kn7, T.CL_Node, T.NA_Node_nodes, nf_nodes _ _, _, rfl, tn, _, _, _, rfl, rfl, kt7, atI_nat hc2, by show 2 ≤ sizeLine; decide, fun q nq => ?_⟩
              have e1 : (fun i j : Int => V.int (i + j)) lv 1 = V.int (lv + 1) := rfl
              rw [e1]
              have hb8 := (same_upd (o := .tup [.int (lv + 1), .ref c.at]) nq) _ _ hb7
              have lws : ws'.length ≤ t.size := by
                rw [lw6]
                have e := congrArg List.length eR
                rw [List.length_append, lrows] at e
                have e2 : st.length + 1 ≤ (flatR ((lv, tp) :: st)).length := flatR_ge ((lv, tp) :: st)
                omega
              refine ⟨b, _, _, rfl, rfl, hb8, Nat.lt_of_le_of_lt (show ws2.length ≤ 600000 by omega) (by decide), ?_⟩
              have t8 : Tups H8 (upd (upd H8 q (.tup [.int (lv + 1), .ref c.at])) b (.lst (ws2 ++ [.ref q]))) := (Tups.of (same_upd nq)).trans (Tups.mut hb8)
              refine ⟨fun e o ne he => ?_, ws2 ++ [.ref q], _, rfl, upd_same, ?_, by rw [List.length_append, l7]; rfl⟩
              · rw [upd_ne ne]
                exact (same_upd nq) _ _ (b7 e o ne he)
              · have ed : tp.ks.drop (tp.ks.length - (j + 1)) = c :: tp.ks.drop (tp.ks.length - j) := by
                  rw [show tp.ks.length - (j + 1) = k by omega, show tp.ks.length - j = k + 1 by omega]
                  exact drop_at hc
                rw [ed, List.map_cons, List.reverse_cons, ← List.append_assoc]
                exact paired_app (Paired.mapP hw7 fun _ _ h => h.tups t8) (.cons ⟨q, rfl, (Tups.mut hb8) _ _ upd_same⟩ .nil)
            · rintro σ H7 ⟨b7, ws2, y11, rfl, hb7, hw7, l7⟩
              have kp7 := Keeps.but (K := K) (C := T.C_Node) hb6 b7
              rw [Nat.sub_self, List.drop_zero] at hw7
              have sn := piecesG_snoc (gR R) (-1) (lv, wd tp.d)
              have egr : gR (R ++ [(lv, tp.d)]) = gR R ++ [(lv, wd tp.d)] := List.map_append
              rw [← egr, ← el] at sn
              refine ⟨R ++ [(lv, tp.d)], ps ++ [_], ws2, (tp.ks.map fun t => (lv + 1, t)) ++ st, lv, _, _, _, _, _, _, _, rfl, ?_, b7 _ _ hab ha6, ?_, sn.2.symm, by rw [List.length_append, lR]; rfl, hb7, by rw [List.reverse_append]; exact hw7, ?_, ?_⟩
              · exact fun e o he => b7 e o (ne_of_none he nb0) (sm6 e o he)
              · rw [List.map_append, ep, sn.1]
                show _ ++ [cs _] = _
                rw [cs_app, cs_app, mul_par, show cs (" (" : Str) = [32, 40] by decide +kernel, List.append_assoc]
                rfl
              · rw [flatR_app, flatR_kids, List.append_assoc, ← List.append_assoc [(lv, tp.d)]]
                have e2 : [(lv, tp.d)] ++ rowsL (lv + 1) tp.ks = tp.rows lv := erow.symm
                rw [e2]
                exact eR
              · intro p hp
                rcases List.mem_append.mp hp with h | h
                · obtain ⟨c, hc, rfl⟩ := List.mem_map.mp h
                  exact (NodesAt.mem (nd (lv, tp) List.mem_cons_self).kids hc).keep (kp6.trans kp7)
                · exact (nd p (List.mem_cons_of_mem _ h)).keep (kp6.trans kp7)
    · rintro σ H1 ⟨R, ps, ws, st, last, y5, y6, y7, y8, y9, y10, y11, rfl, sm, ha, ep, el, lR, hb, hw, eR, nd⟩
      exfalso
      have e := congrArg List.length eR
      rw [List.length_append, lrows] at e
      omega

/-! ### what is refused -/
theorem call_isiK {X : Cx} {K : PySem.W.Frag} (h : X.K = K) : CallR X (.builtin "isinstance") (rIsi K) := by
  subst h
  exact call_isi
theorem At.uniq {z : Str} {k : Nat} {s s' : Au} (h : At z k s) (h' : At z k s') : s = s' := Option.some.inj (h.2.symm.trans h'.2)
theorem At.through {z : Str} {k k2 : Nat} {s s2 : Au} (h : At z k s) (h2 : At z k2 s2) (lt : k < k2) : ∃ x l s1, (cs z).drop k = x :: l ∧ stepA s x = some s1 := by
  have hk : k < (cs z).length := Nat.lt_of_lt_of_le lt h2.1
  obtain ⟨x, hx⟩ : ∃ x, (cs z)[k]? = some x := ⟨_, List.getElem?_eq_getElem hk⟩
  have hl := drop_at hx
  refine ⟨x, (cs z).drop (k + 1), ?_⟩
  cases e : stepA s x with
  | some s1 => exact ⟨s1, hl, rfl⟩
  | none =>
    exfalso
    have e2 := h2.2
    rw [show k2 = k + (k2 - k) by omega, List.take_add, runA_app h.2, hl, show k2 - k = (k2 - k - 1) + 1 by omega, List.take_succ_cons] at e2
    unfold runA at e2
    rw [e] at e2
    cases e2
theorem FaultAt.not_past {z : Str} {k k2 : Nat} {s2 : Au} (h : FaultAt z k) (h2 : At z k2 s2) (lt : k < k2) : False := by
  obtain ⟨s, hA, hf⟩ := h
  obtain ⟨x, l, s1, hl, hs⟩ := hA.through h2 lt
  rcases hf with ⟨y, l', hy, hn⟩ | ⟨hn, _⟩
  · rw [hl] at hy
    obtain ⟨rfl, rfl⟩ := List.cons.inj hy
    rw [hs] at hn
    cases hn
  · rw [hl] at hn
    cases hn
theorem FaultAt.not_ok {z : Str} {k : Nat} (h : FaultAt z k) {s : Au} (hs : At z (cs z).length s) (h9 : s.slot = 9) (h0 : s.depth = 0) : False := by
  rcases Nat.lt_or_ge k (cs z).length with lt | ge
  · exact h.not_past hs lt
  · have e : k = (cs z).length := Nat.le_antisymm h.le ge
    subst e
    obtain ⟨s', hA, hf⟩ := h
    obtain rfl := hA.uniq hs
    rcases hf with ⟨y, l', hy, _⟩ | ⟨_, hn⟩
    · rw [List.drop_length] at hy
      cases hy
    · exact hn ⟨h9, h0⟩
theorem FaultAt.uniq {z : Str} {k k' : Nat} (h : FaultAt z k) (h' : FaultAt z k') : k = k' := by
  rcases Nat.lt_trichotomy k k' with lt | e | lt
  · obtain ⟨s, hA, _⟩ := h'
    exact (h.not_past hA lt).elim
  · exact e
  · obtain ⟨s, hA, _⟩ := h
    exact (h'.not_past hA lt).elim
def spRefusedX : Sp := fun vs H Q _ => ∃ (z : Str) (k : Nat), vs = [.str z, .int (k : Int)] ∧ ZOk z ∧ FaultAt z k ∧ ∀ H', Same H H' → Q (.bl true) H'
theorem ok_refused (T : Txt K mg) : FnOk P w K mg base CX0 10 T.a_law_refused T.fd_law_refused ["text", "due"] spRefusedX := by
  have G_read_tree : FnOk P w K mg base (L2.CX P w) 9 T.a_read_tree T.fd_read_tree ["notation"] (spReadX K T.C_Node T.C_TreeError) := ok_readX T
  refine T.F_law_refused.ok sc_law_refused (fun vs H Q E h => ?_) (fun cdv A outer s H vs Q E hr h => ?_)
  · obtain ⟨z, k, rfl, _⟩ := h
    rfl
  · have hr_read_tree : Room 9 _ := hr
    obtain ⟨z, k, rfl, zo, hf, q⟩ := h
    refine ⟨_, (pss_cons (ps_try_as (i := 2) (Wout := fun _ _ _ _ => False) rfl rfl sc_law_refused.nd rfl rfl ⟨rfl, by decide, .inl T.G_TreeError⟩ takes0 (fun W pn xe tk _ => (pss_one (ps_expr (pe_callS G_read_tree hr_read_tree rfl T.g_read_tree T.F_read_tree.kp T.b_read_tree (fun σ => passAt tk σ) (pa_cons (pv 0) pa_nil))))) (fun a oe cls d pn hz hf => (pss_cons (ps_if (PW.pt (pw_or (pt_not (pt_val (pe_callB (call_isX hz hf) (by rfl) T.m_isinstance (by decide +kernel) (pa_cons (pv 2) (pa_cons (pe_glob (v := .ref T.C_MendedError) (by rfl) T.G_MendedError rfl) pa_nil))))) (pw_or1 (pt_not (pt_val (pe_callB (call_isX hz hf) (by rfl) T.m_isinstance (by decide +kernel) (pa_cons (pv 2) (pa_cons (pe_bltn (v := .ty "ValueError") (by rfl) T.m_ValueError (by decide +kernel) rfl) pa_nil)))))))) (pss_one (ps_ret pe_bl)) pss_nil)
      (pss_cons (ps_if (pt_val (pe_callB (call_isXT hz hf) (by rfl) T.m_isinstance (by decide +kernel) (pa_cons (pv 2) (pa_cons (pe_tup (pa_cons (pe_glob (v := .ref T.C_BadMark) (by rfl) T.G_BadMark rfl) (pa_cons (pe_glob (v := .ref T.C_EditError) (by rfl) T.G_EditError rfl) (pa_cons (pe_glob (v := .ref T.C_Entangled) (by rfl) T.G_Entangled rfl) (pa_cons (pe_glob (v := .ref T.C_GrammarError) (by rfl) T.G_GrammarError rfl) (pa_cons (pe_glob (v := .ref T.C_HistoryError) (by rfl) T.G_HistoryError rfl) (pa_cons (pe_glob (v := .ref T.C_NoLayer) (by rfl) T.G_NoLayer rfl) (pa_cons (pe_glob (v := .ref T.C_NoMark) (by rfl) T.G_NoMark rfl) pa_nil)))))))) pa_nil)))) (pss_one (ps_ret pe_bl)) pss_nil)
      (pss_cons (ps_if (pt_val (pe_callB (call_isXT hz hf) (by rfl) T.m_isinstance (by decide +kernel) (pa_cons (pv 2) (pa_cons (pe_tup (pa_cons (pe_glob (v := .ref T.C_NoNode) (by rfl) T.G_NoNode rfl) (pa_cons (pe_glob (v := .ref T.C_NoWitness) (by rfl) T.G_NoWitness rfl) (pa_cons (pe_glob (v := .ref T.C_PatternError) (by rfl) T.G_PatternError rfl) (pa_cons (pe_glob (v := .ref T.C_QueryError) (by rfl) T.G_QueryError rfl) (pa_cons (pe_glob (v := .ref T.C_TableError) (by rfl) T.G_TableError rfl) (pa_cons (pe_glob (v := .ref T.C_UnknownLanguage) (by rfl) T.G_UnknownLanguage rfl) pa_nil))))))) pa_nil)))) (pss_one (ps_ret pe_bl)) pss_nil)
      (pss_one (ps_ret (pe_and (pe_callB (call_isiK (K := K) rfl) (by rfl) T.m_isinstance (by decide +kernel) (pa_cons (pe_xf T.E_TreeError.xf T.n_TreeError_place hz hf (pv 2)) (pa_cons (pe_bltn (v := .ty "int") (by rfl) T.m_int (by decide +kernel) rfl) pa_nil))) (pe_and (pe_not (pe_callB (call_isiK (K := K) rfl) (by rfl) T.m_isinstance (by decide +kernel) (pa_cons (pe_xf T.E_TreeError.xf T.n_TreeError_place hz hf (pv 2)) (pa_cons (pe_bltn (v := .ty "bool") (by rfl) T.m_bool (by decide +kernel) rfl) pa_nil)))) (pe_one (pe_cmpR op_eq (pe_xf T.E_TreeError.xf T.n_TreeError_place hz hf (pv 2)) (pv 1) (nomark _))))))))))))
      (pss_one (ps_ret pe_bl))), ?_⟩
    refine ⟨_, rfl, z, rfl, zo, fun u H1 A9 _ _ _ _ => (hf.not_ok A9 rfl rfl).elim, fun k' hf' d H1 sm nd hd => ?_⟩
    obtain rfl := hf.uniq hf'
    refine ⟨true, T.E_TreeError.self, fun _ a ha => ?_, fun z => Bool.noConfusion z⟩
    refine ⟨_, rfl, _, d, rfl, rfl, T.E_TreeError.exc, _, _, true, _, rfl, .own _, hd, T.k_TreeError_MendedError, true, rfl, iteF ?_⟩
    refine ⟨_, rfl, _, d, rfl, rfl, T.E_TreeError.exc, _, _, true, _, rfl, .ty _, hd, T.k_TreeError_ValueError, true, rfl, iteF ?_⟩
    refine ⟨_, rfl, by show 7 ≤ sizeLine; decide, fun tp ntp => ?_⟩
    have hd1 : ∀ {o}, (upd H1 tp o) d = some (.xd [(("place" : Str), .int (k : Int))]) := fun {o} => by rw [upd_ne (ne_of_none hd ntp)]; exact hd
    refine ⟨_, d, rfl, rfl, T.E_TreeError.exc, tp, _, _, false, _, rfl, upd_same, .cons (.own _) (.cons (.own _) (.cons (.own _) (.cons (.own _) (.cons (.own _) (.cons (.own _) (.cons (.own _) .nil)))))), hd1, ?_, ?_⟩
    · exact kitAny_cons T.k_TreeError_BadMark (fun _ => kitAny_cons T.k_TreeError_EditError (fun _ => kitAny_cons T.k_TreeError_Entangled (fun _ => kitAny_cons T.k_TreeError_GrammarError (fun _ => kitAny_cons T.k_TreeError_HistoryError (fun _ => kitAny_cons T.k_TreeError_NoLayer (fun _ => kitAny_cons T.k_TreeError_NoMark (fun _ => kitAny_nil) (fun z => Bool.noConfusion z)) (fun z => Bool.noConfusion z)) (fun z => Bool.noConfusion z)) (fun z => Bool.noConfusion z)) (fun z => Bool.noConfusion z)) (fun z => Bool.noConfusion z)) (fun z => Bool.noConfusion z)
    refine ⟨false, rfl, iteF ?_⟩
    have s1 := same_upd (o := .tup [.ref T.C_BadMark, .ref T.C_EditError, .ref T.C_Entangled, .ref T.C_GrammarError, .ref T.C_HistoryError, .ref T.C_NoLayer, .ref T.C_NoMark]) ntp
    obtain ⟨H2, hH2⟩ : ∃ H2, H2 = upd H1 tp (.tup [.ref T.C_BadMark, .ref T.C_EditError, .ref T.C_Entangled, .ref T.C_GrammarError, .ref T.C_HistoryError, .ref T.C_NoLayer, .ref T.C_NoMark]) := ⟨_, rfl⟩
    have hd2 : H2 d = some (.xd [(("place" : Str), .int (k : Int))]) := by rw [hH2]; exact hd1
    rw [← hH2] at s1 ⊢
    refine ⟨_, rfl, by show 6 ≤ sizeLine; decide, fun tq ntq => ?_⟩
    have hd3 : ∀ {o}, (upd H2 tq o) d = some (.xd [(("place" : Str), .int (k : Int))]) := fun {o} => by rw [upd_ne (ne_of_none hd2 ntq)]; exact hd2
    refine ⟨_, d, rfl, rfl, T.E_TreeError.exc, tq, _, _, false, _, rfl, upd_same, .cons (.own _) (.cons (.own _) (.cons (.own _) (.cons (.own _) (.cons (.own _) (.cons (.own _) .nil))))), hd3, ?_, ?_⟩
    · exact kitAny_cons T.k_TreeError_NoNode (fun _ => kitAny_cons T.k_TreeError_NoWitness (fun _ => kitAny_cons T.k_TreeError_PatternError (fun _ => kitAny_cons T.k_TreeError_QueryError (fun _ => kitAny_cons T.k_TreeError_TableError (fun _ => kitAny_cons T.k_TreeError_UnknownLanguage (fun _ => kitAny_nil) (fun z => Bool.noConfusion z)) (fun z => Bool.noConfusion z)) (fun z => Bool.noConfusion z)) (fun z => Bool.noConfusion z)) (fun z => Bool.noConfusion z)) (fun z => Bool.noConfusion z)
    refine ⟨false, rfl, iteF ?_⟩
    have s2 := same_upd (o := .tup [.ref T.C_NoNode, .ref T.C_NoWitness, .ref T.C_PatternError, .ref T.C_QueryError, .ref T.C_TableError, .ref T.C_UnknownLanguage]) ntq
    refine ⟨_, rfl, rfl, rfl, d, _, _, rfl, hd3, rfl, ?_⟩
    refine ⟨_, _, _, _, true, rfl, .ty _, .base (.int _), kit_ty (by decide +kernel), true, rfl, iteT ?_⟩
    refine ⟨_, rfl, rfl, rfl, d, _, _, rfl, hd3, rfl, ?_⟩
    refine ⟨_, _, _, _, false, rfl, .ty _, .base (.int _), kit_ty (by decide +kernel), false, rfl, true, rfl, iteT ?_⟩
    refine ⟨_, rfl, rfl, rfl, d, _, _, rfl, hd3, rfl, ?_⟩
    refine ⟨_, rfl, rfl, ?_⟩
    rw [decide_eq_true rfl]
    exact q _ ((sm.trans s1).trans s2)
theorem kit_self {K : PySem.W.Frag} {c : Value} : PySem.W.kitOne K c c = some true := by
  unfold PySem.W.kitOne
  rw [if_pos (by simp)]
def spByBaseX : Sp := fun vs H Q _ => ∃ (z : Str) (k : Nat), vs = [.str z] ∧ ZOk z ∧ FaultAt z k ∧ ∀ H', Same H H' → Q (.bl true) H'
theorem ok_by_base (T : Txt K mg) : FnOk P w K mg base CX0 10 T.a_law_refused_by_base T.fd_law_refused_by_base ["text"] spByBaseX := by
  have G_read_tree : FnOk P w K mg base (L2.CX P w) 9 T.a_read_tree T.fd_read_tree ["notation"] (spReadX K T.C_Node T.C_TreeError) := ok_readX T
  refine T.F_law_refused_by_base.ok sc_law_refused_by_base (fun vs H Q E h => ?_) (fun cdv A outer s H vs Q E hr h => ?_)
  · obtain ⟨z, k, rfl, _⟩ := h
    rfl
  · have hr_read_tree : Room 9 _ := hr
    obtain ⟨z, k, rfl, zo, hf, q⟩ := h
    refine ⟨_, (pss_cons (ps_try_as (i := 1) (Wout := fun _ _ _ _ => False) rfl rfl sc_law_refused_by_base.nd rfl rfl ⟨rfl, by decide, .inl T.G_MendedError⟩ takes0 (fun W pn xe tk _ => (pss_one (ps_expr (pe_callS G_read_tree hr_read_tree rfl T.g_read_tree T.F_read_tree.kp T.b_read_tree (fun σ => passAt tk σ) (pa_cons (pv 0) pa_nil))))) (fun a oe cls d pn hz hf => (pss_one (ps_ret (pe_and (pe_callB (call_isX hz hf) (by rfl) T.m_isinstance (by decide +kernel) (pa_cons (pv 1) (pa_cons (pe_glob (v := .ref T.C_TreeError) (by rfl) T.G_TreeError rfl) pa_nil))) (pe_one (pe_callB (call_isX hz hf) (by rfl) T.m_isinstance (by decide +kernel) (pa_cons (pv 1) (pa_cons (pe_bltn (v := .ty "ValueError") (by rfl) T.m_ValueError (by decide +kernel) rfl) pa_nil)))))))))
      (pss_one (ps_ret pe_bl))), ?_⟩
    refine ⟨_, rfl, z, rfl, zo, fun u H1 A9 _ _ _ _ => (hf.not_ok A9 rfl rfl).elim, fun k' hf' d H1 sm nd hd => ?_⟩
    refine ⟨true, T.x_TreeError_MendedError, fun _ a ha => ?_, fun z => Bool.noConfusion z⟩
    refine ⟨_, rfl, _, d, rfl, rfl, T.E_TreeError.exc, _, _, true, _, rfl, .own _, hd, kit_self, true, rfl, iteT ?_⟩
    refine ⟨_, rfl, _, d, rfl, rfl, T.E_TreeError.exc, _, _, true, _, rfl, .ty _, hd, T.k_TreeError_ValueError, ?_⟩
    exact q _ sm

/-! ### the law's reader goes through the text of a tree -/
theorem sl_tupK {X : Cx} {K : PySem.W.Frag} (h : X.K = K) : SlR X (rSlT K) := by
  subst h
  exact sl_tup
theorem pi_tupK {X : Cx} {K : PySem.W.Frag} {tg l : Expr} {tl : TE} (h : X.K = K) (hl : PE X l tl) : PI X tg l (iTup K tl) := by
  subst h
  exact pi_tup hl
theorem pi_listK {X : Cx} {K : PySem.W.Frag} {tg l : Expr} {tl : TE} (h : X.K = K) (hl : PE X l tl) : PI X tg l (iList K tl) := by
  subst h
  exact pi_list hl
theorem runA_trans {a b : List Nat} {s s1 s2 : Au} (h1 : runA s a = some s1) (h2 : runA s1 b = some s2) : runA s (a ++ b) = some s2 := by rw [runA_app h1, h2]
theorem run_name : ∀ (r : List Nat) (d : Int) (slot sz : Nat), 1 ≤ slot → slot ≤ 2 → (∀ c ∈ r, c ∈ cs nameS) → ∃ sz', runA ⟨d, slot, 1, sz⟩ r = some ⟨d, slot, 1, sz'⟩
  | [], _, _, sz, _, _, _ => ⟨sz, rfl⟩
  | c :: r, d, slot, sz, h1, h2, h => by
    have hc := h c List.mem_cons_self
    obtain ⟨sz', e⟩ := run_name r d slot (sz + 1) h1 h2 fun x hx => h x (List.mem_cons_of_mem _ hx)
    have st : stepA ⟨d, slot, 1, sz⟩ c = some ⟨d, slot, 1, sz + 1⟩ := by
      rw [step_lo h1 h2 (fun e => absurd hc (by rw [e]; decide +kernel))]
      unfold nextM
      rw [if_neg (by omega), if_pos (.inr ⟨rfl, hc⟩)]
      rfl
    exact ⟨sz', runA_trans (a := [c]) (runA_one st) e⟩
theorem run_esc : ∀ (b : List Nat) (d : Int) (slot m sz : Nat), 1 ≤ slot → slot ≤ 2 → (m = 2 ∨ m = 3) → (∀ c ∈ b, c ∈ cs plainS) → ∃ sz', runA ⟨d, slot, m, sz⟩ (escL b) = some ⟨d, slot, if b = [] then m else 3, sz'⟩
  | [], _, _, m, sz, _, _, _, _ => ⟨sz, by rw [if_pos rfl]; rfl⟩
  | c :: r, d, slot, m, sz, h1, h2, hm, h => by
    have hc := h c List.mem_cons_self
    have stp : ∀ (m sz c : Nat), m = 2 ∨ m = 3 ∨ m = 4 → stepA ⟨d, slot, m, sz⟩ c = (nextM slot m sz c).map fun m' => ⟨d, slot, m', sz + 1⟩ := fun m sz c hm => step_lo h1 h2 (fun _ => by omega)
    have one : ∃ sz1, runA ⟨d, slot, m, sz⟩ (escC c) = some ⟨d, slot, 3, sz1⟩ := by
      rcases esc_cases c with ⟨e, n34, n92, n10, n9⟩ | ⟨d', e, hd'⟩
      · rw [e]
        have pl := plainL_facts c (plainL_mem hc n34 n92 n10 n9)
        exact ⟨sz + 1, runA_one (by
          rw [stp _ _ _ (by omega)]
          unfold nextM
          rw [if_neg (by omega), if_neg (fun h => by omega), if_neg (by omega), if_neg (by omega), if_neg (by omega), if_neg (by omega), if_pos ⟨hm, pl.1, by omega⟩]
          rfl)⟩
      · rw [e]
        exact ⟨sz + 1 + 1, runA_trans (a := [92]) (b := [d']) (runA_one (s' := ⟨d, slot, 4, sz + 1⟩) (by
          rw [stp _ _ _ (by omega)]
          unfold nextM
          rw [if_neg (by omega), if_neg (fun h => by omega), if_neg (by omega), if_pos ⟨hm, rfl⟩]
          rfl)) (runA_one (by
          rw [stp _ _ _ (by omega)]
          unfold nextM
          rw [if_neg (by omega), if_neg (fun h => by omega), if_neg (by omega), if_neg (by omega), if_neg (by omega), if_pos ⟨rfl, hd'⟩]
          rfl))⟩
    obtain ⟨sz1, e1⟩ := one
    obtain ⟨sz', e2⟩ := run_esc r d slot 3 sz1 h1 h2 (.inr rfl) fun x hx => h x (List.mem_cons_of_mem _ hx)
    refine ⟨sz', ?_⟩
    rw [if_neg (by simp)]
    have e3 : (if r = [] then 3 else 3) = 3 := by split <;> rfl
    rw [e3] at e2
    exact runA_trans (a := escC c) e1 e2
theorem run_srt {w : List Nat} (h : Srt w) (d : Int) {slot : Nat} (h1 : 1 ≤ slot) (h2 : slot ≤ 2) : ∃ m sz, runA ⟨d, slot, 0, 0⟩ w = some ⟨d, slot, m, sz⟩ ∧ (m = 1 ∨ m = 5) := by
  rcases h with ⟨c, r, rfl, hc, hr⟩ | ⟨b, bn, hb, rfl⟩
  · have st : stepA ⟨d, slot, 0, 0⟩ c = some ⟨d, slot, 1, 1⟩ := by
      rw [step_lo h1 h2 (fun _ => by decide)]
      unfold nextM
      rw [if_neg (by omega), if_pos (.inl ⟨rfl, hc⟩)]
      rfl
    obtain ⟨sz, e⟩ := run_name r d slot 1 h1 h2 hr
    exact ⟨1, sz, runA_trans (a := [c]) (runA_one st) e, .inl rfl⟩
  · have st : stepA ⟨d, slot, 0, 0⟩ 34 = some ⟨d, slot, 2, 1⟩ := by
      rw [step_lo h1 h2 (fun _ => by decide)]
      unfold nextM
      rw [if_neg (by omega), if_neg (fun h => by
        rcases h with ⟨_, h⟩ | ⟨h, _⟩
        · exact absurd h (by decide +kernel)
        · cases h), if_pos ⟨rfl, rfl⟩]
      rfl
    obtain ⟨sz, e⟩ := run_esc b d slot 2 1 h1 h2 (.inl rfl) hb
    rw [if_neg bn] at e
    have st2 : stepA ⟨d, slot, 3, sz⟩ 34 = some ⟨d, slot, 5, sz + 1⟩ := by
      rw [step_lo h1 h2 (fun _ => by decide)]
      unfold nextM
      rw [if_neg (by omega), if_neg (fun h => by omega), if_neg (by omega), if_neg (by omega), if_pos ⟨rfl, rfl⟩]
      rfl
    exact ⟨5, _, runA_trans (a := [34]) (runA_one st) (runA_trans (a := escL b) e (runA_one st2)), .inr rfl⟩
theorem run_digs : ∀ (r : List Nat) (d : Int) (slot sz : Nat), 3 ≤ slot → slot ≤ 8 → sz + r.length ≤ 9 → (∀ c ∈ r, c ∈ cs digS) → ∃ sz', runA ⟨d, slot, 8, sz⟩ r = some ⟨d, slot, 8, sz'⟩
  | [], _, _, sz, _, _, _, _ => ⟨sz, rfl⟩
  | c :: r, d, slot, sz, h3, h8, hl, h => by
    rw [List.length_cons] at hl
    have hc := h c List.mem_cons_self
    have hc2 := dig_mem.mp hc
    obtain ⟨sz', e⟩ := run_digs r d slot (sz + 1) h3 h8 (by omega) fun x hx => h x (List.mem_cons_of_mem _ hx)
    have st : stepA ⟨d, slot, 8, sz⟩ c = some ⟨d, slot, 8, sz + 1⟩ := by
      rw [step_in (by omega) h8 (fun e => by omega) (fun _ e => by omega)]
      unfold nextM
      rw [if_pos (by omega), if_neg (by omega), if_neg (by omega), if_pos ⟨.inr rfl, by omega, hc⟩]
      rfl
    exact ⟨sz', runA_trans (a := [c]) (runA_one st) e⟩
theorem run_num {i : Int} (o : NumOk i) (d : Int) {slot : Nat} (h3 : 3 ≤ slot) (h8 : slot ≤ 8) (hs : (slot = 3 ∨ slot = 7) ∨ 0 ≤ i) : ∃ m sz, runA ⟨d, slot, 0, 0⟩ (numT i) = some ⟨d, slot, m, sz⟩ ∧ (m = 7 ∨ m = 8) := by
  have stp : ∀ (m sz c : Nat), (c = 32 → m = 0 ∨ m = 6) → (slot = 8 → c = 41 → m = 0 ∨ m = 6) → stepA ⟨d, slot, m, sz⟩ c = (nextM slot m sz c).map fun m' => ⟨d, slot, m', sz + 1⟩ := fun m sz c h1 h2 => step_in (by omega) h8 (fun e => by have := h1 e; omega) (fun e1 e2 => by have := h2 e1 e2; omega)
  rcases o with rfl | ⟨i0, i9⟩
  · rw [num_neg]
    have hs2 : slot = 3 ∨ slot = 7 := hs.resolve_right (by decide)
    refine ⟨7, 2, runA_trans (a := [45]) (b := [49]) (runA_one (s' := ⟨d, slot, 6, 1⟩) ?_) (runA_one ?_), .inl rfl⟩
    · rw [stp _ _ _ (fun _ => .inl rfl) (fun _ _ => .inl rfl)]
      unfold nextM
      rw [if_pos (by omega), if_pos ⟨rfl, rfl, hs2⟩]
      rfl
    · rw [stp _ _ _ (fun _ => .inr rfl) (fun _ _ => .inr rfl)]
      unfold nextM
      rw [if_pos (by omega), if_neg (by omega), if_pos (.inl ⟨rfl, rfl⟩)]
      rfl
  · obtain ⟨c, r, e⟩ := num_ne i0
    have hd := num_digs i0
    have ln := num_len (pos_num ⟨i0, i9⟩)
    rw [e] at hd ln ⊢
    have hc := hd c List.mem_cons_self
    have hc2 := dig_mem.mp hc
    by_cases h48 : c = 48
    · subst h48
      have := num_zero i0 r e
      subst this
      refine ⟨7, 1, runA_one ?_, .inl rfl⟩
      rw [stp _ _ _ (fun _ => .inl rfl) (fun _ _ => .inl rfl)]
      unfold nextM
      rw [if_pos (by omega), if_neg (by omega), if_pos (.inr ⟨rfl, rfl⟩)]
      rfl
    · have st : stepA ⟨d, slot, 0, 0⟩ c = some ⟨d, slot, 8, 1⟩ := by
        rw [stp _ _ _ (fun _ => .inl rfl) (fun _ _ => .inl rfl)]
        unfold nextM
        rw [if_pos (by omega), if_neg (by omega), if_neg (by omega), if_pos ⟨.inl rfl, by decide, hc⟩]
        rfl
      obtain ⟨sz, e2⟩ := run_digs r d slot 1 h3 h8 (by rw [List.length_cons] at ln; omega) fun x hx => hd x (List.mem_cons_of_mem _ hx)
      exact ⟨8, sz, runA_trans (a := [c]) (runA_one st) e2, .inr rfl⟩
theorem run_sp {d : Int} {slot m sz : Nat} (h1 : 1 ≤ slot) (h7 : slot ≤ 7) (hm : m = 1 ∨ m = 5 ∨ m = 7 ∨ m = 8) : runA ⟨d, slot, m, sz⟩ [32] = some ⟨d, slot + 1, 0, 0⟩ := by
  have h := step_sp (d := d) (sz := sz) h1 (by omega) hm
  rw [if_neg (by omega)] at h
  exact runA_one h
theorem run_wd {nd : Nd} (o : NdOk nd) (d : Int) : ∃ m sz, runA ⟨d, 1, 0, 0⟩ (wd nd) = some ⟨d, 8, m, sz⟩ ∧ (m = 7 ∨ m = 8) := by
  rw [wd_eq]
  obtain ⟨m1, z1, e1, h1⟩ := run_srt o.kind d (slot := 1) (by decide) (by decide)
  obtain ⟨m2, z2, e2, h2⟩ := run_srt o.sym d (slot := 2) (by decide) (by decide)
  obtain ⟨m3, z3, e3, h3⟩ := run_num o.st d (slot := 3) (by decide) (by decide) (.inl (.inl rfl))
  obtain ⟨m4, z4, e4, h4⟩ := run_num (pos_num o.lead) d (slot := 4) (by decide) (by decide) (.inr o.lead.1)
  obtain ⟨m5, z5, e5, h5⟩ := run_num (pos_num o.wid) d (slot := 5) (by decide) (by decide) (.inr o.wid.1)
  obtain ⟨m6, z6, e6, h6⟩ := run_num (pos_num o.look) d (slot := 6) (by decide) (by decide) (.inr o.look.1)
  obtain ⟨m7, z7, e7, h7⟩ := run_num o.alt d (slot := 7) (by decide) (by decide) (.inl (.inr rfl))
  obtain ⟨m8, z8, e8, h8⟩ := run_num (pos_num o.pop) d (slot := 8) (by decide) (by decide) (.inr o.pop.1)
  refine ⟨m8, z8, ?_, h8⟩
  refine runA_trans e1 (runA_trans (a := [32]) (run_sp (by decide) (by decide) (by omega)) ?_)
  refine runA_trans e2 (runA_trans (a := [32]) (run_sp (by decide) (by decide) (by omega)) ?_)
  refine runA_trans e3 (runA_trans (a := [32]) (run_sp (by decide) (by decide) (by omega)) ?_)
  refine runA_trans e4 (runA_trans (a := [32]) (run_sp (by decide) (by decide) (by omega)) ?_)
  refine runA_trans e5 (runA_trans (a := [32]) (run_sp (by decide) (by decide) (by omega)) ?_)
  refine runA_trans e6 (runA_trans (a := [32]) (run_sp (by decide) (by decide) (by omega)) ?_)
  exact runA_trans e7 (runA_trans (a := [32]) (run_sp (by decide) (by decide) (by omega)) e8)
def Opn (d : Int) (s : Au) : Prop := (∃ m sz, s = ⟨d, 8, m, sz⟩ ∧ (m = 7 ∨ m = 8)) ∨ (s = ⟨d, 9, 0, 0⟩ ∧ 0 < d)
theorem Opn.sp {d : Int} {s : Au} (h : Opn d s) : stepA s 32 = some ⟨d, 0, 0, 0⟩ := by
  rcases h with ⟨m, sz, rfl, hm⟩ | ⟨rfl, hd⟩
  · exact step_sp (by decide) (by decide) (by omega)
  · unfold stepA
    rw [if_neg (show ¬ (9 : Nat) = 0 by decide), if_pos rfl, if_neg (fun h => by
      rcases h with h | h
      · simp only at h
        omega
      · exact h (.inl rfl)), if_neg (by decide)]
theorem Opn.cl {d : Int} {s : Au} (h : Opn d s) : stepA s 41 = some ⟨d - 1, 9, 0, 0⟩ := by
  rcases h with ⟨m, sz, rfl, hm⟩ | ⟨rfl, hd⟩
  · unfold stepA
    rw [if_neg (show ¬ (8 : Nat) = 0 by decide), if_neg (show ¬ (8 : Nat) = 9 by decide), if_neg (fun h => absurd h.1 (by decide)), if_pos ⟨rfl, rfl, hm⟩]
  · unfold stepA
    rw [if_neg (show ¬ (9 : Nat) = 0 by decide), if_pos rfl, if_neg (fun h => by
      rcases h with h | h
      · simp only at h
        omega
      · exact h (.inr rfl)), if_pos rfl]
mutual
theorem run_T : ∀ (t : Tr) (d : Int), 0 ≤ d → TrOk t → runA ⟨d, 0, 0, 0⟩ t.wr = some ⟨d, 9, 0, 0⟩
  | .mk p nd ks, d, hd, h => by
    obtain ⟨m, sz, e1, hm⟩ := run_wd h.1 (d + 1)
    obtain ⟨s, e2, hs⟩ := run_L ks (d + 1) ⟨d + 1, 8, m, sz⟩ (by omega) (.inl ⟨m, sz, rfl, hm⟩) h.2
    have e3 := hs.cl
    rw [show d + 1 - 1 = d by omega] at e3
    refine runA_trans (a := [40]) (runA_one (s' := ⟨d + 1, 1, 0, 0⟩) ?_) (runA_trans e1 (runA_trans e2 (runA_one e3)))
    unfold stepA
    rw [if_pos rfl, if_pos rfl]
theorem run_L : ∀ (ts : List Tr) (d : Int) (s : Au), 0 < d → Opn d s → TrsOk ts → ∃ s', runA s (wrL ts) = some s' ∧ Opn d s'
  | [], _, s, _, ho, _ => ⟨s, rfl, ho⟩
  | t :: ts, d, s, hd, ho, h => by
    have e1 := run_T t d (by omega) h.1
    obtain ⟨s', e2, ho'⟩ := run_L ts d ⟨d, 9, 0, 0⟩ hd (.inr ⟨rfl, hd⟩) h.2
    exact ⟨s', runA_trans (a := [32]) (runA_one ho.sp) (runA_trans e1 e2), ho'⟩
end
theorem good_at {z : Str} {t : Tr} (h : cs z = t.wr) (o : TrOk t) : At z (cs z).length ⟨0, 9, 0, 0⟩ := ⟨Nat.le_refl _, by rw [List.take_length, h]; exact run_T t 0 (by decide) o⟩
/-- rows with levels of a ladder are one tree -/
theorem tree_of {rows : List Rw} (h : Lev (rows.map Prod.fst)) : ∃ t : Tr, t.rows 0 = rows := by
  obtain ⟨ls, e, hs, hl⟩ := h
  obtain ⟨rs, hrs⟩ : ∃ rs : List Ra, rs = rows.map fun r => (r.1, r.2, (0 : Addr)) := ⟨_, rfl⟩
  have e1 : rs.map Prod.fst = rows.map Prod.fst := by rw [hrs, List.map_map]; rfl
  cases rs with
  | nil =>
    rw [← e1] at e
    cases e
  | cons r rs =>
    have e2 : r.1 :: rs.map Prod.fst = 0 :: ls := e1.trans e
    obtain ⟨h1, h2⟩ := List.cons.inj e2
    obtain ⟨t, ht⟩ := grow_one (r := r) (rs := rs) (by rw [e1]; rw [e] at hl ⊢; exact hl) h1 (fun x hx => hs x.1 (by rw [← h2]; exact List.mem_map_of_mem hx))
    refine ⟨t, ?_⟩
    have gf := grow_flat (r :: rs)
    rw [ht] at gf
    have gf : t.ras 0 ++ [] = r :: rs := gf
    rw [List.append_nil] at gf
    rw [rows_ras, gf, hrs, List.map_map]
    exact List.map_id' rows
theorem count_par (z : Str) : Txt.count z "(" = (((cs z).count 40 : Nat) : Int) := by
  rw [show ("(" : Str) = sg 40 by decide +kernel, PyProof.Rows.count_is]
  show PyProof.Rows.cnt 40 (cs z) = _
  induction cs z with
  | nil => rfl
  | cons c l ih =>
    rw [PyProof.Rows.cnt_cons, ih, List.count_cons]
    by_cases h : c = 40
    · rw [if_pos h, if_pos (by rw [h]; rfl)]
      omega
    · rw [if_neg h, if_neg (by simpa using h)]
      omega

/-! ### the law -/
theorem tsf {tt : L2.TT} {a c : L2.TS} {D : L2.Ends} {σ : L2.St} {H : Hp} (h : ∀ Q : Bool → Hp → Prop, (∀ H', Same H H' → Q false H') → tt σ H Q) (hc : ∀ H', Same H H' → c D σ H') : tSeq (tIfS tt a tNext) c D σ H := h _ fun H' s => iteF (hc H' s)
theorem tsfE {tt : L2.TT} {a : L2.TS} {D : L2.Ends} {σ : L2.St} {H : Hp} (h : ∀ Q : Bool → Hp → Prop, (∀ H', Same H H' → Q false H') → tt σ H Q) (hc : ∀ H', Same H H' → D.nx σ H') : tIfS tt a tNext D σ H := h _ fun H' s => iteF (hc H' s)
theorem e_if {σ : L2.St} {H : Hp} {tt : L2.TT} {a b : L2.TS} {D : L2.Ends} {r : VK} {k c : L2.St → Hp → Prop} (h : tIfS tt a b D σ H) : Ends.nx ⟨tIfS tt a b D, r, k, c⟩ σ H := h
theorem row_words {d : Nd} (o : NdOk d) : WOk (wordsD d) := by
  refine ⟨rfl, fun x hx => ?_⟩
  have nm : ∀ i : Int, NumOk i → (Str.ofString (toString i)).length ≤ 60 ∧ SgL (cs (Str.ofString (toString i))) := fun i oi => by
    have h := num_len oi
    refine ⟨by rw [len_cs]; exact Nat.le_trans h (by decide), ?_⟩
    rcases oi with rfl | ⟨i0, i9⟩
    · have e : cs (Str.ofString (toString (-1 : Int))) = [45, 49] := num_neg
      rw [e]
      decide +kernel
    · exact SgL.of_plain fun c hc => by
        have := dig_mem.mp (num_digs i0 c hc)
        have key : ∀ c : Nat, c < 58 → 48 ≤ c → c ∈ cs plainS := by decide +kernel
        exact key c (by omega) this.1
  have kd : ∀ w : Str, Srt (cs w) → (cs w).length ≤ 20 → w.length ≤ 60 ∧ SgL (cs w) := fun w h l => by
    refine ⟨by rw [len_cs]; omega, ?_⟩
    rcases h with ⟨c, r, e, hc, hr⟩ | ⟨b, _, hb, e⟩
    · rw [e]
      refine SgL.of_plain fun x hx => ?_
      have k1 : ∀ c ∈ cs lettS, c ∈ cs plainS := by decide +kernel
      have k2 : ∀ c ∈ cs nameS, c ∈ cs plainS := by decide +kernel
      rcases List.mem_cons.mp hx with rfl | hx
      · exact k1 _ hc
      · exact k2 _ (hr x hx)
    · rw [e]
      refine SgL.of_plain fun x hx => ?_
      unfold quoteL at hx
      rcases List.mem_cons.mp hx with rfl | hx
      · decide +kernel
      · rcases List.mem_append.mp hx with hx | hx
        · obtain ⟨y, hy, hx⟩ := List.mem_flatten.mp hx
          obtain ⟨c, hc, rfl⟩ := List.mem_map.mp hy
          rcases esc_cases c with ⟨e, _⟩ | ⟨d, e, hd⟩
          · rw [e] at hx
            rw [List.mem_singleton.mp hx]
            exact hb c hc
          · rw [e] at hx
            rcases List.mem_cons.mp hx with rfl | hx
            · decide +kernel
            · rw [List.mem_singleton.mp hx]
              exact (by decide +kernel : ∀ c ∈ cs "nt\\\"", c ∈ cs plainS) _ hd
        · rw [List.mem_singleton.mp hx]
          decide +kernel
  have hx : x ∈ [d.kind, d.sym, Str.ofString (toString d.st), Str.ofString (toString d.lead), Str.ofString (toString d.wid), Str.ofString (toString d.look), Str.ofString (toString d.alt), Str.ofString (toString d.pop)] := hx
  simp only [List.mem_cons, List.not_mem_nil, or_false] at hx
  rcases hx with rfl | rfl | rfl | rfl | rfl | rfl | rfl | rfl
  · exact kd _ o.kind o.lk
  · exact kd _ o.sym o.ls
  · exact nm _ o.st
  · exact nm _ (pos_num o.lead)
  · exact nm _ (pos_num o.wid)
  · exact nm _ (pos_num o.look)
  · exact nm _ o.alt
  · exact nm _ (pos_num o.pop)
theorem zip_rows : ∀ rows : List Rw, (rows.map Prod.fst).zip ((rows.map fun r => wordsD r.2).map jn) = gR rows
  | [] => rfl
  | r :: rows => by
    have ih := zip_rows rows
    show (r.1, jn (wordsD r.2)) :: (rows.map Prod.fst).zip ((rows.map fun r => wordsD r.2).map jn) = (r.1, wd r.2) :: gR rows
    rw [ih]
    rfl
theorem ws_str {H : Hp} {x : Str} {r : List V} : ∀ {Y : List (List Str)}, Paired (WsAt H) (V.str x :: r) Y → False
  | _, .cons ⟨_, e, _⟩ _ => by cases e
/-- texts and what is due of them -/
def TxOk (x : Str) : Prop := SgL (cs x) ∧ x.length ≤ 260000
theorem TxOk.zok {x : Str} (h : TxOk x) : ZOk x := ⟨h.1, Nat.le_trans h.2 (by decide)⟩
def spLaw (K : PySem.W.Frag) : Sp := fun vs H Q _ => ∃ (scr : Addr) (row : List Int), vs = [.ref scr] ∧ SqL K H scr (row.map V.int) ∧ row.length ≤ 63 ∧ ∀ H', Q (.bl true) H'
/-- a text without a fault is read and told again -/
theorem ok_law (T : Txt K mg) : FnOk P w K mg base CX0 11 T.a_law T.fd_law ["script"] (spLaw K) := by
  have G_law_reel : FnOk P w K mg base CX0 1 T.a_law_reel T.fd_law_reel ["script"] (spReel K) := ok_reel T
  have G_law_draw : FnOk P w K mg base CX0 1 T.a_law_draw T.fd_law_draw ["reel", "size"] spDraw := ok_draw T
  have G_law_levels : FnOk P w K mg base CX0 3 T.a_law_levels T.fd_law_levels ["reel"] (spLevs 50) := ok_levels T
  have G_law_comb : FnOk P w K mg base CX0 2 T.a_law_comb T.fd_law_comb ["reel", "deep"] spComb := ok_comb T
  have G_law_row : FnOk P w K mg base CX0 6 T.a_law_row T.fd_law_row ["reel", "level"] spRow := ok_row T
  have G_law_joined : FnOk P w K mg base CX0 1 T.a_law_joined T.fd_law_joined ["levels", "table"] spJoined := ok_joined T
  have G_law_spoilt : FnOk P w K mg base CX0 6 T.a_law_spoilt T.fd_law_spoilt ["reel", "levels", "table"] (spTexts 260000) := ok_spoilt T
  have G_law_fault : FnOk P w K mg base CX0 2 T.a_law_fault T.fd_law_fault ["text"] spFault := ok_law_fault T
  have G_law_again : FnOk P w K mg base CX0 1 T.a_law_again T.fd_law_again ["root", "most"] (spAgain K T.C_Node) := ok_again T
  have G_read_tree : FnOk P w K mg base (L2.CX P w) 9 T.a_read_tree T.fd_read_tree ["notation"] (spReadX K T.C_Node T.C_TreeError) := ok_readX T
  have G_law_refused : FnOk P w K mg base CX0 10 T.a_law_refused T.fd_law_refused ["text", "due"] spRefusedX := ok_refused T
  have G_law_refused_by_base : FnOk P w K mg base CX0 10 T.a_law_refused_by_base T.fd_law_refused_by_base ["text"] spByBaseX := ok_by_base T
  refine T.F_law.ok sc_law (fun vs H Q E h => ?_) (fun cdv A outer s H vs Q E hr h => ?_)
  · obtain ⟨scr, row, rfl, _⟩ := h
    rfl
  · have hr_law_reel : Room 1 _ := hr.mono (by decide)
    have hr_law_draw : Room 1 _ := hr.mono (by decide)
    have hr_law_levels : Room 3 _ := hr.mono (by decide)
    have hr_law_comb : Room 2 _ := hr.mono (by decide)
    have hr_law_row : Room 6 _ := hr.mono (by decide)
    have hr_law_joined : Room 1 _ := hr.mono (by decide)
    have hr_law_spoilt : Room 6 _ := hr.mono (by decide)
    have hr_law_fault : Room 2 _ := hr.mono (by decide)
    have hr_law_again : Room 1 _ := hr.mono (by decide)
    have hr_read_tree : Room 9 _ := hr.mono (by decide)
    have hr_law_refused : Room 10 _ := hr
    have hr_law_refused_by_base : Room 10 _ := hr
    obtain ⟨scr, row, rfl, hscr, lrow, q⟩ := h
    refine ⟨_, (pss_cons (ps_set (i := 1) sc_law.nd rfl (.inr rfl) (pe_call G_law_reel hr_law_reel (by rfl) T.g_law_reel T.F_law_reel.kp T.b_law_reel .nil pass0 (pa_cons (pv 0) pa_nil)))
      (pss_cons (ps_set (i := 2) sc_law.nd rfl (.inr rfl) (pe_call G_law_levels hr_law_levels (by rfl) T.g_law_levels T.F_law_levels.kp T.b_law_levels .nil pass0 (pa_cons (pv 1) pa_nil)))
      (pss_cons (ps_set (i := 3) sc_law.nd rfl (.inl rfl) pe_int)
      (C8.pss_cut (ps_if (pt_cmpR op_eq (pe_call G_law_draw hr_law_draw (by rfl) T.g_law_draw T.F_law_draw.kp T.b_law_draw .nil pass0 (pa_cons (pv 1) (pa_cons pe_int pa_nil))) pe_int (nomark _)) (pss_cons (ps_set (i := 2) sc_law.nd rfl (.inr rfl) (pe_call G_law_comb hr_law_comb (by rfl) T.g_law_comb T.F_law_comb.kp T.b_law_comb .nil pass0 (pa_cons (pv 1) (pa_cons (pe_op op_add pe_int (pe_call G_law_draw hr_law_draw (by rfl) T.g_law_draw T.F_law_draw.kp T.b_law_draw .nil pass0 (pa_cons (pv 1) (pa_cons pe_int pa_nil)))) pa_nil))))
      (pss_one (ps_set (i := 3) sc_law.nd rfl (.inl rfl) pe_int))) pss_nil)
      (pss_cons (ps_setLc (i := 4) (own := [("level", 5)]) (g := gName 5) (by rfl) sc_law.nd rfl rfl (sw_true rfl rfl rfl (by decide +kernel)) (pi_list (pv 2)) (blkOk_by (own := [("level", 5)]) (N := ["script", "reel", "levels", "many", "rows", "level", "table", "number", "row", "good", "texts", "turn", "dues", "text", "k"]) (sc := defScope s_law) (by decide +kernel)) (fun _ _ _ _ _ => pg_name (i := 5) sc_law.nd rfl (Or.inl rfl)) (fun _ _ _ _ _ => pts_nil) (fun _ _ _ _ _ => (pe_call G_law_row hr_law_row (by rfl) T.g_law_row T.F_law_row.kp T.b_law_row .nil pass0 (pa_cons (pv 1) (pa_cons (pv 5) pa_nil)))))
      (pss_cons (ps_set (i := 6) sc_law.nd rfl (.inr rfl) (pe_lc (own := [("row", 8)]) (g := gName 8) (by rfl) sc_law.nd (pi_list (pv 4)) (blkOk_by (own := [("row", 8)]) (N := ["script", "reel", "levels", "many", "rows", "level", "table", "number", "row", "good", "texts", "turn", "dues", "text", "k"]) (sc := defScope s_law) (by decide +kernel)) (fun _ _ _ _ _ => pg_name (i := 8) sc_law.nd rfl (Or.inl rfl)) (fun _ _ _ _ _ => pts_nil) (fun _ _ _ _ _ => (pe_op op_cat (pe_lst (pa_cons (pe_ix (ix_tupK (K := K) rfl) (pv 8) pe_int (fun _ _ => rfl)) (pa_cons (pe_ix (ix_tupK (K := K) rfl) (pv 8) pe_int (fun _ _ => rfl)) pa_nil))) (pe_lc (own := [("number", 7)]) (g := gName 7) (by rfl) sc_law.nd (pi_tupK (K := K) rfl (pe_slice (sl_tupK (K := K) rfl) (pv 8) (po_some pe_int) po_none)) (blkOk_by (own := [("number", 7)]) (N := ["script", "reel", "levels", "many", "rows", "level", "table", "number", "row", "good", "texts", "turn", "dues", "text", "k"]) (sc := { kind := PySem.ScopeKind.function, names := [(".0", PySem.NameKind.local), ("row", PySem.NameKind.local)], isGenerator := false, isCoroutine := false }) (by decide +kernel)) (fun _ _ _ _ _ => pg_name (i := 7) sc_law.nd rfl (Or.inl rfl)) (fun _ _ _ _ _ => pts_nil) (fun _ _ _ _ _ => (pe_callTy call_str_int (by rfl) T.m_str (by decide +kernel) (pa_cons (pv 7) pa_nil))))))))
      (pss_cons (ps_set (i := 9) sc_law.nd rfl (.inl rfl) (pe_call G_law_joined hr_law_joined (by rfl) T.g_law_joined T.F_law_joined.kp T.b_law_joined .nil pass0 (pa_cons (pv 2) (pa_cons (pv 6) pa_nil))))
      (pss_cons (ps_setLc (i := 10) (own := [("turn", 11)]) (g := gName 11) (by rfl) sc_law.nd rfl rfl (sw_true rfl rfl rfl (by decide +kernel)) (pi_range1 (by rfl) T.m_range (pa_cons (pv 3) pa_nil)) (blkOk_by (own := [("turn", 11)]) (N := ["script", "reel", "levels", "many", "rows", "level", "table", "number", "row", "good", "texts", "turn", "dues", "text", "k"]) (sc := defScope s_law) (by decide +kernel)) (fun _ _ _ _ _ => pg_name (i := 11) sc_law.nd rfl (Or.inl rfl)) (fun _ _ _ _ _ => pts_nil) (fun _ _ _ _ _ => (pe_call G_law_spoilt hr_law_spoilt (by rfl) T.g_law_spoilt T.F_law_spoilt.kp T.b_law_spoilt .nil pass0 (pa_cons (pv 1) (pa_cons (pv 2) (pa_cons (pv 6) pa_nil))))))
      (pss_cons (ps_setLc (i := 12) (own := [("text", 13)]) (g := gName 13) (by rfl) sc_law.nd rfl rfl (sw_true rfl rfl rfl (by decide +kernel)) (pi_list (pv 10)) (blkOk_by (own := [("text", 13)]) (N := ["script", "reel", "levels", "many", "rows", "level", "table", "number", "row", "good", "texts", "turn", "dues", "text", "k"]) (sc := defScope s_law) (by decide +kernel)) (fun _ _ _ _ _ => pg_name (i := 13) sc_law.nd rfl (Or.inl rfl)) (fun _ _ _ _ _ => pts_nil) (fun _ _ _ _ _ => (pe_call G_law_fault hr_law_fault (by rfl) T.g_law_fault T.F_law_fault.kp T.b_law_fault .nil pass0 (pa_cons (pv 13) pa_nil))))
      (pss_cons (ps_if (pt_not (pt_val (pe_call G_law_refused hr_law_refused (by rfl) T.g_law_refused T.F_law_refused.kp T.b_law_refused .nil pass0 (pa_cons pe_str (pa_cons pe_int pa_nil))))) (pss_one (ps_ret pe_bl)) pss_nil)
      (pss_cons (ps_for PassesOwn.never rfl (pi_range1 (by rfl) T.m_range (pa_cons pe_int pa_nil)) (pg_name (i := 11) sc_law.nd rfl (.inl rfl)) (pss_cons (ps_for PassesOwn.never rfl (pi_range1 (by rfl) T.m_range (pa_cons (pv 3) pa_nil)) (pg_name (i := 14) sc_law.nd rfl (.inl rfl)) (pss_cons (ps_if (PW.pt (pw_and (pt_cmpR op_lt (pe_ix ix_list (pv 12) (pv 14) (fun _ _ => rfl)) pe_int (nomark _)) (pw_and1 (pt_cmpR op_ne (pe_call G_law_again hr_law_again (by rfl) T.g_law_again T.F_law_again.kp T.b_law_again .nil pass0 (pa_cons (pe_call G_read_tree hr_read_tree (by rfl) T.g_read_tree T.F_read_tree.kp T.b_read_tree .nil (passX0 rfl rfl) (pa_cons (pe_ix ix_list (pv 10) (pv 14) (fun _ _ => rfl)) pa_nil)) (pa_cons (pe_op op_add (pe_m1 PySem.F.slot_str_count PySem.F.type_str_count mt_count (pe_ix ix_list (pv 10) (pv 14) (fun _ _ => rfl)) pe_str) pe_int) pa_nil))) (pe_ix ix_list (pv 10) (pv 14) (fun _ _ => rfl)) (nomark _))))) (pss_one (ps_ret pe_bl)) pss_nil)
      (pss_cons (ps_if (PW.pt (pw_and (pt_cmpR op_ge (pe_ix ix_list (pv 12) (pv 14) (fun _ _ => rfl)) pe_int (nomark _)) (pw_and (pt_cmpR op_eq (pv 11) pe_int (nomark _)) (pw_and1 (pt_not (pt_val (pe_call G_law_refused_by_base hr_law_refused_by_base (by rfl) T.g_law_refused_by_base T.F_law_refused_by_base.kp T.b_law_refused_by_base .nil pass0 (pa_cons (pe_ix ix_list (pv 10) (pv 14) (fun _ _ => rfl)) pa_nil)))))))) (pss_one (ps_ret pe_bl)) pss_nil)
      (pss_one (ps_if (PW.pt (pw_and (pt_cmpR op_ge (pe_ix ix_list (pv 12) (pv 14) (fun _ _ => rfl)) pe_int (nomark _)) (pw_and (pt_cmpR op_eq (pv 11) pe_int (nomark _)) (pw_and1 (pt_not (pt_val (pe_call G_law_refused hr_law_refused (by rfl) T.g_law_refused T.F_law_refused.kp T.b_law_refused .nil pass0 (pa_cons (pe_ix ix_list (pv 10) (pv 14) (fun _ _ => rfl)) (pa_cons (pe_ix ix_list (pv 12) (pv 14) (fun _ _ => rfl)) pa_nil))))))))) (pss_one (ps_ret pe_bl)) pss_nil)))))
      (pss_one (ps_if (PW.pt (pw_and (pt_cmpR op_eq (pv 11) pe_int (nomark _)) (pw_and1 (pt_cmpR op_ne (pe_call G_law_again hr_law_again (by rfl) T.g_law_again T.F_law_again.kp T.b_law_again .nil pass0 (pa_cons (pe_call G_read_tree hr_read_tree (by rfl) T.g_read_tree T.F_read_tree.kp T.b_read_tree .nil (passX0 rfl rfl) (pa_cons (pv 9) pa_nil)) (pa_cons (pe_op op_add (pe_m1 PySem.F.slot_str_count PySem.F.type_str_count mt_count (pv 9) pe_str) pe_int) pa_nil))) (pv 9) (nomark _))))) (pss_one (ps_ret pe_bl)) pss_nil))))
      (pss_one (ps_ret pe_bl))))))))))))), ?_⟩
    refine ⟨_, rfl, scr, row, rfl, hscr, fun H1 r s1 nr R1 => ?_⟩
    refine ⟨_, rfl, r, rfl, R1, fun l0 L0 H2 hl0 hL0 ll0 nl0 b2 R2 => ?_⟩
    refine ⟨fun σ H' => ReelAt H' r ∧ ∃ (l : Addr) (L : List Int) (m : Nat), σ = [some (.ref scr), some (.ref r), some (.ref l), some (.int (m : Int)), none, none, none, none, none, none, none, none, none, none, none] ∧ LevsAt H' l L ∧ Lev L ∧ L.length ≤ 150 ∧ l ≠ r ∧ m ≤ 4, ?_, ?_⟩
    · refine ⟨_, rfl, r, 16, rfl, R2, by decide, fun v H3 v0 v1 b3 R3 => ⟨rfl, _, rfl, ite2 (fun _ => ?_) (fun _ => ?_)⟩⟩
      · refine ⟨_, rfl, _, rfl, r, 60, rfl, R3, by decide, fun v H4 v0 v1 b4 R4 => ?_⟩
        obtain ⟨k, rfl⟩ : ∃ k : Nat, v = (k : Int) := ⟨v.toNat, by omega⟩
        refine ⟨_, _, rfl, rfl, r, 1 + k, by show [V.ref r, V.int (1 + (k : Int))] = _; rw [show (1 : Int) + (k : Int) = ((1 + k : Nat) : Int) by omega], R4, by omega, fun l L H5 hl hL ll nl b5 R5 => ?_⟩
        exact ⟨R5, l, L, 1, rfl, hl, hL, by omega, (R4.ne nl).symm, by decide⟩
      · have h0 : l0 ≠ r := (R1.ne nl0).symm
        exact ⟨R3, l0, L0, 4, rfl, b3 _ _ h0 hl0, hL0, by omega, h0, by decide⟩
    rintro σ H3 ⟨R3, l, L, m, rfl, hl, hL, lL, hlr, hm⟩
    clear R1 R2 hl0 hL0 ll0 nl0 b2 s1 nr hscr
    refine ⟨_, rfl, l, rfl, ⟨_, SqL.of hl⟩, fun D nD => ?_⟩
    have hDr : D ≠ r := (R3.ne nD).symm
    refine lc_it (walk_list (K := K) (a := l) (xs := L.map V.int)) (fun j H' => RowsSt r D L H3 j H') (RowsSt.start nD R3) (fun j H' _ S => SqL.of (S.1 _ _ hlr hl)) ?_ ?_
    · rintro j v H4 H5 hj S ⟨rfl, hv⟩
      rw [List.length_map] at hj
      have e1 : L[j]? = some L[j] := List.getElem?_eq_getElem hj
      have hv : (L.map V.int)[j]? = some v := hv
      rw [List.getElem?_map, e1] at hv
      obtain rfl : V.int L[j] = v := Option.some.inj hv
      exact ⟨rfl, _, rfl, _, rfl, r, _, rfl, S.2.1, fun v d H6 hv hd b6 R6 => S.step e1 (by omega) hv hd b6 R6 nD hDr⟩
    rintro H5 S
    rw [List.length_map] at S
    obtain ⟨rows, hB, hr2⟩ := S.done hL
    have hl5 : LevsAt H5 l L := S.1 _ _ hlr hl
    have R5 := S.2.1
    have lrows : rows.length = L.length := by rw [← hr2, List.length_map]
    clear S hl R3 nD
    obtain ⟨⟨us, hus, hpu⟩, hlev, hok⟩ := hB
    have lus := paired_len hpu
    -- the table
    refine ⟨_, rfl, D, rfl, ⟨_, SqL.of hus⟩, fun Dt nDt => ?_⟩
    refine lc_it (walk_list (K := K) (a := D) (xs := us)) (fun j H' => But Dt H5 H' ∧ ∃ ws, H' Dt = some (.lst ws) ∧ Paired (WsAt H') ws ((rows.take j).map fun r => wordsD r.2)) ⟨But.new nDt, [], upd_same, .nil⟩ (fun j H' _ ⟨b, _⟩ => SqL.of (b _ _ (ne_of_none hus nDt) hus)) ?_ ?_
    · rintro j v Hx H6 hj ⟨b6, ws, hDt, hpw⟩ ⟨rfl, hv⟩
      have hv : us[j]? = some v := hv
      obtain ⟨rr, hrr⟩ : ∃ rr, rows[j]? = some rr := ⟨_, List.getElem?_eq_getElem (by rw [← lus]; exact (List.getElem?_eq_some_iff.mp hv).1)⟩
      obtain ⟨v', hv', g, rfl, hg⟩ := paired_get hpu hrr
      rw [hv] at hv'
      obtain rfl := Option.some.inj hv'
      have od := hok rr (List.mem_of_getElem? hrr)
      have hg6 := b6 _ _ (ne_of_none hg nDt) hg
      have lws := paired_len hpw
      rw [List.length_map, List.length_take] at lws
      refine ⟨rfl, _, rfl, g, _, 1, _, rfl, rfl, SqT.of hg6, atI_nat (j := 1) rfl, _, rfl, g, _, 2, _, rfl, rfl, SqT.of hg6, atI_nat (j := 2) rfl, by show 2 ≤ sizeLine; decide, fun q1 nq1 => ?_⟩
      have t1 := same_upd (o := .lst [.str rr.2.kind, .str rr.2.sym]) nq1
      have hq1 : (upd H6 q1 (.lst [.str rr.2.kind, .str rr.2.sym])) q1 = some (.lst [.str rr.2.kind, .str rr.2.sym]) := upd_same
      obtain ⟨H7, hH7⟩ : ∃ H7, H7 = upd H6 q1 (.lst [.str rr.2.kind, .str rr.2.sym]) := ⟨_, rfl⟩
      rw [← hH7] at t1 hq1 ⊢
      have hg7 := t1 _ _ hg6
      refine ⟨_, rfl, _, rfl, g, _, rfl, SqT.of hg7, fun h => absurd (show (3 : Nat) = 0 from h.1) (by decide), fun q2 nq2 => ?_⟩
      have t2 := same_upd (o := .tup (numsV rr.2)) nq2
      have hq2 : (upd H7 q2 (.tup (numsV rr.2))) q2 = some (.tup (numsV rr.2)) := upd_same
      have ecut : cutV (rwV rr) (some 3) none = numsV rr.2 := rfl
      rw [ecut]
      obtain ⟨H8, hH8⟩ : ∃ H8, H8 = upd H7 q2 (.tup (numsV rr.2)) := ⟨_, rfl⟩
      rw [← hH8] at t2 hq2 ⊢
      refine ⟨q2, rfl, ⟨_, SqT.of hq2⟩, fun D2 nD2 => ?_⟩
      refine lc_it (walk_tup (K := K) (a := q2) (xs := numsV rr.2)) (fun i H' => But D2 H8 H' ∧ H' D2 = some (.lst (((strsD rr.2).take i).map V.str))) ⟨But.new nD2, upd_same⟩ (fun i H' _ ⟨b, _⟩ => SqT.of (b _ _ (ne_of_none hq2 nD2) hq2)) ?_ ?_
      · rintro i x Hy H9 hi ⟨b9, hD⟩ ⟨rfl, hx⟩
        have hi6 : i < 6 := hi
        obtain ⟨z, hz, hs, oz⟩ : ∃ z : Int, (numsV rr.2)[i]? = some (.int z) ∧ (strsD rr.2)[i]? = some (Str.ofString (toString z)) ∧ NumOk z := by
          match i, hi6 with
          | 0, _ => exact ⟨rr.2.st, rfl, rfl, od.st⟩
          | 1, _ => exact ⟨rr.2.lead, rfl, rfl, pos_num od.lead⟩
          | 2, _ => exact ⟨rr.2.wid, rfl, rfl, pos_num od.wid⟩
          | 3, _ => exact ⟨rr.2.look, rfl, rfl, pos_num od.look⟩
          | 4, _ => exact ⟨rr.2.alt, rfl, rfl, od.alt⟩
          | 5, _ => exact ⟨rr.2.pop, rfl, rfl, pos_num od.pop⟩
        have hx : (numsV rr.2)[i]? = some x := hx
        rw [hz] at hx
        obtain rfl : V.int z = x := Option.some.inj hx
        have hlog := num_log oz
        refine ⟨rfl, _, rfl, _, rfl, hlog, _, hD, sz2 (by rw [List.length_map, List.length_take]; omega), ?_, ?_⟩
        · exact fun c o ne e => by rw [upd_ne ne]; exact b9 c o ne e
        · rw [upd_same, takeN hs, List.map_append]
          rfl
      · rintro H9 ⟨b9, hD⟩
        have hD : H9 D2 = some (.lst ((strsD rr.2).map V.str)) := hD
        have t12 := t1.trans t2
        have nD20 : H6 D2 = none := t12.free nD2
        have sm9 : Same H6 H9 := fun c o e => b9 c o (ne_of_none e nD20) (t12 _ _ e)
        have hq19 := b9 _ _ (ne_of_none (t2 _ _ hq1) nD2) (t2 _ _ hq1)
        refine ⟨q1, D2, _, _, rfl, rfl, hq19, hD, by show 2 + 6 ≤ sizeLine; decide, fun wl nwl => ?_⟩
        have s4 := same_upd (o := .lst ([V.str rr.2.kind, V.str rr.2.sym] ++ (strsD rr.2).map V.str)) nwl
        have s64 := sm9.trans s4
        have hw : (upd H9 wl (.lst ([V.str rr.2.kind, V.str rr.2.sym] ++ (strsD rr.2).map V.str))) wl = some (.lst ((wordsD rr.2).map V.str)) := by
          rw [upd_same]
          rfl
        have hDt2 := s64 _ _ hDt
        have nwl6 : H6 wl = none := sm9.free nwl
        have hwD : wl ≠ Dt := (ne_of_none (sm9 _ _ hDt) nwl).symm
        refine ⟨_, hDt2, sz2 (by omega), fun c o nc e => ?_, ws ++ [.ref wl], by rw [upd_same], ?_⟩
        · rw [upd_ne nc]
          exact s64 _ _ (b6 c o nc e)
        · rw [takeN hrr, List.map_append]
          refine paired_app (pr_imp2 hpw fun y zs _ hzs k => ?_) (.cons ⟨wl, rfl, by rw [upd_ne hwD]; exact hw⟩ .nil)
          obtain ⟨g', e', hg'⟩ := k
          have ng' : g' ≠ Dt := fun e => by
            subst e
            obtain ⟨x0, _, rfl⟩ := List.mem_map.mp hzs
            have e2 := Option.some.inj (hDt.symm.trans hg')
            injection e2 with e2
            rw [e2] at hpw
            exact (ws_str hpw).elim
          exact ⟨g', e', by rw [upd_ne ng']; exact s64 _ _ hg'⟩
    rintro H6 ⟨b6, ws, hDt, hpw⟩
    rw [lus, List.take_length] at hpw
    have hl6 : LevsAt H6 l L := b6 _ _ (ne_of_none hl5 nDt) hl5
    have R6 : ReelAt H6 r := by
      obtain ⟨z, c, h1, h2⟩ := R5
      exact ⟨z, c, b6 _ _ (ne_of_none h1 nDt) h1, h2⟩
    have hT6 : TabAt H6 Dt (rows.map fun r => wordsD r.2) := ⟨ws, hDt, hpw⟩
    have lW : (rows.map fun r => wordsD r.2).length = L.length := by rw [List.length_map, lrows]
    have okW : ∀ ws ∈ rows.map (fun r => wordsD r.2), WOk ws := fun ws hws => by
      obtain ⟨x, hx, rfl⟩ := List.mem_map.mp hws
      exact row_words (hok x hx)
    have Wn : (rows.map fun r => wordsD r.2) ≠ [] := fun e => by
      have : 0 < L.length := by
        obtain ⟨ls, rfl, _⟩ := hL
        exact Nat.succ_pos _
      rw [e] at lW
      rw [← lW] at this
      exact absurd this (by decide)
    clear b6 hpw hDt hl5 R5 nDt
    -- the good text
    refine ⟨_, rfl, _, rfl, l, Dt, L, _, rfl, hl6, hL, hT6, lW, by omega, okW, fun good H7 s7 eg lg => ?_⟩
    obtain ⟨t, et⟩ := tree_of hlev
    have egw : cs good = t.wr := by
      rw [eg, ← hr2, zip_rows]
      exact text_wr et
    have okt : TrOk t := tr_ok 0 t (by rw [et]; exact hok)
    have zg : TxOk good := ⟨by rw [eg]; exact zip_sg okW, by omega⟩
    have Ag := good_at egw okt
    have hl7 : LevsAt H7 l L := s7 _ _ hl6
    have R7 := R6.same s7
    have hT7 := hT6.same s7
    clear hl6 R6 hT6 eg s7 hus hpu
    -- the texts
    refine ⟨_, rfl, (m : Int), rfl, by omega, by omega, fun Dx nDx => ?_⟩
    have hDxr : Dx ≠ r := (R7.ne nDx).symm
    refine lc_range (lo := 0) (n := ((m : Nat) : Int).toNat) (fun i H' => But r H7 H' ∧ ReelAt H' r ∧ ∃ xs : List Str, H' Dx = some (.lst (xs.map V.str)) ∧ xs.length = i ∧ ∀ x ∈ xs, TxOk x) ⟨But.new nDx, R7.new nDx, [], upd_same, rfl, fun x hx => absurd hx List.not_mem_nil⟩ ?_ ?_
    · rintro i H8 hi ⟨b8, R8, xs, hDx, lxs, oxs⟩
      have hl8 : LevsAt H8 l L := b8 _ _ hlr hl7
      refine ⟨rfl, _, rfl, _, rfl, _, rfl, r, l, Dt, L, _, rfl, R8, hlr, hl8, hL, hT7.but b8 R7 Wn okW, lW, by omega, okW, fun x H9 sx lx b9 R9 => ?_⟩
      have hDx9 := b9 _ _ hDxr hDx
      refine ⟨_, hDx9, sz2 (by rw [List.length_map]; omega), (b8.trans b9).updN nDx, R9.updN hDxr, xs ++ [x], by rw [upd_same, List.map_append]; rfl, by rw [List.length_append, lxs]; rfl, fun y hy => ?_⟩
      rcases List.mem_append.mp hy with h | h
      · exact oxs y h
      · rw [List.mem_singleton.mp h]
        exact ⟨sx, lx⟩
    rintro H8 ⟨b8, R8, xs, hDx, lxs, oxs⟩
    have lxs : xs.length = m := by omega
    clear hl7 R7 hT7 nDx b8
    -- what is due
    refine ⟨_, rfl, Dx, rfl, ⟨_, SqL.of hDx⟩, fun Dv nDv => ?_⟩
    refine lc_it (walk_list (K := K) (a := Dx) (xs := xs.map V.str)) (fun i H' => But Dv H8 H' ∧ ∃ vs : List Int, H' Dv = some (.lst (vs.map V.int)) ∧ Paired (fun v x => DueF x v) vs (xs.take i)) ⟨But.new nDv, [], upd_same, .nil⟩ (fun i H' _ ⟨b, _⟩ => SqL.of (b _ _ (ne_of_none hDx nDv) hDx)) ?_ ?_
    · rintro i v Hx H9 hi ⟨b9, vs, hDv, hpv⟩ ⟨rfl, hv⟩
      have hv : (xs.map V.str)[i]? = some v := hv
      rw [List.length_map] at hi
      have e1 : xs[i]? = some xs[i] := List.getElem?_eq_getElem hi
      rw [List.getElem?_map, e1] at hv
      obtain rfl : V.str xs[i] = v := Option.some.inj hv
      have ox := oxs _ (List.mem_of_getElem? e1)
      have lvs := paired_len hpv
      rw [List.length_take] at lvs
      refine ⟨rfl, _, rfl, xs[i], rfl, Nat.le_trans ox.2 (by decide), fun u H10 hu s10 => ?_⟩
      refine ⟨_, s10 _ _ hDv, sz2 (by rw [List.length_map]; omega), fun c o nc e => ?_, vs ++ [u], by rw [upd_same, List.map_append]; rfl, ?_⟩
      · rw [upd_ne nc]
        exact s10 _ _ (b9 c o nc e)
      · rw [takeN e1]
        exact paired_app hpv (.cons hu .nil)
    rintro H9 ⟨b9, vs, hDv, hpv⟩
    rw [List.length_map, List.take_length] at hpv
    have hDx9 := b9 _ _ (ne_of_none hDx nDv) hDx
    have lvs := paired_len hpv
    clear b9 hDx nDv R8
    -- '' is refused
    refine ⟨"", 0, rfl, ⟨by decide +kernel, by decide +kernel⟩, ⟨Au0, At.zero _, .inr ⟨by decide +kernel, fun h => absurd h.1 (by decide)⟩⟩, fun H10 s10 => ⟨true, rfl, iteF ?_⟩⟩
    have hDv10 := s10 _ _ hDv
    have hDx10 := s10 _ _ hDx9
    clear s10 hDv hDx9
    -- a text without a fault, read and told
    have ok_good : ∀ {z : Str}, TxOk z → (∃ s, At z (cs z).length s ∧ s.slot = 9 ∧ s.depth = 0) → ∀ {k : Nat} {C : Addr} {H' : Hp} {E' : XK}, FaultAt z k → ErrT C H' E' k := fun oz hs k C H' E' hf => by
      obtain ⟨s, hA, h9, h0⟩ := hs
      exact (hf.not_ok hA h9 h0).elim
    refine ⟨2, rfl, by decide, by decide, ?_⟩
    refine for_range (lo := 0) (n := ((2 : Int)).toNat) (fun j σ H' => Same H10 H' ∧ ∃ (y5 y7 y8 y11 y13 y14 : Option V), σ = [some (.ref scr), some (.ref r), some (.ref l), some (.int (m : Int)), some (.ref D), y5, some (.ref Dt), y7, y8, some (.str good), some (.ref Dx), y11, some (.ref Dv), y13, y14])
      ⟨Same.refl _, _, _, _, _, _, _, rfl⟩ ?_ ?_
    · rintro j σ H11 hj ⟨s11, y5, y7, y8, y11, y13, y14, rfl⟩
      refine ⟨_, rfl, (m : Int), rfl, by omega, by omega, ?_⟩
      refine for_range (lo := 0) (n := ((m : Nat) : Int).toNat) (fun k σ H' => Same H11 H' ∧ ∃ (y14 : Option V), σ = [some (.ref scr), some (.ref r), some (.ref l), some (.int (m : Int)), some (.ref D), y5, some (.ref Dt), y7, y8, some (.str good), some (.ref Dx), some (.int (0 + (j : Int))), some (.ref Dv), y13, y14])
        ⟨Same.refl _, _, rfl⟩ ?_ ?_
      · rintro k σ H12 hk ⟨s12, y14, rfl⟩
        have hk2 : k < xs.length := by omega
        have e1 : xs[k]? = some xs[k] := List.getElem?_eq_getElem hk2
        obtain ⟨v, hv, hdue⟩ := paired_get hpv e1
        have ox := oxs _ (List.mem_of_getElem? e1)
        obtain ⟨x, hx⟩ : ∃ x, x = xs[k] := ⟨_, rfl⟩
        rw [← hx] at e1 hdue ox
        have e0 : (0 : Int) + (k : Int) = (k : Int) := by omega
        have atX : atI (xs.map V.str) (0 + (k : Int)) = some (.str x) := by rw [e0]; exact atI_nat (by rw [List.getElem?_map, e1]; rfl)
        have atV : atI (vs.map V.int) (0 + (k : Int)) = some (.int v) := by rw [e0]; exact atI_nat (by rw [List.getElem?_map, hv]; rfl)
        have s02 := s11.trans s12
        refine tsf (fun Q1 q1 => ?_) (fun H13 s13 => tsf (fun Q1 q1 => ?_) (fun H14 s14 => tsfE (fun Q1 q1 => ?_) (fun H15 s15 => ?_)))
        · have hX := s02 _ _ hDx10
          refine ⟨_, rfl, _, rfl, Dv, _, _, _, rfl, rfl, SqL.of (s02 _ _ hDv10), atV, _, _, rfl, rfl, _, rfl, ?_⟩
          rcases hdue with ⟨rfl, hs⟩ | ⟨k', rfl, hf⟩
          · refine iteT ?_
            refine ⟨_, rfl, _, rfl, Dx, _, _, _, rfl, rfl, SqL.of hX, atX, x, rfl, ox.zok, fun u H13 A9 s13 nu tu wu => ?_, fun k' hf => ok_good ox hs hf⟩
            have hX13 := s13 _ _ hX
            have lu : u.wr.length ≤ 300000 := by
              rw [wu, ← len_cs]
              exact Nat.le_trans ox.2 (by decide)
            have cu := size_wr u
            rw [wu] at cu
            have lc : (cs x).count 40 ≤ (cs x).length := List.count_le_length
            rw [← len_cs] at lc
            have := ox.2
            refine ⟨_, rfl, _, rfl, Dx, _, _, _, rfl, rfl, SqL.of hX13, atX, ⟨_, rfl⟩, _, _, rfl, rfl, _, _, rfl, rfl, u, _, rfl, nu, tu, lu, ?_, ?_, fun y H14 s14 ey => ?_⟩
            · rw [show (Str.ofString "(") = ("(" : Str) from rfl, count_par]
              omega
            · rw [show (Str.ofString "(") = ("(" : Str) from rfl, count_par]
              omega
            · obtain rfl : x = y := cs_inj (by rw [ey, wu])
              refine ⟨_, rfl, _, rfl, Dx, _, _, _, rfl, rfl, SqL.of (s14 _ _ hX13), atX, rfl, _, rfl, ?_⟩
              rw [decide_eq_true rfl]
              exact q1 _ (s13.trans s14)
          · exact itF (decide_eq_false (by omega)) (q1 _ (Same.refl _))
        · have s03 := s02.trans s13
          have hX := s03 _ _ hDx10
          refine ⟨_, rfl, _, rfl, Dv, _, _, _, rfl, rfl, SqL.of (s03 _ _ hDv10), atV, _, _, rfl, rfl, _, rfl, ?_⟩
          rcases hdue with ⟨rfl, hs⟩ | ⟨k', rfl, hf⟩
          · exact itF (decide_eq_false (by decide)) (q1 _ (Same.refl _))
          · refine itT (decide_eq_true (by omega)) ?_
            refine (ts_eqI rfl) _ fun b _ => ?_
            cases b
            · exact iteF (q1 _ (Same.refl _))
            · refine iteT ⟨_, rfl, _, rfl, Dx, _, _, _, rfl, rfl, SqL.of hX, atX, x, k', rfl, ox.zok, hf, fun H14 s14 => ⟨true, rfl, q1 _ s14⟩⟩
        · have s04 := (s02.trans s13).trans s14
          have hX := s04 _ _ hDx10
          have hV := s04 _ _ hDv10
          refine ⟨_, rfl, _, rfl, Dv, _, _, _, rfl, rfl, SqL.of hV, atV, _, _, rfl, rfl, _, rfl, ?_⟩
          rcases hdue with ⟨rfl, hs⟩ | ⟨k', rfl, hf⟩
          · exact itF (decide_eq_false (by decide)) (q1 _ (Same.refl _))
          · refine itT (decide_eq_true (by omega)) ?_
            refine (ts_eqI rfl) _ fun b _ => ?_
            cases b
            · exact iteF (q1 _ (Same.refl _))
            · refine iteT ⟨_, rfl, _, rfl, Dx, _, _, _, rfl, rfl, SqL.of hX, atX, _, rfl, _, rfl, Dv, _, _, _, rfl, rfl, SqL.of hV, atV, x, k', rfl, ox.zok, hf, fun H14 s14 => ⟨true, rfl, q1 _ s14⟩⟩
        · exact ⟨((s12.trans s13).trans s14).trans s15, _, rfl⟩
      · rintro σ H12 ⟨s12, y14, rfl⟩
        refine e_if (tsfE (fun Q1 q1 => ?_) (fun H13 s13 => ?_))
        rotate_left
        · exact ⟨(s11.trans s12).trans s13, _, _, _, _, _, _, rfl⟩
        refine (ts_eqI rfl) _ fun b _ => ?_
        cases b
        · exact iteF (q1 _ (Same.refl _))
        · refine iteT ?_
          refine ⟨_, rfl, good, rfl, zg.zok, fun u H13 A9 s13 nu tu wu => ?_, fun k' hf => ok_good zg ⟨_, Ag, rfl, rfl⟩ hf⟩
          have lu : u.wr.length ≤ 300000 := by
            rw [wu, ← len_cs]
            exact Nat.le_trans zg.2 (by decide)
          have cu := size_wr u
          rw [wu] at cu
          have lc : (cs good).count 40 ≤ (cs good).length := List.count_le_length
          rw [← len_cs] at lc
          have := zg.2
          refine ⟨_, rfl, ⟨_, rfl⟩, _, _, rfl, rfl, _, _, rfl, rfl, u, _, rfl, nu, tu, lu, ?_, ?_, fun y H14 s14 ey => ?_⟩
          · rw [show (Str.ofString "(") = ("(" : Str) from rfl, count_par]
            omega
          · rw [show (Str.ofString "(") = ("(" : Str) from rfl, count_par]
            omega
          · obtain rfl : good = y := cs_inj (by rw [ey, wu])
            refine ⟨_, rfl, rfl, _, rfl, ?_⟩
            rw [decide_eq_true rfl]
            exact q1 _ (s13.trans s14)
    · rintro σ H11 ⟨s11, y5, y7, y8, y11, y13, y14, rfl⟩
      exact q H11

theorem ok_top (T : Txt K mg) : FnOk P w K mg base CX0 11 T.a_law T.fd_law ["script"] (spLaw K) := ok_law T
end
theorem all_mk {l : PySem.W.OpenLaw} {w : World} {K : PySem.W.Frag} {h : Heap} {mg : Str → Option Value} {fa : Addr} (X : K.In h) (G : h.Ns mainGlobals mg) (hfa : mg "law" = some (.ref fa))
    {C_MendedError : Addr} (g_MendedError : PySem.W.nsIn K mainGlobals "MendedError" = some (some (.ref C_MendedError)))
    {C_TreeError : Addr} (g_TreeError : PySem.W.nsIn K mainGlobals "TreeError" = some (some (.ref C_TreeError)))
    {C_Node : Addr} (g_Node : PySem.W.nsIn K mainGlobals "Node" = some (some (.ref C_Node)))
    {C_Reader : Addr} (g_Reader : PySem.W.nsIn K mainGlobals "Reader" = some (some (.ref C_Reader)))
    {C_BadMark : Addr} (g_BadMark : PySem.W.nsIn K mainGlobals "BadMark" = some (some (.ref C_BadMark)))
    {C_EditError : Addr} (g_EditError : PySem.W.nsIn K mainGlobals "EditError" = some (some (.ref C_EditError)))
    {C_Entangled : Addr} (g_Entangled : PySem.W.nsIn K mainGlobals "Entangled" = some (some (.ref C_Entangled)))
    {C_GrammarError : Addr} (g_GrammarError : PySem.W.nsIn K mainGlobals "GrammarError" = some (some (.ref C_GrammarError)))
    {C_HistoryError : Addr} (g_HistoryError : PySem.W.nsIn K mainGlobals "HistoryError" = some (some (.ref C_HistoryError)))
    {C_NoLayer : Addr} (g_NoLayer : PySem.W.nsIn K mainGlobals "NoLayer" = some (some (.ref C_NoLayer)))
    {C_NoMark : Addr} (g_NoMark : PySem.W.nsIn K mainGlobals "NoMark" = some (some (.ref C_NoMark)))
    {C_NoNode : Addr} (g_NoNode : PySem.W.nsIn K mainGlobals "NoNode" = some (some (.ref C_NoNode)))
    {C_NoWitness : Addr} (g_NoWitness : PySem.W.nsIn K mainGlobals "NoWitness" = some (some (.ref C_NoWitness)))
    {C_PatternError : Addr} (g_PatternError : PySem.W.nsIn K mainGlobals "PatternError" = some (some (.ref C_PatternError)))
    {C_QueryError : Addr} (g_QueryError : PySem.W.nsIn K mainGlobals "QueryError" = some (some (.ref C_QueryError)))
    {C_TableError : Addr} (g_TableError : PySem.W.nsIn K mainGlobals "TableError" = some (some (.ref C_TableError)))
    {C_UnknownLanguage : Addr} (g_UnknownLanguage : PySem.W.nsIn K mainGlobals "UnknownLanguage" = some (some (.ref C_UnknownLanguage)))
    {f0 : Addr} {od0 an0 : Option Addr} {sl0 : Array (Option Value)} {oc0 kV0 dc0 pm0 cd0 ct0 : Value}
    {f1 : Addr} {od1 an1 : Option Addr} {sl1 : Array (Option Value)} {oc1 dc1 pm1 cd1 ct1 : Value}
    {kD1 : Addr}
    {f2 : Addr} {od2 an2 : Option Addr} {sl2 : Array (Option Value)} {oc2 kV2 dc2 pm2 cd2 ct2 : Value}
    {f3 : Addr} {od3 an3 : Option Addr} {sl3 : Array (Option Value)} {oc3 kV3 dc3 pm3 cd3 ct3 : Value}
    {f4 : Addr} {od4 an4 : Option Addr} {sl4 : Array (Option Value)} {oc4 kV4 dc4 pm4 cd4 ct4 : Value}
    {f5 : Addr} {od5 an5 : Option Addr} {sl5 : Array (Option Value)} {oc5 kV5 dc5 pm5 cd5 ct5 : Value}
    {f6 : Addr} {od6 an6 : Option Addr} {sl6 : Array (Option Value)} {oc6 kV6 dc6 pm6 cd6 ct6 : Value}
    {f7 : Addr} {od7 an7 : Option Addr} {sl7 : Array (Option Value)} {oc7 kV7 dc7 pm7 cd7 ct7 : Value}
    {f8 : Addr} {od8 an8 : Option Addr} {sl8 : Array (Option Value)} {oc8 kV8 dc8 pm8 cd8 ct8 : Value}
    {f9 : Addr} {od9 an9 : Option Addr} {sl9 : Array (Option Value)} {oc9 kV9 dc9 pm9 cd9 ct9 : Value}
    {f10 : Addr} {od10 an10 : Option Addr} {sl10 : Array (Option Value)} {oc10 kV10 dc10 pm10 cd10 ct10 : Value}
    {f11 : Addr} {od11 an11 : Option Addr} {sl11 : Array (Option Value)} {oc11 kV11 dc11 pm11 cd11 ct11 : Value}
    {f12 : Addr} {od12 an12 : Option Addr} {sl12 : Array (Option Value)} {oc12 kV12 dc12 pm12 cd12 ct12 : Value}
    {f13 : Addr} {od13 an13 : Option Addr} {sl13 : Array (Option Value)} {oc13 kV13 dc13 pm13 cd13 ct13 : Value}
    {f14 : Addr} {od14 an14 : Option Addr} {sl14 : Array (Option Value)} {oc14 kV14 dc14 pm14 cd14 ct14 : Value}
    {f15 : Addr} {od15 an15 : Option Addr} {sl15 : Array (Option Value)} {oc15 kV15 dc15 pm15 cd15 ct15 : Value}
    {f16 : Addr} {od16 an16 : Option Addr} {sl16 : Array (Option Value)} {oc16 kV16 dc16 pm16 cd16 ct16 : Value}
    {f17 : Addr} {od17 an17 : Option Addr} {sl17 : Array (Option Value)} {oc17 kV17 dc17 pm17 cd17 ct17 : Value}
    {f18 : Addr} {od18 an18 : Option Addr} {sl18 : Array (Option Value)} {oc18 kV18 dc18 pm18 cd18 ct18 : Value}
    {f19 : Addr} {od19 an19 : Option Addr} {sl19 : Array (Option Value)} {oc19 kV19 dc19 pm19 cd19 ct19 : Value}
    {f20 : Addr} {od20 an20 : Option Addr} {sl20 : Array (Option Value)} {oc20 kV20 dc20 pm20 cd20 ct20 : Value}
    {f21 : Addr} {od21 an21 : Option Addr} {sl21 : Array (Option Value)} {oc21 kV21 dc21 pm21 cd21 ct21 : Value}
    {f22 : Addr} {od22 an22 : Option Addr} {sl22 : Array (Option Value)} {oc22 kV22 dc22 pm22 cd22 ct22 : Value}
    {f23 : Addr} {od23 an23 : Option Addr} {sl23 : Array (Option Value)} {oc23 kV23 dc23 pm23 cd23 ct23 : Value}
    {f24 : Addr} {od24 an24 : Option Addr} {sl24 : Array (Option Value)} {oc24 kV24 dc24 pm24 cd24 ct24 : Value}
    {f25 : Addr} {od25 an25 : Option Addr} {sl25 : Array (Option Value)} {oc25 kV25 dc25 pm25 cd25 ct25 : Value}
    {f26 : Addr} {od26 an26 : Option Addr} {sl26 : Array (Option Value)} {oc26 kV26 dc26 pm26 cd26 ct26 : Value}
    {f27 : Addr} {od27 an27 : Option Addr} {sl27 : Array (Option Value)} {oc27 kV27 dc27 pm27 cd27 ct27 : Value}
    {f28 : Addr} {od28 an28 : Option Addr} {sl28 : Array (Option Value)} {oc28 kV28 dc28 pm28 cd28 ct28 : Value}
    {f29 : Addr} {od29 an29 : Option Addr} {sl29 : Array (Option Value)} {oc29 kV29 dc29 pm29 cd29 ct29 : Value}
    {f30 : Addr} {od30 an30 : Option Addr} {sl30 : Array (Option Value)} {oc30 kV30 dc30 pm30 cd30 ct30 : Value}
    {f31 : Addr} {od31 an31 : Option Addr} {sl31 : Array (Option Value)} {oc31 kV31 dc31 pm31 cd31 ct31 : Value}
    {f32 : Addr} {od32 an32 : Option Addr} {sl32 : Array (Option Value)} {oc32 kV32 dc32 pm32 cd32 ct32 : Value}
    {f33 : Addr} {od33 an33 : Option Addr} {sl33 : Array (Option Value)} {oc33 kV33 dc33 pm33 cd33 ct33 : Value}
    {f34 : Addr} {od34 an34 : Option Addr} {sl34 : Array (Option Value)} {oc34 kV34 dc34 pm34 cd34 ct34 : Value}
    {f35 : Addr} {od35 an35 : Option Addr} {sl35 : Array (Option Value)} {oc35 kV35 dc35 pm35 cd35 ct35 : Value}
    {f36 : Addr} {od36 an36 : Option Addr} {sl36 : Array (Option Value)} {oc36 kV36 dc36 pm36 cd36 ct36 : Value}
    {f37 : Addr} {od37 an37 : Option Addr} {sl37 : Array (Option Value)} {oc37 kV37 dc37 pm37 cd37 ct37 : Value}
    {f38 : Addr} {od38 an38 : Option Addr} {sl38 : Array (Option Value)} {oc38 kV38 dc38 pm38 cd38 ct38 : Value}
    {f39 : Addr} {od39 an39 : Option Addr} {sl39 : Array (Option Value)} {oc39 kV39 dc39 pm39 cd39 ct39 : Value}
    (a0 : PySem.W.findIn K (.ref C_TreeError) "__init__" = some (some (.ref f0)))
    (l0 : K.lookup f0 = some ⟨oc0, od0, .func (PySem.W.fnOf "__init__" "TreeError.__init__" (defArgs s_TreeError_init) (defBody s_TreeError_init) (defScope s_TreeError_init) .none kV0 dc0 pm0 an0 cd0 ct0), sl0⟩) (c0 : PySem.W.codeIn K cd0 "TreeError.__init__" = true) (k0 : PySem.W.keepIn K (.ref f0) = true)
    (a1 : PySem.W.findIn K (.ref C_Node) "__init__" = some (some (.ref f1)))
    (l1 : K.lookup f1 = some ⟨oc1, od1, .func (PySem.W.fnOf "__init__" "Node.__init__" (defArgs s_Node_init) (defBody s_Node_init) (defScope s_Node_init) .none (.ref kD1) dc1 pm1 an1 cd1 ct1), sl1⟩) (c1 : PySem.W.codeIn K cd1 "Node.__init__" = true) (k1 : PySem.W.keepIn K (.ref f1) = true)
    {kk1_alternative : Tok} (kd1_alternative : PySem.W.nsIn K kD1 "alternative" = some (some (.int (-1) kk1_alternative)))
    {kT1 : Addr} {koc1 : Option Addr} {kn1 : Nat} {ksl1 : Array (Option Value)} (kd1_nodes : PySem.W.nsIn K kD1 "nodes" = some (some (.ref kT1))) (kt1 : K.lookup kT1 = some ⟨.type "tuple", koc1, .seq #[] kn1, ksl1⟩)
    {kk1_popped : Tok} (kd1_popped : PySem.W.nsIn K kD1 "popped" = some (some (.int (0) kk1_popped)))
    (a2 : PySem.W.nsIn K mainGlobals "read_tree" = some (some (.ref f2)))
    (l2 : K.lookup f2 = some ⟨oc2, od2, .func (PySem.W.fnOf "read_tree" "read_tree" (defArgs s_read_tree) (defBody s_read_tree) (defScope s_read_tree) .none kV2 dc2 pm2 an2 cd2 ct2), sl2⟩) (c2 : PySem.W.codeIn K cd2 "read_tree" = true) (k2 : PySem.W.keepIn K (.ref f2) = true)
    (a3 : PySem.W.nsIn K mainGlobals "_node" = some (some (.ref f3)))
    (l3 : K.lookup f3 = some ⟨oc3, od3, .func (PySem.W.fnOf "_node" "_node" (defArgs s_node) (defBody s_node) (defScope s_node) .none kV3 dc3 pm3 an3 cd3 ct3), sl3⟩) (c3 : PySem.W.codeIn K cd3 "_node" = true) (k3 : PySem.W.keepIn K (.ref f3) = true)
    (a4 : PySem.W.findIn K (.ref C_Reader) "__init__" = some (some (.ref f4)))
    (l4 : K.lookup f4 = some ⟨oc4, od4, .func (PySem.W.fnOf "__init__" "Reader.__init__" (defArgs s_Reader_init) (defBody s_Reader_init) (defScope s_Reader_init) .none kV4 dc4 pm4 an4 cd4 ct4), sl4⟩) (c4 : PySem.W.codeIn K cd4 "Reader.__init__" = true) (k4 : PySem.W.keepIn K (.ref f4) = true)
    (a5 : PySem.W.findIn K (.ref C_Reader) "_char" = some (some (.ref f5)))
    (l5 : K.lookup f5 = some ⟨oc5, od5, .func (PySem.W.fnOf "_char" "Reader._char" (defArgs s_Reader__char) (defBody s_Reader__char) (defScope s_Reader__char) .none kV5 dc5 pm5 an5 cd5 ct5), sl5⟩) (c5 : PySem.W.codeIn K cd5 "Reader._char" = true) (k5 : PySem.W.keepIn K (.ref f5) = true)
    (a6 : PySem.W.findIn K (.ref C_Reader) "_pass_one_of" = some (some (.ref f6)))
    (l6 : K.lookup f6 = some ⟨oc6, od6, .func (PySem.W.fnOf "_pass_one_of" "Reader._pass_one_of" (defArgs s_Reader__pass_one_of) (defBody s_Reader__pass_one_of) (defScope s_Reader__pass_one_of) .none kV6 dc6 pm6 an6 cd6 ct6), sl6⟩) (c6 : PySem.W.codeIn K cd6 "Reader._pass_one_of" = true) (k6 : PySem.W.keepIn K (.ref f6) = true)
    (a7 : PySem.W.findIn K (.ref C_Reader) "sign" = some (some (.ref f7)))
    (l7 : K.lookup f7 = some ⟨oc7, od7, .func (PySem.W.fnOf "sign" "Reader.sign" (defArgs s_Reader_sign) (defBody s_Reader_sign) (defScope s_Reader_sign) .none kV7 dc7 pm7 an7 cd7 ct7), sl7⟩) (c7 : PySem.W.codeIn K cd7 "Reader.sign" = true) (k7 : PySem.W.keepIn K (.ref f7) = true)
    (a8 : PySem.W.findIn K (.ref C_Reader) "goes_on" = some (some (.ref f8)))
    (l8 : K.lookup f8 = some ⟨oc8, od8, .func (PySem.W.fnOf "goes_on" "Reader.goes_on" (defArgs s_Reader_goes_on) (defBody s_Reader_goes_on) (defScope s_Reader_goes_on) .none kV8 dc8 pm8 an8 cd8 ct8), sl8⟩) (c8 : PySem.W.codeIn K cd8 "Reader.goes_on" = true) (k8 : PySem.W.keepIn K (.ref f8) = true)
    (a9 : PySem.W.findIn K (.ref C_Reader) "finish" = some (some (.ref f9)))
    (l9 : K.lookup f9 = some ⟨oc9, od9, .func (PySem.W.fnOf "finish" "Reader.finish" (defArgs s_Reader_finish) (defBody s_Reader_finish) (defScope s_Reader_finish) .none kV9 dc9 pm9 an9 cd9 ct9), sl9⟩) (c9 : PySem.W.codeIn K cd9 "Reader.finish" = true) (k9 : PySem.W.keepIn K (.ref f9) = true)
    (a10 : PySem.W.findIn K (.ref C_Reader) "words" = some (some (.ref f10)))
    (l10 : K.lookup f10 = some ⟨oc10, od10, .func (PySem.W.fnOf "words" "Reader.words" (defArgs s_Reader_words) (defBody s_Reader_words) (defScope s_Reader_words) .none kV10 dc10 pm10 an10 cd10 ct10), sl10⟩) (c10 : PySem.W.codeIn K cd10 "Reader.words" = true) (k10 : PySem.W.keepIn K (.ref f10) = true)
    (a11 : PySem.W.findIn K (.ref C_Reader) "_name" = some (some (.ref f11)))
    (l11 : K.lookup f11 = some ⟨oc11, od11, .func (PySem.W.fnOf "_name" "Reader._name" (defArgs s_Reader__name) (defBody s_Reader__name) (defScope s_Reader__name) .none kV11 dc11 pm11 an11 cd11 ct11), sl11⟩) (c11 : PySem.W.codeIn K cd11 "Reader._name" = true) (k11 : PySem.W.keepIn K (.ref f11) = true)
    (a12 : PySem.W.findIn K (.ref C_Reader) "_pass_literal" = some (some (.ref f12)))
    (l12 : K.lookup f12 = some ⟨oc12, od12, .func (PySem.W.fnOf "_pass_literal" "Reader._pass_literal" (defArgs s_Reader__pass_literal) (defBody s_Reader__pass_literal) (defScope s_Reader__pass_literal) .none kV12 dc12 pm12 an12 cd12 ct12), sl12⟩) (c12 : PySem.W.codeIn K cd12 "Reader._pass_literal" = true) (k12 : PySem.W.keepIn K (.ref f12) = true)
    (a13 : PySem.W.findIn K (.ref C_Reader) "_number" = some (some (.ref f13)))
    (l13 : K.lookup f13 = some ⟨oc13, od13, .func (PySem.W.fnOf "_number" "Reader._number" (defArgs s_Reader__number) (defBody s_Reader__number) (defScope s_Reader__number) .none kV13 dc13 pm13 an13 cd13 ct13), sl13⟩) (c13 : PySem.W.codeIn K cd13 "Reader._number" = true) (k13 : PySem.W.keepIn K (.ref f13) = true)
    (a14 : PySem.W.nsIn K mainGlobals "_law_reel" = some (some (.ref f14)))
    (l14 : K.lookup f14 = some ⟨oc14, od14, .func (PySem.W.fnOf "_law_reel" "_law_reel" (defArgs s_law_reel) (defBody s_law_reel) (defScope s_law_reel) .none kV14 dc14 pm14 an14 cd14 ct14), sl14⟩) (c14 : PySem.W.codeIn K cd14 "_law_reel" = true) (k14 : PySem.W.keepIn K (.ref f14) = true)
    (a15 : PySem.W.nsIn K mainGlobals "_law_draw" = some (some (.ref f15)))
    (l15 : K.lookup f15 = some ⟨oc15, od15, .func (PySem.W.fnOf "_law_draw" "_law_draw" (defArgs s_law_draw) (defBody s_law_draw) (defScope s_law_draw) .none kV15 dc15 pm15 an15 cd15 ct15), sl15⟩) (c15 : PySem.W.codeIn K cd15 "_law_draw" = true) (k15 : PySem.W.keepIn K (.ref f15) = true)
    (a16 : PySem.W.nsIn K mainGlobals "_law_pick" = some (some (.ref f16)))
    (l16 : K.lookup f16 = some ⟨oc16, od16, .func (PySem.W.fnOf "_law_pick" "_law_pick" (defArgs s_law_pick) (defBody s_law_pick) (defScope s_law_pick) .none kV16 dc16 pm16 an16 cd16 ct16), sl16⟩) (c16 : PySem.W.codeIn K cd16 "_law_pick" = true) (k16 : PySem.W.keepIn K (.ref f16) = true)
    (a17 : PySem.W.nsIn K mainGlobals "_law_word" = some (some (.ref f17)))
    (l17 : K.lookup f17 = some ⟨oc17, od17, .func (PySem.W.fnOf "_law_word" "_law_word" (defArgs s_law_word) (defBody s_law_word) (defScope s_law_word) .none kV17 dc17 pm17 an17 cd17 ct17), sl17⟩) (c17 : PySem.W.codeIn K cd17 "_law_word" = true) (k17 : PySem.W.keepIn K (.ref f17) = true)
    (a18 : PySem.W.nsIn K mainGlobals "_law_quoted" = some (some (.ref f18)))
    (l18 : K.lookup f18 = some ⟨oc18, od18, .func (PySem.W.fnOf "_law_quoted" "_law_quoted" (defArgs s_law_quoted) (defBody s_law_quoted) (defScope s_law_quoted) .none kV18 dc18 pm18 an18 cd18 ct18), sl18⟩) (c18 : PySem.W.codeIn K cd18 "_law_quoted" = true) (k18 : PySem.W.keepIn K (.ref f18) = true)
    (a19 : PySem.W.nsIn K mainGlobals "_law_literal" = some (some (.ref f19)))
    (l19 : K.lookup f19 = some ⟨oc19, od19, .func (PySem.W.fnOf "_law_literal" "_law_literal" (defArgs s_law_literal) (defBody s_law_literal) (defScope s_law_literal) .none kV19 dc19 pm19 an19 cd19 ct19), sl19⟩) (c19 : PySem.W.codeIn K cd19 "_law_literal" = true) (k19 : PySem.W.keepIn K (.ref f19) = true)
    (a20 : PySem.W.nsIn K mainGlobals "_law_name" = some (some (.ref f20)))
    (l20 : K.lookup f20 = some ⟨oc20, od20, .func (PySem.W.fnOf "_law_name" "_law_name" (defArgs s_law_name) (defBody s_law_name) (defScope s_law_name) .none kV20 dc20 pm20 an20 cd20 ct20), sl20⟩) (c20 : PySem.W.codeIn K cd20 "_law_name" = true) (k20 : PySem.W.keepIn K (.ref f20) = true)
    (a21 : PySem.W.nsIn K mainGlobals "_law_sort" = some (some (.ref f21)))
    (l21 : K.lookup f21 = some ⟨oc21, od21, .func (PySem.W.fnOf "_law_sort" "_law_sort" (defArgs s_law_sort) (defBody s_law_sort) (defScope s_law_sort) .none kV21 dc21 pm21 an21 cd21 ct21), sl21⟩) (c21 : PySem.W.codeIn K cd21 "_law_sort" = true) (k21 : PySem.W.keepIn K (.ref f21) = true)
    (a22 : PySem.W.nsIn K mainGlobals "_law_comb" = some (some (.ref f22)))
    (l22 : K.lookup f22 = some ⟨oc22, od22, .func (PySem.W.fnOf "_law_comb" "_law_comb" (defArgs s_law_comb) (defBody s_law_comb) (defScope s_law_comb) .none kV22 dc22 pm22 an22 cd22 ct22), sl22⟩) (c22 : PySem.W.codeIn K cd22 "_law_comb" = true) (k22 : PySem.W.keepIn K (.ref f22) = true)
    (a23 : PySem.W.nsIn K mainGlobals "_law_levels" = some (some (.ref f23)))
    (l23 : K.lookup f23 = some ⟨oc23, od23, .func (PySem.W.fnOf "_law_levels" "_law_levels" (defArgs s_law_levels) (defBody s_law_levels) (defScope s_law_levels) .none kV23 dc23 pm23 an23 cd23 ct23), sl23⟩) (c23 : PySem.W.codeIn K cd23 "_law_levels" = true) (k23 : PySem.W.keepIn K (.ref f23) = true)
    (a24 : PySem.W.nsIn K mainGlobals "_law_count" = some (some (.ref f24)))
    (l24 : K.lookup f24 = some ⟨oc24, od24, .func (PySem.W.fnOf "_law_count" "_law_count" (defArgs s_law_count) (defBody s_law_count) (defScope s_law_count) .none kV24 dc24 pm24 an24 cd24 ct24), sl24⟩) (c24 : PySem.W.codeIn K cd24 "_law_count" = true) (k24 : PySem.W.keepIn K (.ref f24) = true)
    (a25 : PySem.W.nsIn K mainGlobals "_law_row" = some (some (.ref f25)))
    (l25 : K.lookup f25 = some ⟨oc25, od25, .func (PySem.W.fnOf "_law_row" "_law_row" (defArgs s_law_row) (defBody s_law_row) (defScope s_law_row) .none kV25 dc25 pm25 an25 cd25 ct25), sl25⟩) (c25 : PySem.W.codeIn K cd25 "_law_row" = true) (k25 : PySem.W.keepIn K (.ref f25) = true)
    (a26 : PySem.W.nsIn K mainGlobals "_law_joined" = some (some (.ref f26)))
    (l26 : K.lookup f26 = some ⟨oc26, od26, .func (PySem.W.fnOf "_law_joined" "_law_joined" (defArgs s_law_joined) (defBody s_law_joined) (defScope s_law_joined) .none kV26 dc26 pm26 an26 cd26 ct26), sl26⟩) (c26 : PySem.W.codeIn K cd26 "_law_joined" = true) (k26 : PySem.W.keepIn K (.ref f26) = true)
    (a27 : PySem.W.nsIn K mainGlobals "_law_place" = some (some (.ref f27)))
    (l27 : K.lookup f27 = some ⟨oc27, od27, .func (PySem.W.fnOf "_law_place" "_law_place" (defArgs s_law_place) (defBody s_law_place) (defScope s_law_place) .none kV27 dc27 pm27 an27 cd27 ct27), sl27⟩) (c27 : PySem.W.codeIn K cd27 "_law_place" = true) (k27 : PySem.W.keepIn K (.ref f27) = true)
    (a28 : PySem.W.nsIn K mainGlobals "_law_odd_number" = some (some (.ref f28)))
    (l28 : K.lookup f28 = some ⟨oc28, od28, .func (PySem.W.fnOf "_law_odd_number" "_law_odd_number" (defArgs s_law_odd_number) (defBody s_law_odd_number) (defScope s_law_odd_number) .none kV28 dc28 pm28 an28 cd28 ct28), sl28⟩) (c28 : PySem.W.codeIn K cd28 "_law_odd_number" = true) (k28 : PySem.W.keepIn K (.ref f28) = true)
    (a29 : PySem.W.nsIn K mainGlobals "_law_sign" = some (some (.ref f29)))
    (l29 : K.lookup f29 = some ⟨oc29, od29, .func (PySem.W.fnOf "_law_sign" "_law_sign" (defArgs s_law_sign) (defBody s_law_sign) (defScope s_law_sign) .none kV29 dc29 pm29 an29 cd29 ct29), sl29⟩) (c29 : PySem.W.codeIn K cd29 "_law_sign" = true) (k29 : PySem.W.keepIn K (.ref f29) = true)
    (a30 : PySem.W.nsIn K mainGlobals "_law_odd_word" = some (some (.ref f30)))
    (l30 : K.lookup f30 = some ⟨oc30, od30, .func (PySem.W.fnOf "_law_odd_word" "_law_odd_word" (defArgs s_law_odd_word) (defBody s_law_odd_word) (defScope s_law_odd_word) .none kV30 dc30 pm30 an30 cd30 ct30), sl30⟩) (c30 : PySem.W.codeIn K cd30 "_law_odd_word" = true) (k30 : PySem.W.keepIn K (.ref f30) = true)
    (a31 : PySem.W.nsIn K mainGlobals "_law_other_words" = some (some (.ref f31)))
    (l31 : K.lookup f31 = some ⟨oc31, od31, .func (PySem.W.fnOf "_law_other_words" "_law_other_words" (defArgs s_law_other_words) (defBody s_law_other_words) (defScope s_law_other_words) .none kV31 dc31 pm31 an31 cd31 ct31), sl31⟩) (c31 : PySem.W.codeIn K cd31 "_law_other_words" = true) (k31 : PySem.W.keepIn K (.ref f31) = true)
    (a32 : PySem.W.nsIn K mainGlobals "_law_changed" = some (some (.ref f32)))
    (l32 : K.lookup f32 = some ⟨oc32, od32, .func (PySem.W.fnOf "_law_changed" "_law_changed" (defArgs s_law_changed) (defBody s_law_changed) (defScope s_law_changed) .none kV32 dc32 pm32 an32 cd32 ct32), sl32⟩) (c32 : PySem.W.codeIn K cd32 "_law_changed" = true) (k32 : PySem.W.keepIn K (.ref f32) = true)
    (a33 : PySem.W.nsIn K mainGlobals "_law_next" = some (some (.ref f33)))
    (l33 : K.lookup f33 = some ⟨oc33, od33, .func (PySem.W.fnOf "_law_next" "_law_next" (defArgs s_law_next) (defBody s_law_next) (defScope s_law_next) .none kV33 dc33 pm33 an33 cd33 ct33), sl33⟩) (c33 : PySem.W.codeIn K cd33 "_law_next" = true) (k33 : PySem.W.keepIn K (.ref f33) = true)
    (a34 : PySem.W.nsIn K mainGlobals "_law_fault" = some (some (.ref f34)))
    (l34 : K.lookup f34 = some ⟨oc34, od34, .func (PySem.W.fnOf "_law_fault" "_law_fault" (defArgs s_law_fault) (defBody s_law_fault) (defScope s_law_fault) .none kV34 dc34 pm34 an34 cd34 ct34), sl34⟩) (c34 : PySem.W.codeIn K cd34 "_law_fault" = true) (k34 : PySem.W.keepIn K (.ref f34) = true)
    (a35 : PySem.W.nsIn K mainGlobals "_law_again" = some (some (.ref f35)))
    (l35 : K.lookup f35 = some ⟨oc35, od35, .func (PySem.W.fnOf "_law_again" "_law_again" (defArgs s_law_again) (defBody s_law_again) (defScope s_law_again) .none kV35 dc35 pm35 an35 cd35 ct35), sl35⟩) (c35 : PySem.W.codeIn K cd35 "_law_again" = true) (k35 : PySem.W.keepIn K (.ref f35) = true)
    (a36 : PySem.W.nsIn K mainGlobals "_law_refused" = some (some (.ref f36)))
    (l36 : K.lookup f36 = some ⟨oc36, od36, .func (PySem.W.fnOf "_law_refused" "_law_refused" (defArgs s_law_refused) (defBody s_law_refused) (defScope s_law_refused) .none kV36 dc36 pm36 an36 cd36 ct36), sl36⟩) (c36 : PySem.W.codeIn K cd36 "_law_refused" = true) (k36 : PySem.W.keepIn K (.ref f36) = true)
    (a37 : PySem.W.nsIn K mainGlobals "_law_refused_by_base" = some (some (.ref f37)))
    (l37 : K.lookup f37 = some ⟨oc37, od37, .func (PySem.W.fnOf "_law_refused_by_base" "_law_refused_by_base" (defArgs s_law_refused_by_base) (defBody s_law_refused_by_base) (defScope s_law_refused_by_base) .none kV37 dc37 pm37 an37 cd37 ct37), sl37⟩) (c37 : PySem.W.codeIn K cd37 "_law_refused_by_base" = true) (k37 : PySem.W.keepIn K (.ref f37) = true)
    (a38 : PySem.W.nsIn K mainGlobals "_law_spoilt" = some (some (.ref f38)))
    (l38 : K.lookup f38 = some ⟨oc38, od38, .func (PySem.W.fnOf "_law_spoilt" "_law_spoilt" (defArgs s_law_spoilt) (defBody s_law_spoilt) (defScope s_law_spoilt) .none kV38 dc38 pm38 an38 cd38 ct38), sl38⟩) (c38 : PySem.W.codeIn K cd38 "_law_spoilt" = true) (k38 : PySem.W.keepIn K (.ref f38) = true)
    (a39 : PySem.W.nsIn K mainGlobals "law" = some (some (.ref f39)))
    (l39 : K.lookup f39 = some ⟨oc39, od39, .func (PySem.W.fnOf "law" "law" (defArgs s_law) (defBody s_law) (defScope s_law) .none kV39 dc39 pm39 an39 cd39 ct39), sl39⟩) (c39 : PySem.W.codeIn K cd39 "law" = true) (k39 : PySem.W.keepIn K (.ref f39) = true)
    (bga_MendedError : PySem.W.specialIn K (.ref C_MendedError) "__getattribute__" = some (some (.builtin "type.__getattribute__"))) (brd_MendedError : PySem.W.readsIn K C_MendedError (.type "type") = true) (bfi_MendedError : PySem.W.findCls K (.ref C_MendedError) (.type "type") "__init__" = some (.val (.builtin "ValueError.__init__")))
    {nm_TreeError q_TreeError : Str} {N_TreeError : Addr} {bs_TreeError : List Value} {sn_TreeError : List Str} {sub_TreeError : List Value} {ab_TreeError : Bool} {col_TreeError : Option Bool} {dd_TreeError : Option Addr} {m0_TreeError m1_TreeError m2_TreeError m3_TreeError m5_TreeError : Option Value}
    (xL_TreeError : K.lookup C_TreeError = some (excClassObj nm_TreeError q_TreeError C_TreeError N_TreeError bs_TreeError (.ref C_MendedError :: [.type "ValueError", .type "Exception", .type "BaseException", .type "object"]) true sn_TreeError sub_TreeError ab_TreeError col_TreeError dd_TreeError m0_TreeError m1_TreeError m2_TreeError m3_TreeError m5_TreeError "ValueError.__new__"))
    (sa_TreeError : PySem.W.findIn K (.ref C_TreeError) "__setattr__" = some (some (.builtin "object.__setattr__")))
    (ga_TreeError : PySem.W.findIn K (.ref C_TreeError) "__getattribute__" = some (some (.builtin "BaseException.__getattribute__")))
    (gg_TreeError : PySem.W.findIn K (.ref C_TreeError) "__getattr__" = some none)
    (kC_TreeError : PySem.W.keepIn K (.ref C_TreeError) = true)
    (eC_TreeError : PySem.W.subIn K (.ref C_TreeError) (.type "BaseException") = some true)
    (tC_TreeError : PySem.W.typeIn K (.ref C_TreeError) = some (.type "type"))
    (hd_TreeError : PySem.W.hasDictIn K C_TreeError = true)
    (ha_TreeError : PySem.W.findIn K (.ref C_TreeError) "__class__" = some (some (.builtin "object.__class__")))
    (hm_TreeError : PySem.W.mroIn K C_TreeError (.type "object") = some true)
    (sC_TreeError : PySem.W.subIn K (.ref C_TreeError) (.ref C_TreeError) = some true)
    (tI_TreeError : PySem.W.typeIn K (.ref f0) = some (.type "function"))
    (n_TreeError_place : PySem.W.findIn K (.ref C_TreeError) "place" = some none)
    (hn : PySem.W.specialIn K (.builtin "object.__class__") "__get__" = some (some (.builtin "getset_descriptor.__get__"))) (ht : PySem.W.takesIn K (.builtin "object.__class__") = some true)
    (pg_Node : PySem.W.plainGet K C_Node Str.empty = true)
    (hdo_Node : PySem.W.hasDictIn K C_Node = true)
    (po_Node : PySem.W.plainOver K C_Node = true)
    (sao_Node : PySem.W.findIn K (.ref C_Node) "__setattr__" = some (some (.builtin "object.__setattr__")))
    (mkC_Node : PySem.W.makesIn K C_Node = true)
    (kcC_Node : PySem.W.keepIn K (.ref C_Node) = true)
    (ha_Node : PySem.W.findIn K (.ref C_Node) "__class__" = some (some (.builtin "object.__class__")))
    (hm_Node : PySem.W.mroIn K C_Node (.type "object") = some true)
    (sC_Node : PySem.W.subIn K (.ref C_Node) (.ref C_Node) = some true)
    (iC_Node : PySem.W.isClsIn K C_Node = true)
    (tY_Node : PySem.W.typeIn K (.ref C_Node) = some (.type "type"))
    (na_Node_kind : PySem.W.findIn K (.ref C_Node) "kind" = some none)
    (na_Node_symbol : PySem.W.findIn K (.ref C_Node) "symbol" = some none)
    (na_Node_state : PySem.W.findIn K (.ref C_Node) "state" = some none)
    (na_Node_lead : PySem.W.findIn K (.ref C_Node) "lead" = some none)
    (na_Node_width : PySem.W.findIn K (.ref C_Node) "width" = some none)
    (na_Node_look : PySem.W.findIn K (.ref C_Node) "look" = some none)
    (na_Node_alternative : PySem.W.findIn K (.ref C_Node) "alternative" = some none)
    (na_Node_nodes : PySem.W.findIn K (.ref C_Node) "nodes" = some none)
    (na_Node_popped : PySem.W.findIn K (.ref C_Node) "popped" = some none)
    (if_Node__init__ : PySem.W.isFn K (.ref f1) = true)
    (pg_Reader : PySem.W.plainGet K C_Reader Str.empty = true)
    (hdo_Reader : PySem.W.hasDictIn K C_Reader = true)
    (po_Reader : PySem.W.plainOver K C_Reader = true)
    (sao_Reader : PySem.W.findIn K (.ref C_Reader) "__setattr__" = some (some (.builtin "object.__setattr__")))
    (mkC_Reader : PySem.W.makesIn K C_Reader = true)
    (kcC_Reader : PySem.W.keepIn K (.ref C_Reader) = true)
    (ha_Reader : PySem.W.findIn K (.ref C_Reader) "__class__" = some (some (.builtin "object.__class__")))
    (hm_Reader : PySem.W.mroIn K C_Reader (.type "object") = some true)
    (sC_Reader : PySem.W.subIn K (.ref C_Reader) (.ref C_Reader) = some true)
    (iC_Reader : PySem.W.isClsIn K C_Reader = true)
    (tY_Reader : PySem.W.typeIn K (.ref C_Reader) = some (.type "type"))
    (na_Reader__notation : PySem.W.findIn K (.ref C_Reader) "_notation" = some none)
    (na_Reader__place : PySem.W.findIn K (.ref C_Reader) "_place" = some none)
    (na_Reader__plain_chars : PySem.W.findIn K (.ref C_Reader) "_plain_chars" = some none)
    (if_Reader__init__ : PySem.W.isFn K (.ref f4) = true)
    (if_Reader_char : PySem.W.isFn K (.ref f5) = true)
    (if_Reader_pass_one_of : PySem.W.isFn K (.ref f6) = true)
    (if_Readersign : PySem.W.isFn K (.ref f7) = true)
    (if_Readergoes_on : PySem.W.isFn K (.ref f8) = true)
    (if_Readerfinish : PySem.W.isFn K (.ref f9) = true)
    (if_Readerwords : PySem.W.isFn K (.ref f10) = true)
    (if_Reader_name : PySem.W.isFn K (.ref f11) = true)
    (if_Reader_pass_literal : PySem.W.isFn K (.ref f12) = true)
    (if_Reader_number : PySem.W.isFn K (.ref f13) = true)
    (s_TreeError_MendedError : PySem.W.subIn K (.ref C_TreeError) (.ref C_MendedError) = some true)
    (iC_MendedError : PySem.W.isClsIn K C_MendedError = true) (tY_MendedError : PySem.W.typeIn K (.ref C_MendedError) = some (.type "type"))
    (s_TreeError_ValueError : PySem.W.subIn K (.ref C_TreeError) (.type "ValueError") = some true)
    (s_TreeError_BadMark : PySem.W.subIn K (.ref C_TreeError) (.ref C_BadMark) = some false)
    (iC_BadMark : PySem.W.isClsIn K C_BadMark = true) (tY_BadMark : PySem.W.typeIn K (.ref C_BadMark) = some (.type "type"))
    (s_TreeError_EditError : PySem.W.subIn K (.ref C_TreeError) (.ref C_EditError) = some false)
    (iC_EditError : PySem.W.isClsIn K C_EditError = true) (tY_EditError : PySem.W.typeIn K (.ref C_EditError) = some (.type "type"))
    (s_TreeError_Entangled : PySem.W.subIn K (.ref C_TreeError) (.ref C_Entangled) = some false)
    (iC_Entangled : PySem.W.isClsIn K C_Entangled = true) (tY_Entangled : PySem.W.typeIn K (.ref C_Entangled) = some (.type "type"))
    (s_TreeError_GrammarError : PySem.W.subIn K (.ref C_TreeError) (.ref C_GrammarError) = some false)
    (iC_GrammarError : PySem.W.isClsIn K C_GrammarError = true) (tY_GrammarError : PySem.W.typeIn K (.ref C_GrammarError) = some (.type "type"))
    (s_TreeError_HistoryError : PySem.W.subIn K (.ref C_TreeError) (.ref C_HistoryError) = some false)
    (iC_HistoryError : PySem.W.isClsIn K C_HistoryError = true) (tY_HistoryError : PySem.W.typeIn K (.ref C_HistoryError) = some (.type "type"))
    (s_TreeError_NoLayer : PySem.W.subIn K (.ref C_TreeError) (.ref C_NoLayer) = some false)
    (iC_NoLayer : PySem.W.isClsIn K C_NoLayer = true) (tY_NoLayer : PySem.W.typeIn K (.ref C_NoLayer) = some (.type "type"))
    (s_TreeError_NoMark : PySem.W.subIn K (.ref C_TreeError) (.ref C_NoMark) = some false)
    (iC_NoMark : PySem.W.isClsIn K C_NoMark = true) (tY_NoMark : PySem.W.typeIn K (.ref C_NoMark) = some (.type "type"))
    (s_TreeError_NoNode : PySem.W.subIn K (.ref C_TreeError) (.ref C_NoNode) = some false)
    (iC_NoNode : PySem.W.isClsIn K C_NoNode = true) (tY_NoNode : PySem.W.typeIn K (.ref C_NoNode) = some (.type "type"))
    (s_TreeError_NoWitness : PySem.W.subIn K (.ref C_TreeError) (.ref C_NoWitness) = some false)
    (iC_NoWitness : PySem.W.isClsIn K C_NoWitness = true) (tY_NoWitness : PySem.W.typeIn K (.ref C_NoWitness) = some (.type "type"))
    (s_TreeError_PatternError : PySem.W.subIn K (.ref C_TreeError) (.ref C_PatternError) = some false)
    (iC_PatternError : PySem.W.isClsIn K C_PatternError = true) (tY_PatternError : PySem.W.typeIn K (.ref C_PatternError) = some (.type "type"))
    (s_TreeError_QueryError : PySem.W.subIn K (.ref C_TreeError) (.ref C_QueryError) = some false)
    (iC_QueryError : PySem.W.isClsIn K C_QueryError = true) (tY_QueryError : PySem.W.typeIn K (.ref C_QueryError) = some (.type "type"))
    (s_TreeError_TableError : PySem.W.subIn K (.ref C_TreeError) (.ref C_TableError) = some false)
    (iC_TableError : PySem.W.isClsIn K C_TableError = true) (tY_TableError : PySem.W.typeIn K (.ref C_TableError) = some (.type "type"))
    (s_TreeError_UnknownLanguage : PySem.W.subIn K (.ref C_TreeError) (.ref C_UnknownLanguage) = some false)
    (iC_UnknownLanguage : PySem.W.isClsIn K C_UnknownLanguage = true) (tY_UnknownLanguage : PySem.W.typeIn K (.ref C_UnknownLanguage) = some (.type "type"))
    (xb_TreeError_MendedError : PySem.W.subIn K (.ref C_MendedError) (.type "BaseException") = some true) (xd_TreeError_MendedError : PySem.W.hasDictIn K C_MendedError = true)
    (z0 : PySem.W.nsIn K mainGlobals "range" = some none)
    (z1 : PySem.W.nsIn K mainGlobals "min" = some none)
    (z2 : PySem.W.nsIn K mainGlobals "max" = some none)
    (z3 : PySem.W.nsIn K mainGlobals "len" = some none)
    (z4 : PySem.W.nsIn K mainGlobals "abs" = some none)
    (z5 : PySem.W.nsIn K mainGlobals "int" = some none)
    (z6 : PySem.W.nsIn K mainGlobals "sum" = some none)
    (z7 : PySem.W.nsIn K mainGlobals "isinstance" = some none)
    (z8 : PySem.W.nsIn K mainGlobals "bool" = some none)
    (z9 : PySem.W.nsIn K mainGlobals "list" = some none)
    (z10 : PySem.W.nsIn K mainGlobals "tuple" = some none)
    (z11 : PySem.W.nsIn K mainGlobals "str" = some none)
    (z12 : PySem.W.nsIn K mainGlobals "ValueError" = some none)
    {t0 : Tok} (y0 : PySem.W.nsIn K mainGlobals "PLAIN" = some (some (Value.str "\t\n !\"#$&'()*+,-./0123456789:;<=>?@ABCDEFGHIJKLMNOPQRSTUVWXYZ[\\]^_abcdefghijklmnopqrstuvwxyz{|}~" t0)))
    {t1 : Tok} (y1 : PySem.W.nsIn K mainGlobals "LETTERS" = some (some (Value.str "abcdefghijklmnopqrstuvwxyz" t1)))
    {t2 : Tok} (y2 : PySem.W.nsIn K mainGlobals "NAME_CHARS" = some (some (Value.str "abcdefghijklmnopqrstuvwxyz0123456789_~" t2)))
    {t3 : Tok} (y3 : PySem.W.nsIn K mainGlobals "DIGITS" = some (some (Value.str "0123456789" t3)))
    {t4 : Tok} (y4 : PySem.W.nsIn K mainGlobals "MOST_DIGITS" = some (some (Value.int 9 t4)))
    : ∃ fd : FuncData, (∀ (s : Shared) (v : Value), BindsTo s fd ⟨[v], []⟩ [("script", v)]) ∧ ∀ base : Heap, K.In base → base.Ns mainGlobals mg → FnOk l.prog w K mg base CX0 11 fa fd ["script"] (spLaw K) := by
  have e := hfa.symm.trans (PySem.W.mg_of X G a39)
  cases e
  have F0 := fun_mk (st := s_TreeError_init) l0 c0 k0
  have b0 := F0.binds (ps := ["self", "place"]) fun _ _ _ _ _ _ us hl => match us, hl with | [_, _], _ => rfl
  have F1 := fun_mk (st := s_Node_init) l1 c1 k1
  have F2 := fun_mk (st := s_read_tree) l2 c2 k2
  have b2 := F2.binds (ps := ["notation"]) fun _ _ _ _ _ _ us hl => match us, hl with | [_], _ => rfl
  have F3 := fun_mk (st := s_node) l3 c3 k3
  have b3 := F3.binds (ps := ["words", "nodes"]) fun _ _ _ _ _ _ us hl => match us, hl with | [_, _], _ => rfl
  have F4 := fun_mk (st := s_Reader_init) l4 c4 k4
  have b4 := F4.binds (ps := ["self", "notation"]) fun _ _ _ _ _ _ us hl => match us, hl with | [_, _], _ => rfl
  have F5 := fun_mk (st := s_Reader__char) l5 c5 k5
  have b5 := F5.binds (ps := ["self"]) fun _ _ _ _ _ _ us hl => match us, hl with | [_], _ => rfl
  have F6 := fun_mk (st := s_Reader__pass_one_of) l6 c6 k6
  have b6 := F6.binds (ps := ["self", "chars"]) fun _ _ _ _ _ _ us hl => match us, hl with | [_, _], _ => rfl
  have F7 := fun_mk (st := s_Reader_sign) l7 c7 k7
  have b7 := F7.binds (ps := ["self", "char"]) fun _ _ _ _ _ _ us hl => match us, hl with | [_, _], _ => rfl
  have F8 := fun_mk (st := s_Reader_goes_on) l8 c8 k8
  have b8 := F8.binds (ps := ["self"]) fun _ _ _ _ _ _ us hl => match us, hl with | [_], _ => rfl
  have F9 := fun_mk (st := s_Reader_finish) l9 c9 k9
  have b9 := F9.binds (ps := ["self"]) fun _ _ _ _ _ _ us hl => match us, hl with | [_], _ => rfl
  have F10 := fun_mk (st := s_Reader_words) l10 c10 k10
  have b10 := F10.binds (ps := ["self"]) fun _ _ _ _ _ _ us hl => match us, hl with | [_], _ => rfl
  have F11 := fun_mk (st := s_Reader__name) l11 c11 k11
  have b11 := F11.binds (ps := ["self"]) fun _ _ _ _ _ _ us hl => match us, hl with | [_], _ => rfl
  have F12 := fun_mk (st := s_Reader__pass_literal) l12 c12 k12
  have b12 := F12.binds (ps := ["self"]) fun _ _ _ _ _ _ us hl => match us, hl with | [_], _ => rfl
  have F13 := fun_mk (st := s_Reader__number) l13 c13 k13
  have b13 := F13.binds (ps := ["self", "signed"]) fun _ _ _ _ _ _ us hl => match us, hl with | [_, _], _ => rfl
  have F14 := fun_mk (st := s_law_reel) l14 c14 k14
  have b14 := F14.binds (ps := ["script"]) fun _ _ _ _ _ _ us hl => match us, hl with | [_], _ => rfl
  have F15 := fun_mk (st := s_law_draw) l15 c15 k15
  have b15 := F15.binds (ps := ["reel", "size"]) fun _ _ _ _ _ _ us hl => match us, hl with | [_, _], _ => rfl
  have F16 := fun_mk (st := s_law_pick) l16 c16 k16
  have b16 := F16.binds (ps := ["reel", "row"]) fun _ _ _ _ _ _ us hl => match us, hl with | [_, _], _ => rfl
  have F17 := fun_mk (st := s_law_word) l17 c17 k17
  have b17 := F17.binds (ps := ["reel", "letters", "least", "most"]) fun _ _ _ _ _ _ us hl => match us, hl with | [_, _, _, _], _ => rfl
  have F18 := fun_mk (st := s_law_quoted) l18 c18 k18
  have b18 := F18.binds (ps := ["chars"]) fun _ _ _ _ _ _ us hl => match us, hl with | [_], _ => rfl
  have F19 := fun_mk (st := s_law_literal) l19 c19 k19
  have b19 := F19.binds (ps := ["reel"]) fun _ _ _ _ _ _ us hl => match us, hl with | [_], _ => rfl
  have F20 := fun_mk (st := s_law_name) l20 c20 k20
  have b20 := F20.binds (ps := ["reel"]) fun _ _ _ _ _ _ us hl => match us, hl with | [_], _ => rfl
  have F21 := fun_mk (st := s_law_sort) l21 c21 k21
  have b21 := F21.binds (ps := ["reel"]) fun _ _ _ _ _ _ us hl => match us, hl with | [_], _ => rfl
  have F22 := fun_mk (st := s_law_comb) l22 c22 k22
  have b22 := F22.binds (ps := ["reel", "deep"]) fun _ _ _ _ _ _ us hl => match us, hl with | [_, _], _ => rfl
  have F23 := fun_mk (st := s_law_levels) l23 c23 k23
  have b23 := F23.binds (ps := ["reel"]) fun _ _ _ _ _ _ us hl => match us, hl with | [_], _ => rfl
  have F24 := fun_mk (st := s_law_count) l24 c24 k24
  have b24 := F24.binds (ps := ["reel", "least"]) fun _ _ _ _ _ _ us hl => match us, hl with | [_, _], _ => rfl
  have F25 := fun_mk (st := s_law_row) l25 c25 k25
  have b25 := F25.binds (ps := ["reel", "level"]) fun _ _ _ _ _ _ us hl => match us, hl with | [_, _], _ => rfl
  have F26 := fun_mk (st := s_law_joined) l26 c26 k26
  have b26 := F26.binds (ps := ["levels", "table"]) fun _ _ _ _ _ _ us hl => match us, hl with | [_, _], _ => rfl
  have F27 := fun_mk (st := s_law_place) l27 c27 k27
  have b27 := F27.binds (ps := ["reel", "size"]) fun _ _ _ _ _ _ us hl => match us, hl with | [_, _], _ => rfl
  have F28 := fun_mk (st := s_law_odd_number) l28 c28 k28
  have b28 := F28.binds (ps := ["reel"]) fun _ _ _ _ _ _ us hl => match us, hl with | [_], _ => rfl
  have F29 := fun_mk (st := s_law_sign) l29 c29 k29
  have b29 := F29.binds (ps := ["reel"]) fun _ _ _ _ _ _ us hl => match us, hl with | [_], _ => rfl
  have F30 := fun_mk (st := s_law_odd_word) l30 c30 k30
  have b30 := F30.binds (ps := ["reel"]) fun _ _ _ _ _ _ us hl => match us, hl with | [_], _ => rfl
  have F31 := fun_mk (st := s_law_other_words) l31 c31 k31
  have b31 := F31.binds (ps := ["reel", "levels", "table"]) fun _ _ _ _ _ _ us hl => match us, hl with | [_, _, _], _ => rfl
  have F32 := fun_mk (st := s_law_changed) l32 c32 k32
  have b32 := F32.binds (ps := ["reel", "text"]) fun _ _ _ _ _ _ us hl => match us, hl with | [_, _], _ => rfl
  have F33 := fun_mk (st := s_law_next) l33 c33 k33
  have b33 := F33.binds (ps := ["slot", "mood", "size", "char"]) fun _ _ _ _ _ _ us hl => match us, hl with | [_, _, _, _], _ => rfl
  have F34 := fun_mk (st := s_law_fault) l34 c34 k34
  have b34 := F34.binds (ps := ["text"]) fun _ _ _ _ _ _ us hl => match us, hl with | [_], _ => rfl
  have F35 := fun_mk (st := s_law_again) l35 c35 k35
  have b35 := F35.binds (ps := ["root", "most"]) fun _ _ _ _ _ _ us hl => match us, hl with | [_, _], _ => rfl
  have F36 := fun_mk (st := s_law_refused) l36 c36 k36
  have b36 := F36.binds (ps := ["text", "due"]) fun _ _ _ _ _ _ us hl => match us, hl with | [_, _], _ => rfl
  have F37 := fun_mk (st := s_law_refused_by_base) l37 c37 k37
  have b37 := F37.binds (ps := ["text"]) fun _ _ _ _ _ _ us hl => match us, hl with | [_], _ => rfl
  have F38 := fun_mk (st := s_law_spoilt) l38 c38 k38
  have b38 := F38.binds (ps := ["reel", "levels", "table"]) fun _ _ _ _ _ _ us hl => match us, hl with | [_, _, _], _ => rfl
  have F39 := fun_mk (st := s_law) l39 c39 k39
  have b39 := F39.binds (ps := ["script"]) fun _ _ _ _ _ _ us hl => match us, hl with | [_], _ => rfl
  let T : Txt K mg :=
    { C_MendedError := C_MendedError,
      G_MendedError := PySem.W.mg_of X G g_MendedError,
      C_TreeError := C_TreeError,
      G_TreeError := PySem.W.mg_of X G g_TreeError,
      C_Node := C_Node,
      G_Node := PySem.W.mg_of X G g_Node,
      C_Reader := C_Reader,
      G_Reader := PySem.W.mg_of X G g_Reader,
      C_BadMark := C_BadMark,
      G_BadMark := PySem.W.mg_of X G g_BadMark,
      C_EditError := C_EditError,
      G_EditError := PySem.W.mg_of X G g_EditError,
      C_Entangled := C_Entangled,
      G_Entangled := PySem.W.mg_of X G g_Entangled,
      C_GrammarError := C_GrammarError,
      G_GrammarError := PySem.W.mg_of X G g_GrammarError,
      C_HistoryError := C_HistoryError,
      G_HistoryError := PySem.W.mg_of X G g_HistoryError,
      C_NoLayer := C_NoLayer,
      G_NoLayer := PySem.W.mg_of X G g_NoLayer,
      C_NoMark := C_NoMark,
      G_NoMark := PySem.W.mg_of X G g_NoMark,
      C_NoNode := C_NoNode,
      G_NoNode := PySem.W.mg_of X G g_NoNode,
      C_NoWitness := C_NoWitness,
      G_NoWitness := PySem.W.mg_of X G g_NoWitness,
      C_PatternError := C_PatternError,
      G_PatternError := PySem.W.mg_of X G g_PatternError,
      C_QueryError := C_QueryError,
      G_QueryError := PySem.W.mg_of X G g_QueryError,
      C_TableError := C_TableError,
      G_TableError := PySem.W.mg_of X G g_TableError,
      C_UnknownLanguage := C_UnknownLanguage,
      G_UnknownLanguage := PySem.W.mg_of X G g_UnknownLanguage,
      a_TreeError_init := _, fd_TreeError_init := _, F_TreeError_init := F0, b_TreeError_init := b0,
      a_Node_init := _, fd_Node_init := _, F_Node_init := F1, T0_Node := kT1, t0_Node := ⟨_, _, _, kt1⟩, FD_Node_init := ⟨⟨_, _, _, _, _, _, _, _, _, _, rfl, l1, c1, .inl ⟨rfl, rfl⟩, .inr ⟨_, rfl, kwd_all3 ⟨_, kd1_alternative, ⟨_, rfl⟩⟩ ⟨_, kd1_nodes, rfl⟩ ⟨_, kd1_popped, ⟨_, rfl⟩⟩⟩⟩, k1⟩,
      a_read_tree := _, fd_read_tree := _, F_read_tree := F2, b_read_tree := b2, g_read_tree := PySem.W.mg_of X G a2,
      a_node := _, fd_node := _, F_node := F3, b_node := b3, g_node := PySem.W.mg_of X G a3,
      a_Reader_init := _, fd_Reader_init := _, F_Reader_init := F4, b_Reader_init := b4,
      a_Reader__char := _, fd_Reader__char := _, F_Reader__char := F5, b_Reader__char := b5,
      a_Reader__pass_one_of := _, fd_Reader__pass_one_of := _, F_Reader__pass_one_of := F6, b_Reader__pass_one_of := b6,
      a_Reader_sign := _, fd_Reader_sign := _, F_Reader_sign := F7, b_Reader_sign := b7,
      a_Reader_goes_on := _, fd_Reader_goes_on := _, F_Reader_goes_on := F8, b_Reader_goes_on := b8,
      a_Reader_finish := _, fd_Reader_finish := _, F_Reader_finish := F9, b_Reader_finish := b9,
      a_Reader_words := _, fd_Reader_words := _, F_Reader_words := F10, b_Reader_words := b10,
      a_Reader__name := _, fd_Reader__name := _, F_Reader__name := F11, b_Reader__name := b11,
      a_Reader__pass_literal := _, fd_Reader__pass_literal := _, F_Reader__pass_literal := F12, b_Reader__pass_literal := b12,
      a_Reader__number := _, fd_Reader__number := _, F_Reader__number := F13, b_Reader__number := b13,
      a_law_reel := _, fd_law_reel := _, F_law_reel := F14, b_law_reel := b14, g_law_reel := PySem.W.mg_of X G a14,
      a_law_draw := _, fd_law_draw := _, F_law_draw := F15, b_law_draw := b15, g_law_draw := PySem.W.mg_of X G a15,
      a_law_pick := _, fd_law_pick := _, F_law_pick := F16, b_law_pick := b16, g_law_pick := PySem.W.mg_of X G a16,
      a_law_word := _, fd_law_word := _, F_law_word := F17, b_law_word := b17, g_law_word := PySem.W.mg_of X G a17,
      a_law_quoted := _, fd_law_quoted := _, F_law_quoted := F18, b_law_quoted := b18, g_law_quoted := PySem.W.mg_of X G a18,
      a_law_literal := _, fd_law_literal := _, F_law_literal := F19, b_law_literal := b19, g_law_literal := PySem.W.mg_of X G a19,
      a_law_name := _, fd_law_name := _, F_law_name := F20, b_law_name := b20, g_law_name := PySem.W.mg_of X G a20,
      a_law_sort := _, fd_law_sort := _, F_law_sort := F21, b_law_sort := b21, g_law_sort := PySem.W.mg_of X G a21,
      a_law_comb := _, fd_law_comb := _, F_law_comb := F22, b_law_comb := b22, g_law_comb := PySem.W.mg_of X G a22,
      a_law_levels := _, fd_law_levels := _, F_law_levels := F23, b_law_levels := b23, g_law_levels := PySem.W.mg_of X G a23,
      a_law_count := _, fd_law_count := _, F_law_count := F24, b_law_count := b24, g_law_count := PySem.W.mg_of X G a24,
      a_law_row := _, fd_law_row := _, F_law_row := F25, b_law_row := b25, g_law_row := PySem.W.mg_of X G a25,
      a_law_joined := _, fd_law_joined := _, F_law_joined := F26, b_law_joined := b26, g_law_joined := PySem.W.mg_of X G a26,
      a_law_place := _, fd_law_place := _, F_law_place := F27, b_law_place := b27, g_law_place := PySem.W.mg_of X G a27,
      a_law_odd_number := _, fd_law_odd_number := _, F_law_odd_number := F28, b_law_odd_number := b28, g_law_odd_number := PySem.W.mg_of X G a28,
      a_law_sign := _, fd_law_sign := _, F_law_sign := F29, b_law_sign := b29, g_law_sign := PySem.W.mg_of X G a29,
      a_law_odd_word := _, fd_law_odd_word := _, F_law_odd_word := F30, b_law_odd_word := b30, g_law_odd_word := PySem.W.mg_of X G a30,
      a_law_other_words := _, fd_law_other_words := _, F_law_other_words := F31, b_law_other_words := b31, g_law_other_words := PySem.W.mg_of X G a31,
      a_law_changed := _, fd_law_changed := _, F_law_changed := F32, b_law_changed := b32, g_law_changed := PySem.W.mg_of X G a32,
      a_law_next := _, fd_law_next := _, F_law_next := F33, b_law_next := b33, g_law_next := PySem.W.mg_of X G a33,
      a_law_fault := _, fd_law_fault := _, F_law_fault := F34, b_law_fault := b34, g_law_fault := PySem.W.mg_of X G a34,
      a_law_again := _, fd_law_again := _, F_law_again := F35, b_law_again := b35, g_law_again := PySem.W.mg_of X G a35,
      a_law_refused := _, fd_law_refused := _, F_law_refused := F36, b_law_refused := b36, g_law_refused := PySem.W.mg_of X G a36,
      a_law_refused_by_base := _, fd_law_refused_by_base := _, F_law_refused_by_base := F37, b_law_refused_by_base := b37, g_law_refused_by_base := PySem.W.mg_of X G a37,
      a_law_spoilt := _, fd_law_spoilt := _, F_law_spoilt := F38, b_law_spoilt := b38, g_law_spoilt := PySem.W.mg_of X G a38,
      a_law := _, fd_law := _, F_law := F39, b_law := b39, g_law := PySem.W.mg_of X G a39,
      B_MendedError := ⟨bga_MendedError, brd_MendedError, bfi_MendedError⟩,
      E_TreeError := errK_mk (PySem.W.mg_of X G g_TreeError) xL_TreeError (by rfl) sa_TreeError ga_TreeError gg_TreeError a0 tI_TreeError kC_TreeError eC_TreeError tC_TreeError hd_TreeError ha_TreeError hn ht hm_TreeError sC_TreeError,
      n_TreeError_place := n_TreeError_place,
      CL_Node := ⟨pg_Node, hdo_Node, po_Node, sao_Node⟩,
      MK_Node := ⟨mkC_Node, a1, if_Node__init__, kcC_Node⟩,
      IC_Node := ⟨⟨pg_Node, hdo_Node, po_Node, sao_Node⟩, ha_Node, hn, ht, hm_Node, kit_refT sC_Node iC_Node tY_Node⟩,
      NA_Node_kind := na_Node_kind,
      NA_Node_symbol := na_Node_symbol,
      NA_Node_state := na_Node_state,
      NA_Node_lead := na_Node_lead,
      NA_Node_width := na_Node_width,
      NA_Node_look := na_Node_look,
      NA_Node_alternative := na_Node_alternative,
      NA_Node_nodes := na_Node_nodes,
      NA_Node_popped := na_Node_popped,
      CL_Reader := ⟨pg_Reader, hdo_Reader, po_Reader, sao_Reader⟩,
      MK_Reader := ⟨mkC_Reader, a4, if_Reader__init__, kcC_Reader⟩,
      IC_Reader := ⟨⟨pg_Reader, hdo_Reader, po_Reader, sao_Reader⟩, ha_Reader, hn, ht, hm_Reader, kit_refT sC_Reader iC_Reader tY_Reader⟩,
      NA_Reader__notation := na_Reader__notation,
      NA_Reader__place := na_Reader__place,
      NA_Reader__plain_chars := na_Reader__plain_chars,
      ME_Reader_char := ⟨a5, if_Reader_char, k5⟩,
      ME_Reader_pass_one_of := ⟨a6, if_Reader_pass_one_of, k6⟩,
      ME_Readersign := ⟨a7, if_Readersign, k7⟩,
      ME_Readergoes_on := ⟨a8, if_Readergoes_on, k8⟩,
      ME_Readerfinish := ⟨a9, if_Readerfinish, k9⟩,
      ME_Readerwords := ⟨a10, if_Readerwords, k10⟩,
      ME_Reader_name := ⟨a11, if_Reader_name, k11⟩,
      ME_Reader_pass_literal := ⟨a12, if_Reader_pass_literal, k12⟩,
      ME_Reader_number := ⟨a13, if_Reader_number, k13⟩,
      k_TreeError_MendedError := kit_refT s_TreeError_MendedError iC_MendedError tY_MendedError,
      k_TreeError_ValueError := kit_refTy s_TreeError_ValueError (by decide +kernel),
      k_TreeError_BadMark := kit_refF sC_TreeError s_TreeError_BadMark iC_BadMark tY_BadMark,
      k_TreeError_EditError := kit_refF sC_TreeError s_TreeError_EditError iC_EditError tY_EditError,
      k_TreeError_Entangled := kit_refF sC_TreeError s_TreeError_Entangled iC_Entangled tY_Entangled,
      k_TreeError_GrammarError := kit_refF sC_TreeError s_TreeError_GrammarError iC_GrammarError tY_GrammarError,
      k_TreeError_HistoryError := kit_refF sC_TreeError s_TreeError_HistoryError iC_HistoryError tY_HistoryError,
      k_TreeError_NoLayer := kit_refF sC_TreeError s_TreeError_NoLayer iC_NoLayer tY_NoLayer,
      k_TreeError_NoMark := kit_refF sC_TreeError s_TreeError_NoMark iC_NoMark tY_NoMark,
      k_TreeError_NoNode := kit_refF sC_TreeError s_TreeError_NoNode iC_NoNode tY_NoNode,
      k_TreeError_NoWitness := kit_refF sC_TreeError s_TreeError_NoWitness iC_NoWitness tY_NoWitness,
      k_TreeError_PatternError := kit_refF sC_TreeError s_TreeError_PatternError iC_PatternError tY_PatternError,
      k_TreeError_QueryError := kit_refF sC_TreeError s_TreeError_QueryError iC_QueryError tY_QueryError,
      k_TreeError_TableError := kit_refF sC_TreeError s_TreeError_TableError iC_TableError tY_TableError,
      k_TreeError_UnknownLanguage := kit_refF sC_TreeError s_TreeError_UnknownLanguage iC_UnknownLanguage tY_UnknownLanguage,
      x_TreeError_MendedError := PySem.W.exm_ref xb_TreeError_MendedError xd_TreeError_MendedError tY_MendedError s_TreeError_MendedError,
      m_range := PySem.W.mg_none_of X G z0,
      m_min := PySem.W.mg_none_of X G z1,
      m_max := PySem.W.mg_none_of X G z2,
      m_len := PySem.W.mg_none_of X G z3,
      m_abs := PySem.W.mg_none_of X G z4,
      m_int := PySem.W.mg_none_of X G z5,
      m_sum := PySem.W.mg_none_of X G z6,
      m_isinstance := PySem.W.mg_none_of X G z7,
      m_bool := PySem.W.mg_none_of X G z8,
      m_list := PySem.W.mg_none_of X G z9,
      m_tuple := PySem.W.mg_none_of X G z10,
      m_str := PySem.W.mg_none_of X G z11,
      m_ValueError := PySem.W.mg_none_of X G z12,
      c_PLAIN := ⟨_, PySem.W.mg_of X G y0⟩,
      c_LETTERS := ⟨_, PySem.W.mg_of X G y1⟩,
      c_NAME_CHARS := ⟨_, PySem.W.mg_of X G y2⟩,
      c_DIGITS := ⟨_, PySem.W.mg_of X G y3⟩,
      c_MOST_DIGITS := ⟨_, PySem.W.mg_of X G y4⟩ }
  exact ⟨PySem.W.fnOf "law" "law" (defArgs s_law) (defBody s_law) (defScope s_law) .none kV39 dc39 pm39 an39 cd39 ct39, fun s v => .of_eq rfl, fun base _ _ => ok_top T⟩
end M
open PySem PySem.W PyProof.Rows
set_option maxRecDepth 100000 in
set_option maxHeartbeats 0 in
theorem PySem.Challenge.cw_mendedtree_k33_tree_faults_holds : PySem.Challenge.rw_mendedtree_k33_tree_faults.Holds := by
  w_on; o_law; k_head; (case hw => w_witness2)
  k_fill
  refine L2.walk_of (l := PySem.Challenge.rw_mendedtree_k33_tree_faults) (n := 63) (k := 11) (x := "script") (CX := fun _ => L2.CX0) (sp := fun w => M.spLaw _) rfl (by decide) rfl ⟨rfl, by decide, by decide⟩ (fun w h Y => PySem.W.kIn_of Y) ?F (fun _ _ a ns hl _ hS => ⟨a, ns, rfl, hS, hl, fun _ => rfl⟩) (fun _ _ _ _ _ h => h)
  case F =>
    intro w mg fa h KX G hmg
    refine' M.all_mk KX G hmg ?g_MendedError ?g_TreeError ?g_Node ?g_Reader ?g_BadMark ?g_EditError ?g_Entangled ?g_GrammarError ?g_HistoryError ?g_NoLayer ?g_NoMark ?g_NoNode ?g_NoWitness ?g_PatternError ?g_QueryError ?g_TableError ?g_UnknownLanguage ?a0 ?l0 ?c0 ?k0 ?a1 ?l1 ?c1 ?k1 ?kd1_alternative ?kd1_nodes ?kt1 ?kd1_popped ?a2 ?l2 ?c2 ?k2 ?a3 ?l3 ?c3 ?k3 ?a4 ?l4 ?c4 ?k4 ?a5 ?l5 ?c5 ?k5 ?a6 ?l6 ?c6 ?k6 ?a7 ?l7 ?c7 ?k7 ?a8 ?l8 ?c8 ?k8 ?a9 ?l9 ?c9 ?k9 ?a10 ?l10 ?c10 ?k10 ?a11 ?l11 ?c11 ?k11 ?a12 ?l12 ?c12 ?k12 ?a13 ?l13 ?c13 ?k13 ?a14 ?l14 ?c14 ?k14 ?a15 ?l15 ?c15 ?k15 ?a16 ?l16 ?c16 ?k16 ?a17 ?l17 ?c17 ?k17 ?a18 ?l18 ?c18 ?k18 ?a19 ?l19 ?c19 ?k19 ?a20 ?l20 ?c20 ?k20 ?a21 ?l21 ?c21 ?k21 ?a22 ?l22 ?c22 ?k22 ?a23 ?l23 ?c23 ?k23 ?a24 ?l24 ?c24 ?k24 ?a25 ?l25 ?c25 ?k25 ?a26 ?l26 ?c26 ?k26 ?a27 ?l27 ?c27 ?k27 ?a28 ?l28 ?c28 ?k28 ?a29 ?l29 ?c29 ?k29 ?a30 ?l30 ?c30 ?k30 ?a31 ?l31 ?c31 ?k31 ?a32 ?l32 ?c32 ?k32 ?a33 ?l33 ?c33 ?k33 ?a34 ?l34 ?c34 ?k34 ?a35 ?l35 ?c35 ?k35 ?a36 ?l36 ?c36 ?k36 ?a37 ?l37 ?c37 ?k37 ?a38 ?l38 ?c38 ?k38 ?a39 ?l39 ?c39 ?k39 ?bga_MendedError ?brd_MendedError ?bfi_MendedError ?xL_TreeError ?sa_TreeError ?ga_TreeError ?gg_TreeError ?kC_TreeError ?eC_TreeError ?tC_TreeError ?hd_TreeError ?ha_TreeError ?hm_TreeError ?sC_TreeError ?tI_TreeError ?n_TreeError_place ?hn ?ht ?pg_Node ?hdo_Node ?po_Node ?sao_Node ?mkC_Node ?kcC_Node ?ha_Node ?hm_Node ?sC_Node ?iC_Node ?tY_Node ?na_Node_kind ?na_Node_symbol ?na_Node_state ?na_Node_lead ?na_Node_width ?na_Node_look ?na_Node_alternative ?na_Node_nodes ?na_Node_popped ?if_Node__init__ ?pg_Reader ?hdo_Reader ?po_Reader ?sao_Reader ?mkC_Reader ?kcC_Reader ?ha_Reader ?hm_Reader ?sC_Reader ?iC_Reader ?tY_Reader ?na_Reader__notation ?na_Reader__place ?na_Reader__plain_chars ?if_Reader__init__ ?if_Reader_char ?if_Reader_pass_one_of ?if_Readersign ?if_Readergoes_on ?if_Readerfinish ?if_Readerwords ?if_Reader_name ?if_Reader_pass_literal ?if_Reader_number ?s_TreeError_MendedError ?iC_MendedError ?tY_MendedError ?s_TreeError_ValueError ?s_TreeError_BadMark ?iC_BadMark ?tY_BadMark ?s_TreeError_EditError ?iC_EditError ?tY_EditError ?s_TreeError_Entangled ?iC_Entangled ?tY_Entangled ?s_TreeError_GrammarError ?iC_GrammarError ?tY_GrammarError ?s_TreeError_HistoryError ?iC_HistoryError ?tY_HistoryError ?s_TreeError_NoLayer ?iC_NoLayer ?tY_NoLayer ?s_TreeError_NoMark ?iC_NoMark ?tY_NoMark ?s_TreeError_NoNode ?iC_NoNode ?tY_NoNode ?s_TreeError_NoWitness ?iC_NoWitness ?tY_NoWitness ?s_TreeError_PatternError ?iC_PatternError ?tY_PatternError ?s_TreeError_QueryError ?iC_QueryError ?tY_QueryError ?s_TreeError_TableError ?iC_TableError ?tY_TableError ?s_TreeError_UnknownLanguage ?iC_UnknownLanguage ?tY_UnknownLanguage ?xb_TreeError_MendedError ?xd_TreeError_MendedError ?z0 ?z1 ?z2 ?z3 ?z4 ?z5 ?z6 ?z7 ?z8 ?z9 ?z10 ?z11 ?z12 ?y0 ?y1 ?y2 ?y3 ?y4
    (case g_MendedError => k_is); (case g_TreeError => k_is); (case g_Node => k_is); (case g_Reader => k_is); (case g_BadMark => k_is); (case g_EditError => k_is); (case g_Entangled => k_is); (case g_GrammarError => k_is); (case g_HistoryError => k_is); (case g_NoLayer => k_is); (case g_NoMark => k_is); (case g_NoNode => k_is); (case g_NoWitness => k_is); (case g_PatternError => k_is); (case g_QueryError => k_is); (case g_TableError => k_is); (case g_UnknownLanguage => k_is); (case a0 => k_is); (case l0 => k_is); (case c0 => k_is); (case k0 => k_is); (case a1 => k_is); (case l1 => k_is); (case c1 => k_is); (case k1 => k_is); (case kd1_alternative => k_is); (case kd1_nodes => k_is); (case kt1 => k_is); (case kd1_popped => k_is); (case a2 => k_is); (case l2 => k_is); (case c2 => k_is); (case k2 => k_is); (case a3 => k_is); (case l3 => k_is); (case c3 => k_is); (case k3 => k_is); (case a4 => k_is); (case l4 => k_is); (case c4 => k_is); (case k4 => k_is); (case a5 => k_is); (case l5 => k_is); (case c5 => k_is); (case k5 => k_is); (case a6 => k_is); (case l6 => k_is); (case c6 => k_is); (case k6 => k_is); (case a7 => k_is); (case l7 => k_is); (case c7 => k_is); (case k7 => k_is); (case a8 => k_is); (case l8 => k_is); (case c8 => k_is); (case k8 => k_is); (case a9 => k_is); (case l9 => k_is); (case c9 => k_is); (case k9 => k_is); (case a10 => k_is); (case l10 => k_is); (case c10 => k_is); (case k10 => k_is); (case a11 => k_is); (case l11 => k_is); (case c11 => k_is); (case k11 => k_is); (case a12 => k_is); (case l12 => k_is); (case c12 => k_is); (case k12 => k_is); (case a13 => k_is); (case l13 => k_is); (case c13 => k_is); (case k13 => k_is); (case a14 => k_is); (case l14 => k_is); (case c14 => k_is); (case k14 => k_is); (case a15 => k_is); (case l15 => k_is); (case c15 => k_is); (case k15 => k_is); (case a16 => k_is); (case l16 => k_is); (case c16 => k_is); (case k16 => k_is); (case a17 => k_is); (case l17 => k_is); (case c17 => k_is); (case k17 => k_is); (case a18 => k_is); (case l18 => k_is); (case c18 => k_is); (case k18 => k_is); (case a19 => k_is); (case l19 => k_is); (case c19 => k_is); (case k19 => k_is); (case a20 => k_is); (case l20 => k_is); (case c20 => k_is); (case k20 => k_is); (case a21 => k_is); (case l21 => k_is); (case c21 => k_is); (case k21 => k_is); (case a22 => k_is); (case l22 => k_is); (case c22 => k_is); (case k22 => k_is); (case a23 => k_is); (case l23 => k_is); (case c23 => k_is); (case k23 => k_is); (case a24 => k_is); (case l24 => k_is); (case c24 => k_is); (case k24 => k_is); (case a25 => k_is); (case l25 => k_is); (case c25 => k_is); (case k25 => k_is); (case a26 => k_is); (case l26 => k_is); (case c26 => k_is); (case k26 => k_is); (case a27 => k_is); (case l27 => k_is); (case c27 => k_is); (case k27 => k_is); (case a28 => k_is); (case l28 => k_is); (case c28 => k_is); (case k28 => k_is); (case a29 => k_is); (case l29 => k_is); (case c29 => k_is); (case k29 => k_is); (case a30 => k_is); (case l30 => k_is); (case c30 => k_is); (case k30 => k_is); (case a31 => k_is); (case l31 => k_is); (case c31 => k_is); (case k31 => k_is); (case a32 => k_is); (case l32 => k_is); (case c32 => k_is); (case k32 => k_is); (case a33 => k_is); (case l33 => k_is); (case c33 => k_is); (case k33 => k_is); (case a34 => k_is); (case l34 => k_is); (case c34 => k_is); (case k34 => k_is); (case a35 => k_is); (case l35 => k_is); (case c35 => k_is); (case k35 => k_is); (case a36 => k_is); (case l36 => k_is); (case c36 => k_is); (case k36 => k_is); (case a37 => k_is); (case l37 => k_is); (case c37 => k_is); (case k37 => k_is); (case a38 => k_is); (case l38 => k_is); (case c38 => k_is); (case k38 => k_is); (case a39 => k_is); (case l39 => k_is); (case c39 => k_is); (case k39 => k_is); (case bga_MendedError => k_is); (case brd_MendedError => k_is); (case bfi_MendedError => k_is); (case xL_TreeError => k_is); (case sa_TreeError => k_is); (case ga_TreeError => k_is); (case gg_TreeError => k_is); (case kC_TreeError => k_is); (case eC_TreeError => k_is); (case tC_TreeError => k_is); (case hd_TreeError => k_is); (case ha_TreeError => k_is); (case hm_TreeError => k_is); (case sC_TreeError => k_is); (case tI_TreeError => k_is); (case n_TreeError_place => k_is); (case hn => k_is); (case ht => k_is); (case pg_Node => k_is); (case hdo_Node => k_is); (case po_Node => k_is); (case sao_Node => k_is); (case mkC_Node => k_is); (case kcC_Node => k_is); (case ha_Node => k_is); (case hm_Node => k_is); (case sC_Node => k_is); (case iC_Node => k_is); (case tY_Node => k_is); (case na_Node_kind => k_is); (case na_Node_symbol => k_is); (case na_Node_state => k_is); (case na_Node_lead => k_is); (case na_Node_width => k_is); (case na_Node_look => k_is); (case na_Node_alternative => k_is); (case na_Node_nodes => k_is); (case na_Node_popped => k_is); (case if_Node__init__ => k_is); (case pg_Reader => k_is); (case hdo_Reader => k_is); (case po_Reader => k_is); (case sao_Reader => k_is); (case mkC_Reader => k_is); (case kcC_Reader => k_is); (case ha_Reader => k_is); (case hm_Reader => k_is); (case sC_Reader => k_is); (case iC_Reader => k_is); (case tY_Reader => k_is); (case na_Reader__notation => k_is); (case na_Reader__place => k_is); (case na_Reader__plain_chars => k_is); (case if_Reader__init__ => k_is); (case if_Reader_char => k_is); (case if_Reader_pass_one_of => k_is); (case if_Readersign => k_is); (case if_Readergoes_on => k_is); (case if_Readerfinish => k_is); (case if_Readerwords => k_is); (case if_Reader_name => k_is); (case if_Reader_pass_literal => k_is); (case if_Reader_number => k_is); (case s_TreeError_MendedError => k_is); (case iC_MendedError => k_is); (case tY_MendedError => k_is); (case s_TreeError_ValueError => k_is); (case s_TreeError_BadMark => k_is); (case iC_BadMark => k_is); (case tY_BadMark => k_is); (case s_TreeError_EditError => k_is); (case iC_EditError => k_is); (case tY_EditError => k_is); (case s_TreeError_Entangled => k_is); (case iC_Entangled => k_is); (case tY_Entangled => k_is); (case s_TreeError_GrammarError => k_is); (case iC_GrammarError => k_is); (case tY_GrammarError => k_is); (case s_TreeError_HistoryError => k_is); (case iC_HistoryError => k_is); (case tY_HistoryError => k_is); (case s_TreeError_NoLayer => k_is); (case iC_NoLayer => k_is); (case tY_NoLayer => k_is); (case s_TreeError_NoMark => k_is); (case iC_NoMark => k_is); (case tY_NoMark => k_is); (case s_TreeError_NoNode => k_is); (case iC_NoNode => k_is); (case tY_NoNode => k_is); (case s_TreeError_NoWitness => k_is); (case iC_NoWitness => k_is); (case tY_NoWitness => k_is); (case s_TreeError_PatternError => k_is); (case iC_PatternError => k_is); (case tY_PatternError => k_is); (case s_TreeError_QueryError => k_is); (case iC_QueryError => k_is); (case tY_QueryError => k_is); (case s_TreeError_TableError => k_is); (case iC_TableError => k_is); (case tY_TableError => k_is); (case s_TreeError_UnknownLanguage => k_is); (case iC_UnknownLanguage => k_is); (case tY_UnknownLanguage => k_is); (case xb_TreeError_MendedError => k_is); (case xd_TreeError_MendedError => k_is); (case z0 => k_is); (case z1 => k_is); (case z2 => k_is); (case z3 => k_is); (case z4 => k_is); (case z5 => k_is); (case z6 => k_is); (case z7 => k_is); (case z8 => k_is); (case z9 => k_is); (case z10 => k_is); (case z11 => k_is); (case z12 => k_is); (case y0 => k_is); (case y1 => k_is); (case y2 => k_is); (case y3 => k_is); (case y4 => k_is)
