import PyProof.Rows.All
import Wide.All
import OpenK.AllK
import Wide.FinOn
import KE.KIsAll
import KE.KTryMore
import HandS.ForMost
import HandS.ForExc
import HandS.ExcInit
import HandS.ExcIs
import HandS.ExcValue
import HandS.ExcField
import HandS.IsInst
import HandS.Evl
import HandS.Defaults
import HandS.Head0
import HandS.Head1
import HandS.Head2
import HandS.HeadEnd
import HandS.HeadHook1
import HandS.HeadHook2
import HandS.Iter
import HandS.Dict
import HandS.More
import HandS.HeadHook3
import HandS.TryMany
import HandS.TupAny
import HandS.Star
import HandS.Zip
import HandS.Steps
import HandS.Walk
import HandS.Flow
import HandS.ExcOwn
import HandS.SortKw
import HandS.Style
import HandS.FStr
import HandS.Small
import KE.DataMinMax
import KE.DatumOrd
import PyProof.EqAt
import PyProof.MeetsIn
import KE.KUnpackStar
import KE.DataFind
import KE.DataEq
import PySem.Challenge.RW_tryback_k05_whole_texts_read_back
import HandS.Deep
set_option Elab.async false
set_option linter.all false
set_option maxRecDepth 100000
set_option maxHeartbeats 4000000
/-! Own exceptions as values: made, their fields read, asked for their class. -/
namespace XV
open PySem PySem.Spec PyProof.Rows L2

/-! ### the class of such a value -/
theorem dataFound {K : PySem.W.Frag} {C : Addr} {od : Option Obj} {n : Str} {a g : Value} (hc : (PySem.W.clsIn K C).isSome = true) (ha : PySem.W.findIn K (.ref C) n = some (some a))
    (hg : PySem.W.specialIn K a "__get__" = some (some g)) (ht : PySem.W.takesIn K a = some true) : PySem.W.findObj K C od n = some (.bind g a) := by
  cases od with
  | none => exact PySem.W.findObj_dataN hc ha hg ht
  | some o => exact PySem.W.findObj_data hc ha hg ht

section
variable {prog : Program} {w : World} {A : Around} {E : Value → Shared → Prop} {sh : Shared} {K : PySem.W.Frag} {e D : Addr} {oe : Obj} {od : Option Obj}
theorem askCls {R : Option Value → Shared → Prop} (T : ExcC K D) (KI : K.In sh.heap) (J : PySem.W.InstAt sh.heap e oe D od) (r : R (some (.ref D)) { sh with toks := sh.toks + 1 }) :
    wpAny (model prog w) A (getAttr? (.ref e) "__class__") R E sh := by
  obtain ⟨t1, t2, t3, t4, t5, t6, t7, t8⟩ := T
  have some' : (PySem.W.clsIn K D).isSome = true := by
    obtain ⟨cd, z, _⟩ := PySem.W.any_some t4
    rw [z]
    rfl
  have fd := dataFound (od := od) some' t5 t6 t7
  obtain ⟨hh, gs, dr, tk, os⟩ := sh
  have ty := J.type (M := model prog w)
  have l1 := PySem.W.looks_findIn (M := model prog w) KI t1
  have l2 := PySem.W.looks_findIn (M := model prog w) KI t2
  have l3 := PySem.W.looks_find (M := model prog w) KI J fd
  have isB : PySem.W.Looks (model prog w) hh (isInstance (.ref e) (.type "BaseException")) true := ty.andThen (PySem.W.looks_subIn KI t3)
  have z0 : (false && onTheHeap (Value.builtin "BaseException.__getattribute__")) = false := rfl
  have z2 : (Value.builtin "BaseException.__getattribute__" == Value.builtin "object.__getattribute__") = false := by decide +kernel
  have z1 : (onTheHeap (Value.ref D) && Value.builtin "BaseException.__getattribute__" == Value.builtin "object.__getattribute__") = false := by rw [z2]; rfl
  unfold getAttr?
  unfold getAttrBy?
  unfold getAttrBy
  refine wpAny_bind (wpAny_mkText (wpAny_bind (wpAny_attempt (wpAny_holding (wpAny_bind (ty.at (wpAny_bind (l1.at ?_))))))))
  show wpAny _ _ (if (onTheHeap (Value.ref D) && Value.builtin "BaseException.__getattribute__" == Value.builtin "object.__getattribute__") = true then _ else _) _ _ _
  rw [z1, if_neg Bool.false_ne_true]
  unfold getAttrByItsOwn
  unfold hookBefore
  refine wpAny_bind ?_
  rw [if_pos (show onTheHeap (Value.ref D) = true from rfl)]
  refine l2.at ?_
  refine wpAny_bind (wpAny_attempt (wpAny_holding ?_))
  unfold callGetattribute
  rw [z0, if_neg Bool.false_ne_true]
  unfold boundAndCalled
  rw [PySem.F.excAttr_ValueError.ga.bind (.ref e)]
  refine wpAny_bind (wpAny_pure ?_)
  show wpAny _ _ (call (.builtin "BaseException.__getattribute__") [.ref e, .str "__class__" tk]) _ _ _
  refine wpAny_call (codeAny_call_builtin PySem.F.excAttr_ValueError.ga.plain PySem.F.entry_bexc_ga ?_)
  refine @PySem.W.check_slot (model prog w) _ _ ⟨hh, gs, dr, tk + 1, os⟩ "BaseException.__getattribute__" "BaseException" "__getattribute__" (.ref e) [.str "__class__" tk] [] _ (by decide +kernel) (by decide +kernel) isB (PySem.F.args_bexc_ga (.ref e) (.str "__class__" tk)) ?_
  unfold Builtin.«object.__getattribute__»
  refine wpAny_bind (wpAny_of_eq (a := ((Value.ref e : Value), [Value.str "__class__" tk])) (by first | rfl | (simp only [Builtin.slotArgs]; rfl)) ?_)
  refine wpAny_bind (wpAny_pure (wpAny_bind (ty.at (wpAny_bind (l3.at ?_)))))
  show wpAny _ _ (holding [Value.builtin "object.__class__"] (call (.builtin "getset_descriptor.__get__") [.builtin "object.__class__", .ref e, .ref D]) >>= ret) _ _ _
  refine wpAny_bind (wpAny_holding (wpAny_call (PySem.W.class_get (s := ⟨hh, gs, dr, tk + 1, os⟩) (ox := oe) (od := od) KI J t8 ?_)))
  refine wpAny_pure ?_
  show wpAny _ _ (handedOut (.ref D)) _ _ _
  rw [PySem.W.handedOut_of (v := .ref D) rfl]
  first
    | exact wpAny_pure (wpAny_pure r)
    | exact wpAny_pure r
    | exact wpAny_pure (wpAny_bind (wpAny_pure (wpAny_pure r)))
theorem kitOf (T : ExcC K D) : PySem.W.KitX K (.ref e) (.ref D) (fun h => PySem.W.InstAt h e oe D od) := by
  obtain ⟨cd, hc, _⟩ := PySem.W.any_some T.hd
  unfold PySem.W.clsIn at hc
  split at hc
  · rename_i c' d' cd' sl' lk
    refine ⟨fun _ _ _ J => J.type, fun M h KI _ A' Q' E' s' k q => ?_, fun h tp dd its n sl KI htp => ?_, fun KI J r => askCls T KI J r⟩
    · unfold isType loadHead
      exact wpAny_bind (wpAny_loadPart (k _ _ (KI _ _ lk)) (wpAny_pure q))
    · refine Bool.eq_false_iff.mpr fun q => ?_
      have e1 : D = tp := Value.ref.inj (beq_iff_eq.mp q)
      rw [← e1] at htp
      have z := (KI _ _ lk).symm.trans htp
      cases z
  · cases hc
end

/-! ### what is tracked of an exception -/
/-- at a: an exception of the class at C that has the fields fs -/
def ExF (H : Hp) (a C : Addr) (fs : List (Str × V)) : Prop := ∃ d, H a = some (exo a C (some d)) ∧ H d = some (exd d fs)
/-- at a: an exception of the class at C -/
def ExAt (H : Hp) (a C : Addr) : Prop := (∃ fs, ExF H a C fs) ∨ H a = some (exo a C none)
theorem ExF.at {H : Hp} {a C : Addr} {fs : List (Str × V)} (h : ExF H a C fs) : ExAt H a C := .inl ⟨fs, h⟩
theorem ExF.mono {H H' : Hp} {a C : Addr} {fs : List (Str × V)} (k : Evl.Ex H H') (h : ExF H a C fs) : ExF H' a C fs := by
  obtain ⟨d, h1, h2⟩ := h
  exact ⟨d, k _ _ h1, k _ _ h2⟩
theorem ExAt.mono {H H' : Hp} {a C : Addr} (k : Evl.Ex H H') (h : ExAt H a C) : ExAt H' a C := by
  rcases h with ⟨fs, h⟩ | h
  · exact .inl ⟨fs, h.mono k⟩
  · exact .inr (k _ _ h)
theorem inst_of {X : Cx} {pins : List (Addr × Obj)} {σ : L2.St} {H : Hp} {s : Shared} {a C : Addr} (I : Inv X pins σ H s) (h : ExAt H a C) : ∃ oe od, PySem.W.InstAt s.heap a oe C od := by
  rcases h with ⟨fs, d, h1, h2⟩ | h
  · obtain ⟨t, ho⟩ := exo_at I.hok h1
    obtain ⟨mA, ⟨oD, es, ep, hD, _⟩, _⟩ := exd_at I.hok h2
    exact ⟨_, some oD, ho, rfl, rfl, hD⟩
  · obtain ⟨t, ho⟩ := exo_at I.hok h
    exact ⟨_, none, ho, rfl, rfl, True.intro⟩

/-! ### isinstance(e, c) -/
def rIsX (K : PySem.W.Frag) : List V → Hp → VK → Prop := fun xs H Q => ∃ (a C : Addr) (c : V) (cv : Value) (b : Bool), xs = [.ref a, c] ∧ ExAt H a C ∧ ExcC K C ∧ ClsV c cv ∧ PySem.W.kitOne K (.ref C) cv = some b ∧ Q (.bl b) H
theorem call_isX {X : Cx} : CallR X (.builtin "isinstance") (rIsX X.K) := by
  intro pins s σ H xs us Q I r h
  obtain ⟨a, C, c, cv, b, rfl, hx, T, kc, e, q⟩ := h
  obtain ⟨u1, u2, rfl, r1, r2⟩ := vals2 r
  cases (show u1 = Value.ref a from r1)
  have e2 := kc.eq r2
  subst e2
  obtain ⟨oe, od, J⟩ := inst_of I hx
  exact PySem.W.kia_one (kitOf T) I.kIn J e (fun z => nomatch z) fun tk => ⟨.bl b, H, I.tok tk, rfl, q⟩

/-! ### e.f -/
def tXv (K : PySem.W.Frag) (f : Str) (te : TE) : TE := fun σ H Q => te σ H fun x H1 => ∃ (a C d : Addr) (fs : List (Str × V)) (v : V), x = .ref a ∧ H1 a = some (exo a C (some d)) ∧ H1 d = some (exd d fs) ∧ XfC K C ∧ PySem.W.findIn K (.ref C) f = some none ∧ fs.lookup f = some v ∧ Q v H1
theorem pe_xv {X : Cx} {e : Expr} {te : TE} {pos : Pos} {f : Str} (he : PE X e te) (hb : attributeBase e f X.env (eval e X.env) = eval e X.env := by rfl) : PE X (.Attribute e f pos) (tXv X.K f te) := by
  refine ⟨fun pins s σ H Q I h => ?_⟩
  refine attr_of hb (thn (he.run pins s σ H _ I h) fun u s1 ⟨x, H1, I1, rx, a, C, d, fs, v, ex, ha, hd, T, hno, l, q⟩ => ?_)
  subst ex
  cases (show u = Value.ref a from rx)
  obtain ⟨t, ho⟩ := exo_at I1.hok ha
  obtain ⟨mA, hns, hr⟩ := exd_at I1.hok hd
  obtain ⟨oD, hoD, hl⟩ := lookIn_ns hns
  obtain ⟨u', hu, ru⟩ := RelO.some_of (v := v) (o := mA f) (by rw [← l]; exact hr f)
  have J : PySem.W.InstAt s1.heap a _ C (some oD) := ⟨ho, rfl, rfl, hoD⟩
  exact HandSPX.exc_get I1.kIn J T.ga T.gg T.exC (PySem.W.findObj_own T.hdC hno rfl (by rw [hl, hu])) (handed_of ru) ⟨v, H1, I1.tok _, ru, q⟩

/-! ### C(e, ..), C's own __init__ keeping sp; C() without one -/
def tMkV (C : Addr) (sp : Sp) (ta : TA) : TE := fun σ H Q => ta σ H fun vs H1 => vs.length ≤ 1000 ∧ ∀ a, H1 a = none → sp (.ref a :: vs) (upd H1 a (exo a C none)) (fun v H2 => v = .non ∧ Q (.ref a) H2) E0
section
variable {X : Cx} {e : Expr} {es : List Expr} {ta : TA} {p pos : Pos} {x : Str} {C fI : Addr} {k : Nat} {fd : FuncData} {ps : List Str} {sp : Sp}
theorem pe_mkv (T : OexC X.K C) (iC : PySem.W.findIn X.K (.ref C) "__init__" = some (some (.ref fI))) (tI : PySem.W.typeIn X.K (.ref fI) = some (.type "function")) (F1 : FnOk X.prog X.w X.K X.mg X.base CX0 k fI fd ps sp)
    (hr : Room (k + 1) X.A) (hb : Binds X.K fd ps []) (hg : Gl X x) (hm : X.mg x = some (.ref C)) (ha : PA X (e :: es) ta)
    (hdb : (x == ("__debug__" : Str)) = false := by decide) (he : starEach (e :: es) X.env = (false, eval e X.env) :: starEach es X.env := by rfl) (hpl : (backTo pos (starEach es X.env)).any (·.1) = false := by rfl) :
    PE X (.Call (.Name x p) (e :: es) [] pos) (tMkV C sp ta) := by
  refine ⟨fun pins s σ H Q I h => ?_⟩
  obtain ⟨nm, q, N, bs, bm, sn, sub, ab, col, dd, k0, k1, k2, k3, k5, lC, lB⟩ := T.cls
  refine wpAny_Call_Name_kw (ld_glob I hg hm ?_ hdb)
  refine PySem.W.callWith_K (h₀ := X.base) I.ok.mod.kin T.kC (thn (ha.run pos pins s σ H _ I h) fun us s1 ⟨vs, H1, I1, r1, hz, q1⟩ => ⟨I1.kIn, ?_⟩) he hpl
  show wpAny _ _ (call (.ref C) us) _ _ _
  obtain ⟨hh, g, dr, tk, os⟩ := s1
  have top : hh.objs.size ≤ hh.objs.size + 1 := Nat.le_succ _
  have w0 := q1 (hh.objs.size + 1) (I1.hok.fresh top)
  have old : ∀ b o, hh.get? b = some o → ((hh.push (PySem.W.kdv_tup us)).push (PySem.HandSPX.excO C hh.objs.size)).get? b = some o := fun b o z => Heap.get?_push_of_some _ (Heap.get?_push_of_some _ z)
  have made : ((hh.push (PySem.W.kdv_tup us)).push (PySem.HandSPX.excO C hh.objs.size)).get? (hh.objs.size + 1) = some (PySem.HandSPX.excO C hh.objs.size) := by heap_get
  have J : Inv X pins σ (upd H1 (hh.objs.size + 1) (exo (hh.objs.size + 1) C none)) ⟨(hh.push (PySem.W.kdv_tup us)).push (PySem.HandSPX.excO C hh.objs.size), g, dr, tk, os⟩ :=
    I1.laid (t' := tk) old top (exo_ok made)
  have rv : Vals (V.ref (hh.objs.size + 1) :: vs) (Value.ref (hh.objs.size + 1) :: us) := .cons rfl r1
  have hl : (Value.ref (hh.objs.size + 1) :: us ++ []).length = ps.length := by
    have z := rv.length
    rw [F1.len _ _ _ _ w0] at z
    rw [List.append_nil]
    exact z.symm
  have hus : us.length ≤ sizeLine := by
    rw [← Paired.length r1, sizeLine_eq]
    omega
  have bd := hb ⟨(hh.push (PySem.W.kdv_tup us)).push (PySem.HandSPX.excO C hh.objs.size), g, dr, tk, os⟩ (Value.ref (hh.objs.size + 1) :: us) J.kIn hl
  rw [List.append_nil] at bd
  have F1' := F1.run _ X.stack _ _ ⟨Value.ref (hh.objs.size + 1) :: us, []⟩ (Value.ref (hh.objs.size + 1) :: us) _ _ E0 (hr.make C us []) (J.env0.make C us []) bd rv w0
  refine wpAny_call (PySem.HandSPX.call_own F.excBase_ValueError (fun Y => PySem.HandSPX.refsVE_contains Y bm lB) (I1.kIn _ _ lC) (PySem.W.looks_findIn I1.kIn iC) (fun self => PySem.W.bind_fn I1.kIn self tI) hus
    (codeAny_mono F1' fun r s' hq => ?_))
  cases r with
  | error er => exact False.elim hq
  | ok fl =>
    cases fl with
    | ret u =>
      obtain ⟨v, H2, I2, r2, ev, q2⟩ := J.after hq
      subst ev
      exact ⟨r2, ⟨.ref (hh.objs.size + 1), H2, I2, rfl, q2⟩⟩
    | next => exact False.elim hq
    | brk => exact False.elim hq
    | cont => exact False.elim hq
def tMk0 (C : Addr) : TE := fun _ H Q => ∀ a, H a = none → Q (.ref a) (upd H a (exo a C none))
theorem pe_mk0 {bmB : List Value} {B newId initId : String} (F : ExcBaseFacts B newId initId bmB) (q : PySem.W.excIn X.K C bmB newId = true) (kC : PySem.W.keepIn X.K (.ref C) = true) (hg : Gl X x) (hm : X.mg x = some (.ref C))
    (hdb : (x == ("__debug__" : Str)) = false := by decide) : PE X (.Call (.Name x p) [] [] pos) (tMk0 C) := by
  refine ⟨fun pins s σ H Q I h => ?_⟩
  refine wpAny_Call_Name_kw (ld_glob I hg hm ?_ hdb)
  refine PySem.W.callWith_K0 I.kIn kC ?_
  show wpAny _ _ (call (.ref C) []) _ _ _
  obtain ⟨bm, N, nm, qn, bs, hdct, sn, sub, ab, col, dd, k0, k1, k2, k3, k5, mN, hC, hN, hni, T⟩ := exc_obj I.kIn q
  refine wpAny_call_exc_subT F T hC hN hni (fun h' a hm => ?_) (by show 0 ≤ sizeLine; exact Nat.zero_le _)
  have hn : H a = none := I.hok.gone hm.new
  obtain ⟨t, ht, _, _⟩ := hm.there
  exact ⟨.ref a, upd H a (exo a C none), I.laidN hm.keeps hm.new hn (exo_ok ht), rfl, h a hn⟩
end
end XV

set_option Elab.async false
set_option linter.all false
set_option maxRecDepth 100000
set_option maxHeartbeats 4000000
/-! A head's facts as any tests of the written part. -/
namespace XH
open PySem PySem.Spec PyProof.Rows L2 He
abbrev Fc : Type := PySem.W.Frag → Bool
def obsB (fa : List Fc) (fn : List DefD) (K : PySem.W.Frag) : AlD := ((fa.all fun f => f K) && fn.all fun d => d.ok K, fn.map fun d => fnW K d.at_)
def SaysB (fa : List Fc) (fn : List DefD) (K : PySem.W.Frag) : Prop := obsB fa fn K = valD fn
def obsBG (n : Nat) (fa : List Fc) (fn : List DefD) (g : Addr → Option Obj) : AlD := obsB fa fn (frG g (asD g n))
def hookB (n : Nat) (fa : List Fc) (fn : List DefD) : PySem.W.Hook where
  α := AlD
  obs := fun st => obsBG n fa fn st.heap.get?
  val := fun _ => valD fn
  says := fun _ hh => ∃ K : PySem.W.Frag, K.In hh ∧ SaysB fa fn K
  of := fun _ _ z => ⟨_, frG_in, z⟩
  keeps := fun _ _ _ ⟨K, inn, c⟩ kk => ⟨K, PySem.W.Frag.In.keeps inn kk, c⟩
theorem obsBG_eq {n : Nat} {fa : List Fc} {fn : List DefD} {g : Addr → Option Obj} {s : Shared} (h : ∀ a, g a = s.heap.get? a) : obsBG n fa fn g = (hookB n fa fn).obs s := by
  have z : g = s.heap.get? := funext h
  rw [z]
  rfl
section
variable {fa : List Fc} {fn : List DefD} {K : PySem.W.Frag}
theorem SaysB.fact (c : SaysB fa fn K) (i : Nat) {f : Fc} (h : fa[i]? = some f := by rfl) : f K = true := by
  have c1 : ((fa.all fun f => f K) && fn.all fun d => d.ok K) = true := congrArg (fun z : AlD => z.1) c
  exact List.all_eq_true.mp (ba c1).1 f (List.mem_of_getElem? h)
theorem SaysB.def_ (c : SaysB fa fn K) (i : Nat) {d : DefD} (h : fn[i]? = some d := by rfl) : ∃ fd, FunD K d.name d.qual d.params d.body d.scope (d.dvs K) (d.kws K) (fAd K d.at_) fd := by
  have c1 : ((fa.all fun f => f K) && fn.all fun d => d.ok K) = true := congrArg (fun z : AlD => z.1) c
  have c2 : fn.map (fun d => fnW K d.at_) = fn.map DefD.val := congrArg (fun z : AlD => z.2) c
  have c3 : (fn.map fun d => fnW K d.at_)[i]? = (fn.map DefD.val)[i]? := congrArg (fun l => l[i]?) c2
  rw [List.getElem?_map, List.getElem?_map, h] at c3
  exact DefD.funD (Option.some.inj c3) (List.all_eq_true.mp (ba c1).2 d (List.mem_of_getElem? h))
end
/-! ### names -/
def glosB (l : List Str) : Fc := fun K => l.all fun x => (Fa.glo x).ok K
def freesB (l : List Str) : Fc := fun K => l.all fun x => (Fa.free x).ok K
theorem glos_ok {K : PySem.W.Frag} {h : Heap} {mg : Str → Option Value} {l : List Str} (X : K.In h) (G : h.Ns mainGlobals mg) (c : glosB l K = true) (x : Str) (hx : x ∈ l) : mg x = some (.ref (ga K x)) := glo_ok X G (List.all_eq_true.mp c x hx)
theorem frees_ok {K : PySem.W.Frag} {h : Heap} {mg : Str → Option Value} {l : List Str} (X : K.In h) (G : h.Ns mainGlobals mg) (c : freesB l K = true) (x : Str) (hx : x ∈ l) : mg x = none := free_ok X G (List.all_eq_true.mp c x hx)
/-! ### own exception classes -/
def excCB (K : PySem.W.Frag) (C : Addr) : Bool :=
  eqO (PySem.W.findIn K (.ref C) "__getattribute__") (some (some (.builtin "BaseException.__getattribute__"))) && (eqO (PySem.W.findIn K (.ref C) "__getattr__") (some none) && (decide (PySem.W.subIn K (.ref C) (.type "BaseException") = some true) &&
  (PySem.W.hasDictIn K C && (eqO (PySem.W.findIn K (.ref C) "__class__") (some (some (.builtin "object.__class__"))) && (eqO (PySem.W.specialIn K (.builtin "object.__class__") "__get__") (some (some (.builtin "getset_descriptor.__get__"))) &&
  (decide (PySem.W.takesIn K (.builtin "object.__class__") = some true) && decide (PySem.W.mroIn K C (.type "object") = some true)))))))
theorem excC_ok {K : PySem.W.Frag} {C : Addr} (h : excCB K C = true) : ExcC K C := by
  obtain ⟨h1, h⟩ := ba h
  obtain ⟨h2, h⟩ := ba h
  obtain ⟨h3, h⟩ := ba h
  obtain ⟨h4, h⟩ := ba h
  obtain ⟨h5, h⟩ := ba h
  obtain ⟨h6, h⟩ := ba h
  obtain ⟨h7, h8⟩ := ba h
  exact ⟨eqO_ok h1, eqO_ok h2, of_decide_eq_true h3, h4, eqO_ok h5, eqO_ok h6, of_decide_eq_true h7, of_decide_eq_true h8⟩
def exB (K : PySem.W.Frag) (C : Addr) : Bool := match K.lookup C with
  | some ⟨.type "type", _, .cls cd, sl⟩ => (match cd.mro, sl.toList with
    | .ref C' :: bm, [_, _, _, _, some (.builtin n), _] => C' == C && (n == "ValueError.__new__" && (!cd.hasDel && (cd.hasDict && PySem.HandSPX.refsVE bm)))
    | _, _ => false)
  | _ => false
theorem exB_ok {K : PySem.W.Frag} {C : Addr} (q : exB K C = true) : ∃ nm qn N bs bm sn sub ab col dd k0 k1 k2 k3 k5, K.lookup C = some (excClassObj nm qn C N bs bm true sn sub ab col dd k0 k1 k2 k3 k5 "ValueError.__new__") ∧ PySem.HandSPX.refsVE bm = true := by
  unfold exB at q
  split at q
  · rename_i dd cd sl lk
    split at q
    · rename_i C' bm k0 k1 k2 k3 n k5 hm hs
      obtain ⟨q1, q⟩ := ba q
      obtain ⟨q2, q⟩ := ba q
      obtain ⟨q3, q⟩ := ba q
      obtain ⟨q4, q5⟩ := ba q
      have e1 := beq_iff_eq.mp q1
      have e2 := beq_iff_eq.mp q2
      subst e1 e2
      obtain ⟨nm, bs, mro, ns, qn, hd, sn, sub, ab, col, del⟩ := cd
      dsimp only at hm q3 q4
      have e3 : del = false := by simpa using q3
      subst hm e3 q4
      have hsl : sl = #[k0, k1, k2, k3, some (.builtin "ValueError.__new__"), k5] := by
        obtain ⟨l⟩ := sl
        have hs' : l = [k0, k1, k2, k3, some (.builtin "ValueError.__new__"), k5] := hs
        rw [hs']
      subst hsl
      exact ⟨nm, qn, ns, bs, bm, sn, sub, ab, col, dd, k0, k1, k2, k3, k5, lk, q5⟩
    · cases q
  · cases q
/-- an own class with an __init__ of its own that stores the fields fs -/
def ownB (K : PySem.W.Frag) (x : Str) (fs : List Str) : Bool :=
  exB K (ga K x) && (eqO (PySem.W.findIn K (.ref (ga K x)) "__setattr__") (some (some (.builtin "object.__setattr__"))) && (decide (PySem.W.typeIn K (.ref (ga K x)) = some (.type "type")) && (PySem.W.keepIn K (.ref (ga K x)) &&
  ((fs.all fun f => eqO (PySem.W.findIn K (.ref (ga K x)) f) (some none)) && (eqO (PySem.W.findIn K (.ref (ga K x)) "__init__") (some (some (.ref (ma K (ga K x) "__init__")))) &&
  (decide (PySem.W.typeIn K (.ref (ma K (ga K x) "__init__")) = some (.type "function")) && excCB K (ga K x)))))))
structure Own (K : PySem.W.Frag) (C fI : Addr) (fs : List Str) : Prop where
  ox : OexC K C
  no : ∀ f ∈ fs, PySem.W.findIn K (.ref C) f = some none
  iC : PySem.W.findIn K (.ref C) "__init__" = some (some (.ref fI))
  tI : PySem.W.typeIn K (.ref fI) = some (.type "function")
  ec : ExcC K C
theorem Own.xf {K : PySem.W.Frag} {C fI : Addr} {fs : List Str} (o : Own K C fI fs) : XfC K C := ⟨o.ec.hg, o.ec.hk, o.ec.hs, o.ec.hd⟩
theorem own_ok {K : PySem.W.Frag} {x : Str} {fs : List Str} (h : ownB K x fs = true) : Own K (ga K x) (ma K (ga K x) "__init__") fs := by
  obtain ⟨h1, h⟩ := ba h
  obtain ⟨h2, h⟩ := ba h
  obtain ⟨h3, h⟩ := ba h
  obtain ⟨h4, h⟩ := ba h
  obtain ⟨h5, h⟩ := ba h
  obtain ⟨h6, h⟩ := ba h
  obtain ⟨h7, h8⟩ := ba h
  have e := excC_ok h8
  exact ⟨⟨exB_ok h1, eqO_ok h2, e.hs, of_decide_eq_true h3, h4⟩, fun f hf => eqO_ok (List.all_eq_true.mp h5 f hf), eqO_ok h6, of_decide_eq_true h7, e⟩
/-- an own class without one -/
def bareB (K : PySem.W.Frag) (x : Str) : Bool := PySem.W.excIn K (ga K x) veBase "ValueError.__new__" && (PySem.W.keepIn K (.ref (ga K x)) && excCB K (ga K x))
structure Bare (K : PySem.W.Frag) (C : Addr) : Prop where
  ex : PySem.W.excIn K C veBase "ValueError.__new__" = true
  kC : PySem.W.keepIn K (.ref C) = true
  ec : ExcC K C
theorem bare_ok {K : PySem.W.Frag} {x : Str} (h : bareB K x = true) : Bare K (ga K x) := by
  obtain ⟨h1, h⟩ := ba h
  obtain ⟨h2, h3⟩ := ba h
  exact ⟨h1, h2, excC_ok h3⟩
/-! ### the promise of such an __init__ of one, of two fields -/
def spI1 (K : PySem.W.Frag) (C : Addr) (f : Str) : Sp := fun vs H Q _ => ∃ (a : Addr) (y : V), vs = [.ref a, y] ∧ OexC K C ∧ PySem.W.findIn K (.ref C) f = some none ∧ H a = some (exo a C none) ∧
  ∀ d, H d = none → d ≠ a → Q .non (upd (upd H d (exd d [(f, y)])) a (exo a C (some d)))
def spI2 (K : PySem.W.Frag) (C : Addr) (f g : Str) : Sp := fun vs H Q _ => ∃ (a : Addr) (y z : V), vs = [.ref a, y, z] ∧ OexC K C ∧ PySem.W.findIn K (.ref C) f = some none ∧ PySem.W.findIn K (.ref C) g = some none ∧ H a = some (exo a C none) ∧
  ∀ d, H d = none → d ≠ a → Q .non (upd (upd (upd H d (exd d [(f, y)])) a (exo a C (some d))) d (exd d [(g, z), (f, y)]))
end XH

set_option Elab.async false
set_option linter.all false
set_option maxRecDepth 100000
set_option maxHeartbeats 4000000
/-! Rules that were lacking: a text some times over, get of a table of the top, what is walked either way, an error without arguments, several clauses that each keep their error, isinstance of it. -/
namespace XR
open PySem PySem.Spec PyProof.Rows L2

/-! ### text * n -/
def repS (z : Str) (n : Nat) : Str := ⟨(List.replicate n z.cps).foldl (· ++ ·) #[]⟩
theorem rep_size (a : Array Nat) : ∀ (n : Nat) (acc : Array Nat), ((List.replicate n a).foldl (· ++ ·) acc).size = acc.size + n * a.size
  | 0, acc => by simp
  | n + 1, acc => by
    rw [List.replicate_succ, List.foldl_cons, rep_size a n, Array.size_append, Nat.succ_mul]
    omega
theorem repS_len (z : Str) (n : Nat) : (repS z n).length = n * z.length := by
  show ((List.replicate n z.cps).foldl (· ++ ·) #[]).size = n * z.cps.size
  rw [rep_size]
  simp
theorem op_mulS {X : Cx} : OpR X (binaryOp .Mult) (fun x y H Q => ∃ (z : Str) (n : Nat), x = .str z ∧ y = .int (n : Int) ∧ (1 ≤ n ∧ n ≤ 1000) ∧ (1 ≤ z.length ∧ z.length ≤ 1000) ∧ Q (.str (repS z n)) H) := by
  intro pins s σ H x y v u Q I rx ry h
  obtain ⟨z, n, rfl, rfl, ⟨n1, n2⟩, ⟨z1, z2⟩, q⟩ := h
  obtain ⟨t, rfl⟩ := rx
  obtain ⟨t', rfl⟩ := ry
  have c1 : decide ((n : Int) < -(2 ^ 63 : Int)) = false := decide_eq_false (by omega)
  have c2 : decide ((n : Int) ≥ 2 ^ 63) = false := decide_eq_false (by omega)
  refine PySem.P.mul_str (by rw [c1, c2]; rfl) (fun _ _ => ?_) (fun _ _ => ?_) ?_
  · have k : (1000000 : Int) ≤ (2 ^ 63 - 1) / (n : Int) := by
      refine Int.le_ediv_of_mul_le (by omega) ?_
      omega
    omega
  · have k : z.length * (n : Int).toNat ≤ 1000 * 1000 := Nat.mul_le_mul z2 (by omega)
    show decide (z.length * (n : Int).toNat > sizeLine) = false
    refine decide_eq_false ?_
    rw [sizeLine_eq]
    omega
  · rw [if_neg (by omega)]
    by_cases e : n = 1
    · subst e
      have e2 : repS z 1 = z := by
        unfold repS
        simp
      rw [if_pos (by rfl)]
      rw [e2] at q
      exact ⟨.str z, H, I, ⟨_, rfl⟩, q⟩
    · have b : ((n : Int) == 1 || z.length == 0) = false := by
        have b1 : ((n : Int) == 1) = false := by
          rw [beq_eq_false_iff_ne]
          omega
        have b2 : (z.length == 0) = false := by
          rw [beq_eq_false_iff_ne]
          omega
        rw [b1, b2]
        rfl
      rw [b, if_neg Bool.false_ne_true]
      have en : (n : Int).toNat = n := by omega
      rw [en]
      have lr : (repS z n).length ≤ sizeLine := by
        rw [repS_len, sizeLine_eq]
        have k : n * z.length ≤ 1000 * 1000 := Nat.mul_le_mul n2 z2
        omega
      exact ⟨lr, ⟨.str (repS z n), H, I.tok _, ⟨_, rfl⟩, q⟩⟩

/-! ### d.get(x), d a table of the top -/
def tKGet (K : PySem.W.Frag) (w : World) (td ty : TE) : TE := fun σ H Q => td σ H fun x H1 => ∃ (a : Addr) (es : Array DictEntry) (n : Nat), x = .ref a ∧ KDict K w a es n ∧ ty σ H1 fun y H2 => ∃ (z : Str) (r : Option Value) (v : V), y = .str z ∧ PySem.W.nsIn K a z = some r ∧ RelV v (r.getD .none) ∧ Q v H2
theorem pe_kget {X : Cx} {o e : Expr} {apos cpos : Pos} {td ty : TE} (ho : PE X o td) (he : PE X e ty) (m : M1 X o "get" apos e cpos) : PE X (.Call (.Attribute o "get" apos) [e] [] cpos) (tKGet X.K X.w td ty) := by
  refine ⟨fun pins s σ H Q I h => ?_⟩
  refine wpAny_Call_method m.base m.few m.line PySem.F.plainAttrs_dict PySem.F.slot_dict_get PySem.F.type_dict_get (thn (ho.run pins s σ H _ I h) fun u s1 ⟨x, H1, I1, rx, a, es, n, ex, D, q1⟩ => ?_)
  subst ex
  cases (show u = Value.ref a from rx)
  refine ⟨kd_type D I1, fun b q => ?_, ?_⟩
  · cases q
    exact ⟨_, I1.kIn _ _ D.at_, rfl⟩
  rw [m.trees]
  refine Calls.callWith_builtin rfl (Calls.evalArgs_plain (Calls.spliced_cons (thn (he.run pins s1 σ H1 _ I1 q1) fun iv s2 ⟨y, H2, I2, ry, z, r, v, ey, en, rv, q2⟩ => Calls.spliced_nil ?_)))
  subst ey
  obtain ⟨t, rfl⟩ := (show ∃ t, iv = Value.str z t from ry)
  have mp := PySem.W.mapOf_K (prog := X.prog) (w := X.w) I2.kIn D.at_ D.lit
  refine call_meetsIn PySem.F.slot_dict_get mp.typeIs PySem.F.entry_dict_get (PySem.F.args_dict_get_2 _ _) (meets_dict_get (strKind X.prog X.w) a (strKind_is X.prog X.w z t) D.low) ⟨_, mp, ?_⟩
  rw [PySem.W.find_K D.at_ en]
  exact ⟨v, H2, I2.tok _, rv, q2⟩

/-! ### what may be walked in two ways -/
theorem pi_or {X : Cx} {tg l : Expr} {w1 w2 : TI} (h1 : PI X tg l w1) (h2 : PI X tg l w2) : PI X tg l (fun σ H R => w1 σ H R ∨ w2 σ H R) := ⟨fun pins s σ H R I h => h.elim (fun k => h1.run pins s σ H R I k) (fun k => h2.run pins s σ H R I k)⟩

/-! ### raise C() -/
theorem pmk0 {X : Cx} {C : Addr} {bmB : List Value} {B newId initId : String} {x : Str} {p pos : Pos} (F : ExcBaseFacts B newId initId bmB) (q : PySem.W.excIn X.K C bmB newId = true) (gC : X.mg x = some (.ref C)) (kC : PySem.W.keepIn X.K (.ref C) = true) (r : Raises X (.ref C)) (hg : Gl X x)
    (hdb : (x == ("__debug__" : Str)) = false := by decide) : PMk X (.Call (.Name x p) [] [] pos) (fun _ H Q => Q (.ref C) none H) := by
  intro pins s σ H Q I h
  refine wpAny_Call_Name_kw (ld_glob I hg gC ?_ hdb)
  refine PySem.W.callWith_K0 I.kIn kC ?_
  show wpAny _ _ (call (.ref C) []) _ _ _
  obtain ⟨bm, N, nm, qn, bs, hdct, sn, sub, ab, col, dd, k0, k1, k2, k3, k5, mN, hC, hN, hni, T⟩ := exc_obj I.kIn q
  exact wpAny_call_exc_subT F T hC hN hni (fun h' a hm => mk_of I hm r h (I.hok.gone hm.new)) (by show 0 ≤ sizeLine; exact Nat.zero_le _)

/-! ### isinstance(e, c), e the error that the suite holds -/
def rIsS (K : PySem.W.Frag) (cls : Value) (d : Option Addr) (a : Addr) : List V → Hp → VK → Prop := fun xs H Q => ∃ (C : Addr) (c : V) (cv : Value) (b : Bool), xs = [.ref a, c] ∧ cls = .ref C ∧ ExcC K C ∧ (∀ dd, d = some dd → ∃ fs, H dd = some (.xd fs)) ∧ ClsV c cv ∧ PySem.W.kitOne K (.ref C) cv = some b ∧ Q (.bl b) H
theorem call_isS {X : Cx} {a : Addr} {oe : Obj} {cls : Value} {d : Option Addr} {pn : List (Addr × Obj)} (hz : Zc cls d oe) (hf : ∃ vs, oe.data = .fields vs) : CallR (X.suite a ((a, oe) :: pn)) (.builtin "isinstance") (rIsS X.K cls d a) := by
  intro pins s σ H xs us Q I r h
  obtain ⟨C, c, cv, b, rfl, rfl, T, hd, kc, e, q⟩ := h
  obtain ⟨u1, u2, rfl, r1, r2⟩ := vals2 r
  cases (show u1 = Value.ref a from r1)
  have e2 := kc.eq r2
  subst e2
  obtain ⟨there, _⟩ := I.pin (a, oe) (List.mem_append_left _ List.mem_cons_self)
  obtain ⟨vs, hv⟩ := hf
  obtain ⟨oc, od, dt, sl⟩ := oe
  obtain ⟨z1, z2⟩ := hz
  dsimp only at z1 z2 hv
  subst z1 z2 hv
  have J : ∃ oD, PySem.W.InstAt s.heap a ⟨.ref C, od, .fields vs, sl⟩ C oD := by
    cases od with
    | none => exact ⟨none, there, rfl, rfl, True.intro⟩
    | some dd =>
      obtain ⟨fs, hx⟩ := hd dd rfl
      have k : ObjOk X.prog X.w H s.heap dd (.xd fs) := I.hok dd _ hx
      obtain ⟨mA, ⟨oD, es, ep, hD, _⟩, _⟩ := k
      exact ⟨some oD, there, rfl, rfl, hD⟩
  obtain ⟨oD, J⟩ := J
  exact PySem.W.kia_one (XV.kitOf T) I.kIn J e (fun z => nomatch z) fun tk => ⟨.bl b, H, I.tok tk, rfl, q⟩

/-! ### try with several clauses, each «as» -/
def wMas (K : PySem.W.Frag) (Wout : WX) (D : Ends) : List (Value × Nat × (Addr → Value → Option Addr → TS)) → WX
  | [] => Wout
  | (c, i, ts) :: more => fun cls d σ H => ∃ b, PySem.W.exmOne K cls c = some b ∧ (b = true → ∀ a, H a = none → ts a cls d { nx := fun σ' H' => D.nx (σ'.set i none) H', rt := D.rt, bk := fun σ' H' => D.bk (σ'.set i none) H', ct := fun σ' H' => D.ct (σ'.set i none) H' } (σ.set i (some (.ref a))) H) ∧
    (b = false → wMas K Wout D more cls d σ H)
inductive HdsA (X : Cx) : List ExceptHandler → List (Value × Nat × (Addr → Value → Option Addr → TS)) → Prop
  | nil : HdsA X [] []
  | cons {x n : Str} {c : Value} {i : Nat} {ts : Addr → Value → Option Addr → TS} {st : Stmt} {suite : List Stmt} {np hp : Pos} {hds : List ExceptHandler} {l : List (Value × Nat × (Addr → Value → Option Addr → TS))} (hc : Names X x c) (hi : X.N[i]? = some n) (hln : X.env.kindOf n = some .local)
      (hsu : ∀ (a : Addr) (oe : Obj) (cls : Value) (d : Option Addr) (pn : List (Addr × Obj)), Zc cls d oe → (∃ vs, oe.data = .fields vs) → PSs (X.suite a ((a, oe) :: pn)) (st :: suite) (ts a cls d)) (more : HdsA X hds l) :
      HdsA X (.ExceptHandler (some (.Name x np)) (some n) (st :: suite) hp :: hds) ((c, i, ts) :: l)
section
variable {X : Cx} {body : List Stmt} {hd0 : ExceptHandler} {hds : List ExceptHandler} {l : List (Value × Nat × (Addr → Value → Option Addr → TS))} {pos : Pos} {tb : WX → TS} {Wout : WX}
theorem ps_try_mas (hst : X.stack = X.env :: X.outer) (hfr0 : X.env.frame = some X.env.locals) (nd : X.N.Nodup) (tk : Takes X Wout)
    (bod : ∀ (W : WX) (pn : List (Addr × Obj)) (xe : Value → Shared → Prop), Takes (X.tr pn xe) W → PassesOwn (model X.prog X.w) X.A X.env xe → PSs (X.tr pn xe) body (tb W))
    (all : HdsA X (hd0 :: hds) l) : PS X (.Try body (hd0 :: hds) [] [] pos) (fun D σ H => tb (wMas X.K Wout D l) D σ H) := by
  refine ⟨fun pins s σ H D I h => ?_⟩
  have okX := I.ok
  have frs0 : X.A.frames = some (X.env :: X.outer) := by rw [okX.frames, hst]
  refine wpAny_Try_except ?_
  refine wpAny_mono ((bod (wMas X.K Wout D l) (X.pn ++ pins) (fun e sa => wpAny (model X.prog X.w) X.A (noteFrame e X.env) (fun _ sb => wpAny (model X.prog X.w) X.A (setFlight e none) (fun _ sc =>
    wpAny (model X.prog X.w) X.A (handleBy e X.env (hd0 :: hds)) (SP X pins D) X.xe sc) X.xe sb) X.xe sa) (fun u st air => ?_) PassesOwn.looking).run [] s σ H D (I.toTry _) h) (fun f s1 fin0 => ?_) (fun _ _ z => z)
  · obtain ⟨a, B, sI, pins', σ1, H1, cls, d, rfl, J0, nb, up, sky, na, os, ag, wish⟩ := air
    have J : Inv X pins σ1 H1 sI := J0.ofTry okX
    have sky1 : Sky B (X.env :: X.outer) a (Zc cls d) X.env.locals st.heap := by rw [← hst]; exact sky
    show wpAny (model X.prog X.w) X.A (noteFrame (.ref a) X.env) _ _ _
    refine Sky.land Zc.steady frs0 hfr0 sky1 fun hA flA upA => ?_
    have JA : Inv X pins σ1 H1 { st with heap := hA } := J.landed nb flA.1 (up.trans upA) os ag
    obtain ⟨oeA, vsA, heA, hzA, hdA⟩ := flA.there
    have noFr : ∀ {hh : Heap} {o : Obj} {ws : Array Value}, hh.FunFrames B (X.env :: X.outer) → hh.get? a = some o → o.data = .fields ws → a ∉ frs (X.env :: X.outer) := fun {hh o ws} ff e dd hm => by
      obtain ⟨_, o2, e2, hnf⟩ := ff.mem hm
      rw [e] at e2
      cases e2
      exact hnf _ dd
    have nfA := noFr flA.2.2.1 heA hdA
    have neL : a ≠ X.env.locals := fun z => nfA (List.mem_filterMap.mpr ⟨X.env, List.mem_cons_self, by rw [hfr0, z]⟩)
    have neF : a ∉ X.fs := fun hm => by
      obtain ⟨e, he, q⟩ := List.mem_filterMap.mp hm
      exact nfA (List.mem_filterMap.mpr ⟨e, List.mem_cons_of_mem _ he, q⟩)
    have SA := JA.suite heA hdA na neL neF
    have walk : ∀ {hs' : List ExceptHandler} {l' : List (Value × Nat × (Addr → Value → Option Addr → TS))}, HdsA X hs' l' → wMas X.K Wout D l' cls d σ1 H1 →
        wpAny (model X.prog X.w) X.A (handleBy (.ref a) X.env hs') (SP X pins D) X.xe { st with heap := hA } := by
      intro hs' l' hk
      induction hk with
      | nil =>
        intro wn
        refine wpAny_handleBy_nil ?_
        obtain ⟨_, _, _, oe, vs, TT, oT, ts', he, hz, hdd, h1, _⟩ := id flA
        unfold PySem.passOn
        refine wpAny_bind (wpAny_field he hdd h1 ?_)
        rw [if_neg (show ¬ ((Value.ref TT == Value.none) = true) from by simp)]
        have on : wpAny (model X.prog X.w) X.A (setFlight (.ref a) X.env.frame) (fun _ sx => wpAny (model X.prog X.w) X.A (throw (.ref a) : Sem Flow) (SP X pins D) X.xe sx) X.xe { st with heap := hA } := by
          rw [hfr0]
          refine HandSPX.setFlight_upZ flA fun hB hhB upB => wpAny_throw (tk _ _ ?_)
          exact ⟨a, B, sI, pins, σ1, H1, cls, d, rfl, J, nb, (up.trans upA).trans upB, .inr (.inr (by rw [hst]; exact hhB)), na, os, ag, wn⟩
        first
          | exact wpAny_bind (wpAny_pure (wpAny_bind on))
          | exact wpAny_bind on
      | @cons x n c i ts st0 suite np hp hds2 l2 hc hi hln hsu more ih =>
        intro wn
        obtain ⟨b, hb1, yes, no⟩ := wn
        refine wpAny_handleBy_cons (codeAny_handlers_test ?_) (by intro q; cases q)
        have LT : PySem.W.Looks (model X.prog X.w) hA (typeOf (.ref a)) cls := fun A' Q' E' s' k q => wpAny_typeOf_ref (k _ _ heA) (by rw [hzA.1]; exact q)
        have LM := PySem.W.exm_one (M := model X.prog X.w) JA.kIn LT hb1
        have nameOf : ∀ {Q' : Value → Shared → Prop} {E' : Value → Shared → Prop}, Q' c { st with heap := hA } → wpAny (model X.prog X.w) (X.A.mark (some (.ref a))) (eval (.Name x np) X.env) Q' E' { st with heap := hA } := fun {Q' E'} q => by
          obtain ⟨hg, hdbg, hm | ⟨hm, hv, hnn⟩⟩ := hc
          · exact ld_glob (X := X.suite a ((a, oeA) :: (X.pn ++ pins))) SA hg hm q hdbg
          · exact ld_blt (X := X.suite a ((a, oeA) :: (X.pn ++ pins))) SA hg hm hv q hnn hdbg
        refine nameOf (LM.here ?_)
        cases b with
        | false =>
          show wpAny _ X.A (handleBy (.ref a) X.env hds2) _ _ _
          exact ih (no rfl)
        | true =>
          refine codeAny_handlers_suite_as ?_
          refine HandSPX.lands_againZ flA fun hB flB upB => ?_
          have JB : Inv X pins σ1 H1 { st with heap := hB } := J.landed nb flB.1 ((up.trans upA).trans upB) os ag
          obtain ⟨oeB, vsB, heB, hzB, hdB⟩ := flB.there
          have SB := JB.suite heB hdB na neL neF
          refine store_ok (X := X.suite a ((a, oeB) :: (X.pn ++ pins))) (v := .ref a) SB nd hi (.inl hln) rfl (fun s5 S5 => ?_) (.inr hln)
          refine wpAny_mono ((hsu a oeB cls d (X.pn ++ pins) hzB ⟨_, hdB⟩).run [] s5 _ H1 _ S5 (yes rfl a na)) (fun f s6 q0 => ?_) (fun _ _ z => False.elim z)
          have gone : ∀ {σ6 : L2.St} {H6 : Hp} {Q6 : Shared → Prop}, Inv (X.suite a ((a, oeB) :: (X.pn ++ pins))) [] σ6 H6 s6 → (∀ s7, Inv X pins (σ6.set i none) H6 s7 → Q6 s7) →
              wpAny (model X.prog X.w) X.A (do bindName X.env n .none; unbindBehindTheSuite X.env n hp) (fun _ s7 => Q6 s7) X.xe s6 := fun {σ6 H6 Q6} S6 hq => gone_ok (S6.unsuite okX) nd hi hln hq
          cases f with
          | next =>
            obtain ⟨_, _, S6, q6⟩ := q0
            exact gone S6 fun s7 J7 => ⟨_, _, J7, q6⟩
          | brk =>
            obtain ⟨_, _, S6, q6⟩ := q0
            exact gone S6 fun s7 J7 => ⟨_, _, J7, q6⟩
          | cont =>
            obtain ⟨_, _, S6, q6⟩ := q0
            exact gone S6 fun s7 J7 => ⟨_, _, J7, q6⟩
          | ret u =>
            obtain ⟨_, _, _, S6, r6, q6⟩ := q0
            exact gone S6 fun s7 J7 => ⟨_, _, _, J7, r6, q6⟩
    exact walk all wish
  · cases f with
    | next =>
      obtain ⟨_, _, J1, q⟩ := fin0
      exact wpAny_execs_nil ⟨_, _, J1.ofTry okX, q⟩
    | brk =>
      obtain ⟨_, _, J1, q⟩ := fin0
      exact ⟨_, _, J1.ofTry okX, q⟩
    | cont =>
      obtain ⟨_, _, J1, q⟩ := fin0
      exact ⟨_, _, J1.ofTry okX, q⟩
    | ret v =>
      obtain ⟨_, _, _, J1, r, q⟩ := fin0
      exact ⟨_, _, _, J1.ofTry okX, r, q⟩
end
end XR

set_option Elab.async false
set_option linter.all false
set_option maxRecDepth 100000
set_option maxHeartbeats 4000000
/-! A pen: a pair of a list of numbers and a count, changed by each draw; all else stands. -/
namespace PEN
open PySem PySem.Spec PyProof.Rows L2 Evl

def cut (p l : Addr) (H : Hp) : Hp := fun a => if a = p ∨ a = l then none else H a
theorem cut_at {p l a : Addr} {H : Hp} (h1 : a ≠ p) (h2 : a ≠ l) : cut p l H a = H a := by
  unfold cut
  rw [if_neg (by rintro (z | z) <;> contradiction)]
theorem cut_some {p l a : Addr} {H : Hp} {o : HO} (h : cut p l H a = some o) : a ≠ p ∧ a ≠ l ∧ H a = some o := by
  unfold cut at h
  by_cases z : a = p ∨ a = l
  · rw [if_pos z] at h
    cases h
  · rw [if_neg z] at h
    exact ⟨fun e => z (.inl e), fun e => z (.inr e), h⟩
theorem cut_ex {p l : Addr} {H : Hp} : Ex (cut p l H) H := fun a o h => (cut_some h).2.2
theorem cut_mono {p l : Addr} {H H' : Hp} (e : Ex H H') : Ex (cut p l H) (cut p l H') := fun a o h => by
  obtain ⟨h1, h2, h3⟩ := cut_some h
  rw [cut_at h1 h2]
  exact e _ _ h3
/-- all but the pen stands -/
def Px (p l : Addr) (H H' : Hp) : Prop := Ex (cut p l H) (cut p l H')
theorem Px.refl {p l : Addr} (H : Hp) : Px p l H H := Ex.refl _
theorem Px.trans {p l : Addr} {H H1 H2 : Hp} (a : Px p l H H1) (b : Px p l H1 H2) : Px p l H H2 := Ex.trans a b
theorem Px.of {p l : Addr} {H H' : Hp} (e : Ex H H') : Px p l H H' := cut_mono e
theorem Px.get {p l a : Addr} {H H' : Hp} {o : HO} (k : Px p l H H') (h1 : a ≠ p) (h2 : a ≠ l) (h : H a = some o) : H' a = some o := (cut_some (k a o ((cut_at h1 h2).trans h))).2.2
theorem Px.upd {p l : Addr} {H H' : Hp} {a : Addr} {o : HO} (k : Px p l H H') (h : a = p ∨ a = l ∨ H a = none) : Px p l H (upd H' a o) := fun b u hb => by
  obtain ⟨h1, h2, h3⟩ := cut_some hb
  have n : b ≠ a := by
    rintro rfl
    rcases h with z | z | z
    · exact h1 z
    · exact h2 z
    · rw [z] at h3
      cases h3
  rw [cut_at h1 h2, upd_ne n]
  exact k.get h1 h2 h3
theorem Px.fresh {p l a : Addr} {H H' : Hp} (k : Px p l H H') (h1 : a ≠ p) (h2 : a ≠ l) (h : H' a = none) : H a = none := by
  cases z : H a with
  | none => rfl
  | some o =>
    rw [k.get h1 h2 z] at h
    cases h
/-- a pen with b draws left to it -/
def Pen (p l : Addr) (b : Nat) (H : Hp) : Prop := ∃ (c : Int) (ns : List Int), H p = some (.lst [.ref l, .int c]) ∧ H l = some (.lst (ns.map V.int)) ∧ ns ≠ [] ∧ 0 ≤ c ∧ c + b ≤ 1000000000000
theorem Pen.ne {p l : Addr} {b : Nat} {H : Hp} (h : Pen p l b H) : p ≠ l := by
  obtain ⟨c, ns, h1, h2, _⟩ := h
  rintro rfl
  rw [h1] at h2
  have z := HO.lst.inj (Option.some.inj h2)
  cases ns with
  | nil => cases z
  | cons n r =>
    rw [List.map_cons] at z
    cases (List.cons.inj z).1
theorem Pen.ex {p l : Addr} {b : Nat} {H H' : Hp} (e : Ex H H') (h : Pen p l b H) : Pen p l b H' := by
  obtain ⟨c, ns, h1, h2, h3⟩ := h
  exact ⟨c, ns, e _ _ h1, e _ _ h2, h3⟩
theorem Pen.less {p l : Addr} {b b' : Nat} {H : Hp} (h : Pen p l b H) (k : b' ≤ b) : Pen p l b' H := by
  obtain ⟨c, ns, h1, h2, h3, h4, h5⟩ := h
  exact ⟨c, ns, h1, h2, h3, h4, by omega⟩
theorem Pen.upd {p l a : Addr} {b : Nat} {H : Hp} {o : HO} (h : Pen p l b H) (h1 : a ≠ p) (h2 : a ≠ l) : Pen p l b (upd H a o) := by
  obtain ⟨c, ns, e1, e2, h3⟩ := h
  exact ⟨c, ns, (upd_ne (Ne.symm h1)).trans e1, (upd_ne (Ne.symm h2)).trans e2, h3⟩
/-- a new thing is not the pen -/
theorem Pen.new {p l a : Addr} {b : Nat} {H : Hp} (h : Pen p l b H) (n : H a = none) : a ≠ p ∧ a ≠ l := by
  obtain ⟨c, ns, e1, e2, _⟩ := h
  exact ⟨(ne_of_none e1 n).symm, (ne_of_none e2 n).symm⟩
theorem cut_fresh {p l a : Addr} {H : Hp} (h : H a = none) : cut p l H a = none := by
  unfold cut
  split
  · rfl
  · exact h
/-- a comprehension without a test goes on with its element -/
theorem yes_go {te : TE} {σ : L2.St} {H : Hp} {R : VK} {B : Hp → Prop} (h : te σ H R) : tYes σ H (fun b H3 => if b = true then te σ H3 R else B H3) := by
  show (if true = true then te σ H R else B H)
  exact iteT h
theorem fits {n : Nat} (h : n ≤ 1000) : n ≤ sizeLine := Nat.le_of_lt (small1000 h)
/-! ### names -/
/-- the signs of a name -/
def Let (z : Str) : Prop := ∀ c ∈ z.cps.toList, 97 ≤ c ∧ c ≤ 122
/-! ### the promises -/
def spDraw : Sp := fun vs H Q _ => ∃ (p l : Addr) (m : Int) (b : Nat), vs = [.ref p, .int m] ∧ (0 < m ∧ m < 1073741824) ∧ Pen p l (b + 1) H ∧ ∀ r H', 0 ≤ r ∧ r < m → Px p l H H' → Pen p l b H' → Q (.int r) H'
def spPick (K : PySem.W.Frag) : Sp := fun vs H Q _ => ∃ (p l a : Addr) (xs : List V) (b : Nat), vs = [.ref p, .ref a] ∧ SqL K (cut p l H) a xs ∧ (xs ≠ [] ∧ xs.length ≤ 1000000) ∧ Pen p l (b + 1) H ∧ ∀ r H', r ∈ xs → Px p l H H' → Pen p l b H' → Q r H'
def spWord : Sp := fun vs H Q _ => ∃ (p l : Addr) (m b : Nat), vs = [.ref p, .int (m : Int)] ∧ (1 ≤ m ∧ m ≤ 12) ∧ Pen p l (b + 14) H ∧ ∀ (z : Str) H', (Let z ∧ 1 ≤ z.length ∧ z.length ≤ m) → Px p l H H' → Pen p l b H' → Q (.str z) H'
def NamesOk (ys : List Str) : Prop := ys.Nodup ∧ ∀ y ∈ ys, Let y ∧ 1 ≤ y.length ∧ y.length ≤ 12
def spNames (K : PySem.W.Frag) : Sp := fun vs H Q _ => ∃ (p l : Addr) (n b : Nat), vs = [.ref p, .int (n : Int)] ∧ n ≤ 11 ∧ Pen p l (b + n * 16) H ∧
  ∀ (q : Addr) (ys : List Str) H', H q = none → H' q = some (.lst (ys.map V.str)) → ys.length = n → NamesOk ys → Px p l H H' → Pen p l b H' → Q (.ref q) H'
end PEN

set_option Elab.async false
set_option linter.all false
set_option maxRecDepth 100000
set_option maxHeartbeats 4000000
/-! A head's facts as any tests of the written part, and tables with text keys beside them. -/
namespace XT
open PySem PySem.Spec PyProof.Rows L2 He XH
abbrev AlU : Type := AlD × List (Option (List (Option (Str × Int))))
def obsU (ff : List Fc) (dd : List DefD) (tt : List Tab) (K : PySem.W.Frag) : AlU := (obsB ff dd K, tt.map fun x => dicW K (x.1 K))
def valU (dd : List DefD) (tt : List Tab) (w : World) : AlU := (valD dd, tt.map fun x => some (keysIn w.params x.2))
def obsUG (n : Nat) (ff : List Fc) (dd : List DefD) (tt : List Tab) (h0 : Addr → Option Obj) : AlU := obsU ff dd tt (frG h0 (asD h0 n))
def SaysU (ff : List Fc) (dd : List DefD) (tt : List Tab) (w : World) (K : PySem.W.Frag) : Prop := obsU ff dd tt K = valU dd tt w
def hookU (n : Nat) (ff : List Fc) (dd : List DefD) (tt : List Tab) : PySem.W.Hook where
  α := AlU
  obs := fun st => obsUG n ff dd tt st.heap.get?
  val := fun ww => valU dd tt ww
  says := fun ww hh => ∃ K : PySem.W.Frag, K.In hh ∧ SaysU ff dd tt ww K
  of := fun _ _ z => ⟨_, frG_in, z⟩
  keeps := fun _ _ _ ⟨K, inn, c⟩ kk => ⟨K, PySem.W.Frag.In.keeps inn kk, c⟩
theorem obsUG_eq {n : Nat} {ff : List Fc} {dd : List DefD} {tt : List Tab} {h0 : Addr → Option Obj} {st : Shared} (h : ∀ a, h0 a = st.heap.get? a) : obsUG n ff dd tt h0 = (hookU n ff dd tt).obs st := by
  have z : h0 = st.heap.get? := funext h
  rw [z]
  rfl
section
variable {ff : List Fc} {dd : List DefD} {tt : List Tab} {w : World} {K : PySem.W.Frag}
theorem SaysU.b (c : SaysU ff dd tt w K) : SaysB ff dd K := congrArg (fun z : AlU => z.1) c
theorem SaysU.at (c : SaysU ff dd tt w K) (i : Nat) {x : Tab} (h : tt[i]? = some x := by rfl) : ∃ es n, KDict K w (x.1 K) es n := by
  have z : (tt.map fun x => dicW K (x.1 K)) = tt.map fun x => some (keysIn w.params x.2) := congrArg (fun z : AlU => z.2) c
  have z2 : (tt.map fun x => dicW K (x.1 K))[i]? = (tt.map fun x => some (keysIn w.params x.2))[i]? := congrArg (fun l => l[i]?) z
  rw [List.getElem?_map, List.getElem?_map, h] at z2
  exact dicW_ok (Option.some.inj z2)
end
/-- an entry of a table that is an empty tuple of the top; that is any object -/
def emptyB (K : PySem.W.Frag) (x k : Str) : Bool := match PySem.W.nsIn K (ga K x) k with
  | some (some (.ref a)) => (match K.lookup a with
    | some ⟨.type c, _, .seq its _, _⟩ => c == "tuple" && its.toList.isEmpty
    | _ => false)
  | _ => false
theorem emptyB_ok {K : PySem.W.Frag} {x k : Str} (q : emptyB K x k = true) : ∃ a, PySem.W.nsIn K (ga K x) k = some (some (.ref a)) ∧ ∀ H, SqT K H a [] := by
  unfold emptyB at q
  split at q
  · rename_i a e
    split at q
    · rename_i c dd its n sl e2
      obtain ⟨q1, q2⟩ := ba q
      have e3 := beq_iff_eq.mp q1
      subst e3
      have e4 : its.toList = [] := List.isEmpty_iff.mp q2
      refine ⟨a, e, fun H => .inr ⟨_, its, n, e2, rfl, rfl, ?_, ?_⟩⟩
      · rw [← Array.length_toList, e4]
        exact Nat.zero_le _
      · rw [e4]
        exact .nil
    · cases q
  · cases q
def refB (K : PySem.W.Frag) (x k : Str) : Bool := match PySem.W.nsIn K (ga K x) k with
  | some (some (.ref _)) => true
  | _ => false
theorem refB_ok {K : PySem.W.Frag} {x k : Str} (q : refB K x k = true) : ∃ a, PySem.W.nsIn K (ga K x) k = some (some (.ref a)) := by
  unfold refB at q
  split at q
  · rename_i a e
    exact ⟨a, e⟩
  · cases q
end XT

set_option Elab.async false
set_option linter.all false
set_option maxRecDepth 100000
set_option maxHeartbeats 4000000
/-! Tests of a head: entries of a table that are tuples of texts, or texts. -/
namespace XT
open PySem PySem.Spec PyProof.Rows L2 He XH
def strsB : List Value → List Str → Bool
  | [], [] => true
  | .str z _ :: r, y :: s => z == y && strsB r s
  | _, _ => false
theorem strsB_ok : ∀ {vs : List Value} {zs : List Str}, strsB vs zs = true → Vals (zs.map V.str) vs
  | [], [], _ => .nil
  | .str z t :: r, y :: s, h => by
    obtain ⟨h1, h2⟩ := ba (show (z == y && strsB r s) = true from h)
    rw [beq_iff_eq.mp h1]
    exact .cons ⟨t, rfl⟩ (strsB_ok h2)
def entB (K : PySem.W.Frag) (x k : Str) (zs : List Str) : Bool := match PySem.W.nsIn K (ga K x) k with
  | some (some (.ref a)) => (match K.lookup a with
    | some ⟨.type c, _, .seq its _, _⟩ => c == "tuple" && (decide (its.toList.length ≤ 1000) && strsB its.toList zs)
    | _ => false)
  | _ => false
theorem entB_ok {K : PySem.W.Frag} {x k : Str} {zs : List Str} (q : entB K x k zs = true) : ∃ a, PySem.W.nsIn K (ga K x) k = some (some (.ref a)) ∧ ∀ H, SqT K H a (zs.map V.str) := by
  unfold entB at q
  split at q
  · rename_i a e
    split at q
    · rename_i c dd its n sl e2
      obtain ⟨q1, q2⟩ := ba q
      obtain ⟨q2, q3⟩ := ba q2
      have e3 := beq_iff_eq.mp q1
      subst e3
      refine ⟨a, e, fun H => .inr ⟨_, its, n, e2, rfl, rfl, ?_, strsB_ok q3⟩⟩
      rw [← Array.length_toList]
      exact Nat.le_trans (of_decide_eq_true q2) (by decide)
    · cases q
  · cases q
def sndB (K : PySem.W.Frag) (x k z : Str) : Bool := match PySem.W.nsIn K (ga K x) k with
  | some (some (.str y _)) => y == z
  | _ => false
theorem sndB_ok {K : PySem.W.Frag} {x k z : Str} (q : sndB K x k z = true) : ∃ t, PySem.W.nsIn K (ga K x) k = some (some (.str z t)) := by
  unfold sndB at q
  split at q
  · rename_i y t e
    rw [← beq_iff_eq.mp q]
    exact ⟨t, e⟩
  · cases q
def emptyAtB (K : PySem.W.Frag) (a : Addr) : Bool := match K.lookup a with
  | some ⟨.type c, _, .seq its _, _⟩ => c == "tuple" && its.toList.isEmpty
  | _ => false
theorem emptyAtB_ok {K : PySem.W.Frag} {a : Addr} (q : emptyAtB K a = true) (H : Hp) : SqT K H a [] := by
  unfold emptyAtB at q
  split at q
  · rename_i c dd its n sl e2
    obtain ⟨q1, q2⟩ := ba q
    have e3 := beq_iff_eq.mp q1
    subst e3
    have e4 : its.toList = [] := List.isEmpty_iff.mp q2
    refine .inr ⟨_, its, n, e2, rfl, rfl, ?_, ?_⟩
    · rw [← Array.length_toList, e4]
      exact Nat.zero_le _
    · rw [e4]
      exact .nil
  · cases q
end XT

set_option Elab.async false
set_option linter.all false
set_option maxRecDepth 100000
set_option maxHeartbeats 8000000

/-! What the laws over drawn codes share. -/
namespace TR
open PySem PySem.Spec PyProof.Rows L2 He XH XV XR PEN Evl

def alphabet : Str := "abcdefghijklmnopqrstuvwxyz"
theorem alpha_at : ∀ j : Fin 26, alphabet.cps.toList[j.1]? = some (97 + j.1) := by decide +kernel
theorem alpha_pick {r : Int} (h : 0 ≤ r ∧ r < 26) : ∃ c : Nat, atI alphabet.cps.toList r = some c ∧ 97 ≤ c ∧ c ≤ 122 := by
  have e : ((r.toNat : Nat) : Int) = r := by omega
  have z := atI_nat (xs := alphabet.cps.toList) (j := r.toNat) (alpha_at ⟨r.toNat, by omega⟩)
  rw [e] at z
  exact ⟨97 + r.toNat, z, by omega, by omega⟩
def sign (c : Nat) : Str := ⟨#[c]⟩
theorem joinL_signs : ∀ cs : List Nat, TL.joinL [] (cs.map fun c => [c]) = cs
  | [] => rfl
  | [c] => rfl
  | c :: d :: r => by
    show [c] ++ ([] ++ TL.joinL [] ((d :: r).map fun c => [c])) = c :: d :: r
    rw [joinL_signs (d :: r)]
    rfl
theorem join_signs (cs : List Nat) : (Txt.join ("" : Str) (cs.map sign)).cps.toList = cs := by
  have z : TL.tl (Txt.join ("" : Str) (cs.map sign)) = TL.joinL (TL.tl ("" : Str)) ((cs.map sign).map TL.tl) := by
    rw [TL.join_eq, TL.tl_join]
  rw [List.map_map] at z
  have e : (TL.tl ∘ sign) = fun c => [c] := rfl
  rw [e] at z
  have e2 : TL.tl ("" : Str) = [] := by decide +kernel
  rw [e2, joinL_signs] at z
  exact z
theorem len_codes (z : Str) : z.length = z.cps.toList.length := by
  show z.cps.size = _
  simp
theorem sum_signs : ∀ cs : List Nat, ((cs.map sign).map (·.length)).sum = cs.length
  | [] => rfl
  | c :: r => by
    show 1 + ((r.map sign).map (·.length)).sum = r.length + 1
    rw [sum_signs r]
    omega


/-! ### comprehensions over a range from lo -/
theorem el_lcR2 {σ : L2.St} {H : Hp} {t : TT} {te : TE} {ta : TA} {j : Nat} {vs : List Nat} {lo n : Int} (f : Nat → Bool) (v : Nat → V) (h : EvA ta σ H [.int lo, .int n]) (hn : 0 ≤ lo ∧ lo ≤ 40000 ∧ lo ≤ n ∧ n ≤ 40000) (hw : ∀ x, wipe ((wipe σ vs).set j (some x)) vs = wipe σ vs)
    (ht : ∀ (i : Nat) H1, Ex H H1 → lo + (i : Int) < n → EvT t ((wipe σ vs).set j (some (.int (lo + (i : Int))))) H1 (f i)) (he : ∀ (i : Nat) H1, Ex H H1 → lo + (i : Int) < n → f i = true → Ev te ((wipe σ vs).set j (some (.int (lo + (i : Int))))) H1 (v i)) :
    EvL (tLc (iRng2 ta) (gName j) t te vs) σ H (given (n - lo).toNat f v) := fun H0 e Q q => h H0 e _ fun H1 e1 => ⟨lo, n, rfl, ⟨by omega, by omega, by omega, by omega⟩, fun Dl hD =>
  lc_range (lo := lo) (n := (n - lo).toNat) (Cw H1 f v Dl) ⟨hD, Ex.new hD, upd_same⟩ (fun i H' hi pw => ⟨hw _, cw_turn pw (by omega) (ht i H1 (e.trans e1) (by omega)) (fun hf => he i H1 (e.trans e1) (by omega) hf)⟩)
    (fun H' pw => q Dl H' (fresh_back e1 pw.1) (e1.trans pw.2.1) pw.2.2)⟩
/-! ### texts of one sign -/
theorem fold_codes (a : Array Nat) : ∀ (n : Nat) (acc : Array Nat), ((List.replicate n a).foldl (· ++ ·) acc).toList = acc.toList ++ (List.replicate n a.toList).flatten
  | 0, acc => by simp
  | n + 1, acc => by
    rw [List.replicate_succ, List.foldl_cons, fold_codes a n, Array.toList_append, List.replicate_succ, List.flatten_cons, List.append_assoc]
theorem repS_codes (z : Str) (n : Nat) : (repS z n).cps.toList = (List.replicate n z.cps.toList).flatten := by
  show ((List.replicate n z.cps).foldl (· ++ ·) #[]).toList = _
  rw [fold_codes]
  rfl
def aS (n : Nat) : Str := repS ("a" : Str) n
theorem aS_len (n : Nat) : (aS n).length = n := by
  have z := repS_len ("a" : Str) n
  have e : (("a" : Str)).length = 1 := by decide +kernel
  rw [e, Nat.mul_one] at z
  exact z
theorem aS_let (n : Nat) : Let (aS n) := by
  intro c hc
  have e : (("a" : Str)).cps.toList = [97] := by decide +kernel
  have z : c ∈ (List.replicate n [97]).flatten := by
    have k := repS_codes ("a" : Str) n
    rw [e] at k
    rw [← k]
    exact hc
  obtain ⟨l, hl, hc2⟩ := List.mem_flatten.mp z
  rw [(List.mem_replicate.mp hl).2] at hc2
  rw [List.mem_singleton.mp hc2]
  exact ⟨by decide, by decide⟩
theorem inV_strs (z : Str) : ∀ ys : List Str, inV (.str z) (ys.map V.str) = decide (z ∈ ys)
  | [] => by simp [inV]
  | y :: r => by
    have ih := inV_strs z r
    show (eqV (.str y) (.str z) || inV (.str z) (r.map V.str)) = decide (z ∈ y :: r)
    rw [ih]
    show ((y == z) || decide (z ∈ r)) = decide (z ∈ y :: r)
    by_cases h : z = y
    · subst h
      simp
    · have h' : ¬ y = z := fun e => h e.symm
      simp [h, h']
theorem flat_strs (ys : List Str) : (ys.map V.str).all flatV = true := by
  rw [List.all_map]
  exact List.all_eq_true.mpr fun _ _ => rfl
theorem crowd : ∀ {cs ys : List Str}, cs.Nodup → (∀ c ∈ cs, c ∈ ys) → cs.length ≤ ys.length
  | [], _, _, _ => Nat.zero_le _
  | c :: r, ys, nd, h => by
    obtain ⟨n1, n2⟩ := List.nodup_cons.mp nd
    have hc := h c (List.mem_cons_self ..)
    have k : r.length ≤ (ys.erase c).length := crowd n2 fun d hd => (List.mem_erase_of_ne (fun e => n1 (by rw [← e]; exact hd))).mpr (h d (List.mem_cons_of_mem _ hd))
    rw [List.length_erase_of_mem hc] at k
    have hl : 0 < ys.length := List.length_pos_of_mem hc
    rw [List.length_cons]
    omega
def cands : List Str := (List.range 12).map fun i => aS (1 + i)
theorem cands_nodup : cands.Nodup := by
  have z : ((List.range 12).map fun i => (aS (1 + i)).length).Nodup := by
    have e : ((List.range 12).map fun i => (aS (1 + i)).length) = (List.range 12).map fun i => 1 + i := List.map_congr_left fun i _ => aS_len _
    rw [e]
    decide
  have z2 : (cands.map (·.length)).Nodup := by
    unfold cands
    rw [List.map_map]
    exact z
  exact List.Pairwise.of_map (f := fun z : Str => z.length) (fun a b h e => h (by rw [e])) z2
theorem spare_first {ys : List Str} (hl : ys.length ≤ 10) : ∃ z, (given 12 (fun i => !decide (aS (1 + i) ∈ ys)) (fun i => V.str (aS (1 + i))))[0]? = some (.str z) ∧ z ∉ ys ∧ Let z ∧ 1 ≤ z.length ∧ z.length ≤ 12 := by
  have ne : ((List.range 12).filter fun i => !decide (aS (1 + i) ∈ ys)) ≠ [] := by
    intro e
    have all : ∀ c ∈ cands, c ∈ ys := by
      intro c hc
      obtain ⟨i, hi, rfl⟩ := List.mem_map.mp hc
      by_cases h : aS (1 + i) ∈ ys
      · exact h
      · have m : i ∈ (List.range 12).filter fun i => !decide (aS (1 + i) ∈ ys) := List.mem_filter.mpr ⟨hi, by simp [h]⟩
        rw [e] at m
        cases m
    have k := crowd cands_nodup all
    have k2 : cands.length = 12 := by
      unfold cands
      rw [List.length_map, List.length_range]
    omega
  unfold given
  cases hf : (List.range 12).filter fun i => !decide (aS (1 + i) ∈ ys) with
  | nil => exact absurd hf ne
  | cons i r =>
    have m : i ∈ (List.range 12).filter fun i => !decide (aS (1 + i) ∈ ys) := by
      rw [hf]
      exact List.mem_cons_self ..
    obtain ⟨m1, m2⟩ := List.mem_filter.mp m
    have m3 := List.mem_range.mp m1
    exact ⟨aS (1 + i), rfl, by simpa using m2, aS_let _, by rw [aS_len]; omega, by rw [aS_len]; omega⟩
theorem two_c {k : Bool} {u v : V} {σ : L2.St} {H : Hp} {Q : VK} (h : ∀ x, x = u ∨ x = v → Q x H) : if k = true then tC u σ H Q else tC v σ H Q := by
  cases k with
  | true => exact h u (.inl rfl)
  | false => exact h v (.inr rfl)

theorem given_all_at {j : Nat} {x : V} {v : Nat → V} {n : Nat} (h : (given n (fun _ => true) v)[j]? = some x) : x = v j := by
  unfold given at h
  rw [List.filter_eq_self.mpr (fun _ _ => rfl), List.getElem?_map] at h
  cases q : (List.range n)[j]? with
  | none =>
    rw [q] at h
    cases h
  | some k =>
    rw [q] at h
    obtain ⟨hk, ek⟩ := List.getElem?_eq_some_iff.mp q
    rw [List.getElem_range] at ek
    subst ek
    exact (Option.some.inj h).symm

theorem pe_nv {X : Cx} {e : Expr} : PE X e (fun _ _ _ => False) := ⟨fun _ _ _ _ _ _ h => h.elim⟩
theorem pt_nv {X : Cx} {e : Expr} : PT X e (fun _ _ _ => False) := ⟨fun _ _ _ _ _ _ h => h.elim⟩
theorem pg_nv {X : Cx} {e : Expr} : PG X e (fun _ _ _ _ => False) := ⟨fun _ _ _ _ _ _ _ _ _ h => h.elim⟩
theorem op_in_nil {X : Cx} : OpR X (compareOp .In) (fun x y H Q => ∃ p, y = .ref p ∧ SqT X.K H p [] ∧ Q (.bl false) H) := by
  intro pins s σ H x y v u Q I rx ry h
  obtain ⟨p, rfl, hq, q⟩ := h
  cases ry
  obtain ⟨its, r, pl, hz⟩ := I.tuple hq
  cases r
  refine SeqAt.in_tupleAt (fun _ => false) pl (fun w hw => by simp at hw) ?_
  have e : (([] : List Value).toArray.any fun x => false) = false := by simp
  rw [e]
  exact ⟨.bl false, H, I, rfl, q⟩

/-! ### names -/
def goodN (z : Str) : Bool := decide (1 ≤ z.length) && (decide (z.length ≤ 12) && z.cps.toList.all fun c => decide (c ∈ alphabet.cps.toList))
def spIsName : Sp := fun vs H Q _ => ∃ z : Str, vs = [.str z] ∧ z.length ≤ 1000 ∧ ∀ H', Ex H H' → Q (.bl (goodN z)) H'

theorem ev_chain {ta tb tc : TE} {σ : L2.St} {H : Hp} {a b c : Int} (ha : Ev ta σ H (.int a)) (hb : Ev tb σ H (.int b)) (hc : Ev tc σ H (.int c)) : Ev (tChain (rI0 fun i j => .bl (decide (i ≤ j))) (rI0 fun i j => .bl (decide (i ≤ j))) ta tb tc) σ H (.bl (decide (a ≤ b) && decide (b ≤ c))) := fun H1 e Q q =>
  ha H1 e _ fun H2 e2 => hb H2 (e.trans e2) _ fun H3 e3 => ⟨a, b, rfl, rfl, decide (a ≤ b), rfl, by
    cases h : decide (a ≤ b) with
    | false =>
      rw [h] at q
      exact ite_ff (q H3 (e2.trans e3))
    | true =>
      rw [h, Bool.true_and] at q
      exact ite_tt (hc H3 ((e.trans e2).trans e3) _ fun H4 e4 => ⟨b, c, rfl, rfl, q H4 ((e2.trans e3).trans e4)⟩)⟩
theorem isi_str {K : PySem.W.Frag} {H : Hp} {z : Str} : RC (rIsi K) [.str z, .ty "str"] H (.bl true) := fun H1 e Q q => ⟨.str z, .ty "str", .type "str", .type "str", true, rfl, .ty _, .base (.str z), kit_ty (by decide +kernel), q H1 (Ex.refl _)⟩
theorem ev_isiT {K : PySem.W.Frag} {ta : TE} {σ : L2.St} {H : Hp} {x : V} {t : Value} {b : Bool} (ha : Ev ta σ H x) (hT : ∀ H1, Ex H H1 → TyX K H1 x t) (hk : PySem.W.kitAny K t [.type "list", .type "tuple"] = some b) :
    Ev (tCB (rIsiT K) (tCons ta (tCons (tTup (tCons (tC (.ty "list")) (tCons (tC (.ty "tuple")) tNil))) tNil))) σ H (.bl b) := fun H1 e Q q =>
  ha H1 e _ fun H2 e2 => (eu_tup (ea_cons ev_c (ea_cons ev_c ea_nil)) (by decide)) H2 (e.trans e2) _ fun p H3 n e3 h3 => ⟨x, p, _, t, [.type "list", .type "tuple"], b, rfl, h3, .cons (.ty _) (.cons (.ty _) .nil), hT H3 ((e.trans e2).trans e3), hk, q H3 (e2.trans e3)⟩
theorem kit_no {K : PySem.W.Frag} : PySem.W.kitAny K (.type "str") [.type "list", .type "tuple"] = some false := kitAny_cons (b := false) (kit_ty (by decide +kernel)) (fun _ => kitAny_cons (b := false) (kit_ty (by decide +kernel)) (fun _ => kitAny_nil) (fun z => nomatch z)) (fun z => nomatch z)
theorem kit_l {K : PySem.W.Frag} : PySem.W.kitAny K (.type "list") [.type "list", .type "tuple"] = some true := kitAny_cons (b := true) (kit_ty (by decide +kernel)) (fun z => nomatch z) (fun _ => rfl)
theorem kit_t {K : PySem.W.Frag} : PySem.W.kitAny K (.type "tuple") [.type "list", .type "tuple"] = some true := kitAny_cons (b := false) (kit_ty (by decide +kernel)) (fun _ => kitAny_cons (b := true) (kit_ty (by decide +kernel)) (fun z => nomatch z) (fun _ => rfl)) (fun z => nomatch z)
theorem take_more {α : Type} {l : List α} {i : Nat} {c : α} (h : l[i]? = some c) : l.take (i + 1) = l.take i ++ [c] := by
  rw [List.take_add_one, h]
  rfl

mutual
theorem dpM {K : PySem.W.Frag} {H H' : Hp} (e : Ex H H') : ∀ (d : PyData) (v : V), Dp K H v d → Dp K H' v d
  | .none, _, h => by
    cases h
    exact .non
  | .bool b, _, h => by
    cases h
    exact .bl b
  | .int i, _, h => by
    cases h
    exact .int i
  | .str x, _, h => by
    cases h
    exact .str x
  | .list ds, _, h => by
    cases h with
    | lst h1 h2 => exact .lst (ex_l e h1) (dpMs e ds _ h2)
  | .tuple ds, _, h => by
    cases h with
    | tup h1 h2 => exact .tup (ex_t e h1) (dpMs e ds _ h2)
  | .dict _, _, h => by cases h
theorem dpMs {K : PySem.W.Frag} {H H' : Hp} (e : Ex H H') : ∀ (ds : List PyData) (vs : List V), DpAll K H vs ds → DpAll K H' vs ds
  | [], _, h => by
    cases h
    exact .nil
  | d :: ds, _, h => by
    cases h with
    | cons h1 h2 => exact .cons (dpM e d _ h1) (dpMs e ds _ h2)
end

def legal (zs : List Str) : Prop := ∀ z ∈ zs, PyData.strOk z = true
def Tn (z : Str) : Prop := z.length ≤ 1000 ∧ PyData.strOk z = true
theorem let_ok {z : Str} (h : Let z) : PyData.strOk z = true := by
  unfold PyData.strOk
  rw [Array.all_eq_true]
  intro i hi
  have k := h z.cps[i] (by simp)
  exact decide_eq_true (by omega)
theorem lay_strs : ∀ zs : List Str, legal zs → PyData.canLayAll0 (zs.map PyData.str) = true
  | [], _ => by simp [PyData.canLayAll0]
  | z :: r, h => by
    have k := lay_strs r fun y hy => h y (List.mem_cons_of_mem _ hy)
    have k2 := h z List.mem_cons_self
    simp [PyData.canLayAll0, PyData.canLay0, k, k2]
theorem dep_strs : ∀ zs : List Str, PyData.depthAll (zs.map PyData.str) ≤ 1
  | [] => by simp [PyData.depthAll]
  | z :: r => by
    have k := dep_strs r
    simp only [List.map_cons, PyData.depthAll, PyData.depth]
    omega
theorem dp_strs {K : PySem.W.Frag} {H : Hp} : ∀ zs : List Str, DpAll K H (zs.map V.str) (zs.map PyData.str)
  | [] => .nil
  | z :: r => .cons (.str z) (dp_strs r)
theorem shp_list (zs : List Str) (h : legal zs) : SeqAt.shaped (.list (zs.map PyData.str)) = true := by
  have k := dep_strs zs
  unfold SeqAt.shaped
  rw [Bool.and_eq_true]
  refine ⟨by simp [PyData.canLay0, lay_strs zs h], decide_eq_true ?_⟩
  simp only [PyData.depth]
  omega

theorem cut_take (xs : List V) (i : Nat) : cutV xs none (some (i : Int)) = xs.take i := by
  unfold cutV
  rw [HT.sIx_none, HT.sIx_nat, List.drop_zero, Nat.sub_zero]
  rcases Nat.le_total i xs.length with h | h
  · rw [Nat.min_eq_left h]
  · rw [Nat.min_eq_right h, List.take_of_length_le (Nat.le_refl _), List.take_of_length_le h]

theorem cut_drop (xs : List V) (i : Nat) : cutV xs (some (i : Int)) none = xs.drop i := by
  unfold cutV
  rw [HT.sIx_none, HT.sIx_nat]
  rcases Nat.le_total i xs.length with h | h
  · rw [Nat.min_eq_left h, List.take_of_length_le (by rw [List.length_drop]; exact Nat.le_refl _)]
  · rw [Nat.min_eq_right h, Nat.sub_self, List.take_zero, List.drop_eq_nil_of_le h]

theorem strs_off {p l b : Addr} {n : Nat} {H : Hp} {zs : List Str} (h : Pen p l n H) (k : H b = some (.lst (zs.map V.str))) : b ≠ p ∧ b ≠ l := by
  obtain ⟨c, ns, e1, e2, e3, _⟩ := h
  refine ⟨fun e => ?_, fun e => ?_⟩
  · rw [e, e1] at k
    cases zs with
    | nil => cases HO.lst.inj (Option.some.inj k)
    | cons z r =>
      have y := HO.lst.inj (Option.some.inj k)
      rw [List.map_cons] at y
      cases (List.cons.inj y).1
  · rw [e, e2] at k
    cases ns with
    | nil => exact e3 rfl
    | cons n r =>
      cases zs with
      | nil => cases HO.lst.inj (Option.some.inj k)
      | cons z r2 =>
        have y := HO.lst.inj (Option.some.inj k)
        rw [List.map_cons, List.map_cons] at y
        cases (List.cons.inj y).1
theorem tup_off {p l b : Addr} {n : Nat} {H : Hp} {xs : List V} (h : Pen p l n H) (k : H b = some (.tup xs)) : b ≠ p ∧ b ≠ l := by
  obtain ⟨c, ns, e1, e2, e3, _⟩ := h
  exact ⟨(fun e => by rw [e, e1] at k; cases k), (fun e => by rw [e, e2] at k; cases k)⟩

theorem nat_of {r m : Int} (h : 0 ≤ r ∧ r < m) : ∃ n : Nat, r = (n : Int) ∧ (n : Int) < m := ⟨r.toNat, by omega, by omega⟩

def Xa (a : Addr) (H H' : Hp) : Prop := ∀ c o, c ≠ a → H c = some o → H' c = some o
theorem Xa.of {a : Addr} {H H' : Hp} (e : Ex H H') : Xa a H H' := fun c o _ h => e c o h
theorem Xa.trans {a : Addr} {H H1 H2 : Hp} (p : Xa a H H1) (q : Xa a H1 H2) : Xa a H H2 := fun c o n h => q c o n (p c o n h)
theorem Xa.upd {a : Addr} {H : Hp} {o : HO} : Xa a H (upd H a o) := fun c u n h => (upd_ne n).trans h
theorem Xa.new {a : Addr} {H0 H H' : Hp} (e : Ex H0 H) (n : H0 a = none) (k : Xa a H H') : Ex H0 H' := fun c o h => k c o (ne_of_none h n) (e c o h)
theorem putF_tail {f g : Str} {v x : V} {r : List (Str × V)} (h : ¬ g = f) : putF f v ((g, x) :: r) = (g, x) :: putF f v r := if_neg h

theorem pe_fldc {X : Cx} {K : PySem.W.Frag} {e : Expr} {ta : TE} {f : Str} {pos : Pos} (hK : X.K = K) (he : PE X e ta) (hb : attributeBase e f X.env (eval e X.env) = eval e X.env) : PE X (.Attribute e f pos) (tFld K ta f) := hK ▸ pe_fld he hb
/-- a field of an instance, as it is read -/
theorem ev_fld {K : PySem.W.Frag} {ta : TE} {σ : L2.St} {H : Hp} {a C dx : Addr} {fs : List (Str × V)} {f : Str} {v : V} (h : Ev ta σ H (.ref a)) (ha : H a = some (.ins C dx fs)) (c : Cls K C) (n : NoAttr K C f) (l : fs.lookup f = some v) : Ev (tFld K ta f) σ H v := fun H1 e Q q =>
  h H1 e _ fun H2 e2 => ⟨a, C, dx, fs, v, rfl, e2 _ _ (e _ _ ha), c, n, l, q H2 e2⟩

theorem q_cb {te : TE} {r : List V → Hp → VK → Prop} {i : Nat} {tz : TS} {D : Ends} {σ : L2.St} {H : Hp} (h : te σ H fun x H1 => r [x] H1 fun v H2 => tz D (σ.set i (some v)) H2) : tSeq (tAsg (tCB r (tCons te tNil)) (gName i)) tz D σ H := h


/-! ### trees of texts -/
mutual
inductive Tt : Nat → PyData → Prop
  | str {n : Nat} {z : Str} (h : z.length ≤ 1000) : Tt n (.str z)
  | int {n : Nat} (i : Int) : Tt n (.int i)
  | tup {n : Nat} {ds : List PyData} (l : ds.length ≤ 100) (h : Tts n ds) : Tt (n + 1) (.tuple ds)
inductive Tts : Nat → List PyData → Prop
  | nil {n : Nat} : Tts n []
  | cons {n : Nat} {d : PyData} {ds : List PyData} (h : Tt n d) (r : Tts n ds) : Tts n (d :: ds)
end
theorem Tts.at {n : Nat} : ∀ {ds : List PyData}, Tts n ds → ∀ d ∈ ds, Tt n d
  | _, .cons h r, d, hd => by
    rcases List.mem_cons.mp hd with e | k
    · rw [e]; exact h
    · exact r.at d k
theorem Tts.of {n : Nat} : ∀ {ds : List PyData}, (∀ d ∈ ds, Tt n d) → Tts n ds
  | [], _ => .nil
  | d :: r, h => .cons (h d List.mem_cons_self) (Tts.of fun x hx => h x (List.mem_cons_of_mem _ hx))
mutual
theorem Tt.up : ∀ {n : Nat} {d : PyData}, Tt n d → Tt (n + 1) d
  | _, _, .str h => .str h
  | _, _, .int i => .int i
  | _, _, .tup l h => .tup l h.up
theorem Tts.up : ∀ {n : Nat} {ds : List PyData}, Tts n ds → Tts (n + 1) ds
  | _, _, .nil => .nil
  | _, _, .cons h r => .cons h.up r.up
end
theorem Tts.app {n : Nat} : ∀ {ds es : List PyData}, Tts n ds → Tts n es → Tts n (ds ++ es)
  | _, _, .nil, h => h
  | _, _, .cons h r, k => .cons h (r.app k)
theorem dpAll_len {K : PySem.W.Frag} {H : Hp} : ∀ {vs : List V} {ds : List PyData}, DpAll K H vs ds → vs.length = ds.length
  | _, _, .nil => rfl
  | _, _, .cons _ r => by rw [List.length_cons, List.length_cons, dpAll_len r]
theorem dpAll_at {K : PySem.W.Frag} {H : Hp} : ∀ {vs : List V} {ds : List PyData}, DpAll K H vs ds → ∀ {i : Nat} {v : V}, vs[i]? = some v → ∃ d, ds[i]? = some d ∧ Dp K H v d
  | _, _, .nil, i, v, h => by cases h
  | _, _, .cons (d := d) h r, 0, v, e => by
    cases e
    exact ⟨d, rfl, h⟩
  | _, _, .cons h r, i + 1, v, e => dpAll_at r (i := i) e
theorem dpAll_add {K : PySem.W.Frag} {H : Hp} {v : V} {d : PyData} : ∀ {vs : List V} {ds : List PyData}, DpAll K H vs ds → Dp K H v d → DpAll K H (vs ++ [v]) (ds ++ [d])
  | _, _, .nil, h => .cons h .nil
  | _, _, .cons a r, h => .cons a (dpAll_add r h)
theorem dpAll_app {K : PySem.W.Frag} {H : Hp} : ∀ {vs ws : List V} {ds es : List PyData}, DpAll K H vs ds → DpAll K H ws es → DpAll K H (vs ++ ws) (ds ++ es)
  | _, _, _, _, .nil, h => h
  | _, _, _, _, .cons a r, h => .cons a (dpAll_app r h)
/-- a write to a list leaves trees of texts as they are -/
theorem sqt_off {K : PySem.W.Frag} {H : Hp} {a D : Addr} {xs ys : List V} {o : HO} (h : SqT K H a xs) (hD : H D = some (.lst ys)) : SqT K (upd H D o) a xs := by
  rcases h with h | h
  · refine .inl ?_
    rcases h with h | ⟨ob, h⟩
    · exact .inl ((upd_ne (fun e => by rw [e, hD] at h; cases h)).trans h)
    · exact .inr ⟨ob, (upd_ne (fun e => by rw [e, hD] at h; cases h)).trans h⟩
  · exact .inr h
mutual
theorem dp_off {K : PySem.W.Frag} {H : Hp} {D : Addr} {ys : List V} {o : HO} (hD : H D = some (.lst ys)) : ∀ {n : Nat} {d : PyData} {v : V}, Tt n d → Dp K H v d → Dp K (upd H D o) v d
  | _, _, _, .str _, h => by
    cases h
    exact .str _
  | _, _, _, .int _, h => by
    cases h
    exact .int _
  | _, _, _, .tup _ hs, h => by
    cases h with
    | tup h1 h2 => exact .tup (sqt_off h1 hD) (dps_off hD hs h2)
theorem dps_off {K : PySem.W.Frag} {H : Hp} {D : Addr} {ys : List V} {o : HO} (hD : H D = some (.lst ys)) : ∀ {n : Nat} {ds : List PyData} {vs : List V}, Tts n ds → DpAll K H vs ds → DpAll K (upd H D o) vs ds
  | _, _, _, .nil, h => by
    cases h
    exact .nil
  | _, _, _, .cons h1 r1, h => by
    cases h with
    | cons h2 r2 => exact .cons (dp_off hD h1 h2) (dps_off hD r1 r2)
end
theorem tyx_t {K : PySem.W.Frag} {H : Hp} {a : Addr} {xs : List V} (h : SqT K H a xs) : TyX K H (.ref a) (.type "tuple") := by
  rcases h with h | ⟨o, its, n, hk, hc, _⟩
  · rcases h with h | ⟨ob, h⟩
    · exact .base (.tup h)
    · exact .fTuple h
  · exact .kTuple hk hc
theorem tyx_l {K : PySem.W.Frag} {H : Hp} {a : Addr} {xs : List V} (h : SqL K H a xs) : TyX K H (.ref a) (.type "list") := by
  rcases h with h | ⟨o, its, n, hk, hc, _⟩
  · rcases h with h | ⟨ob, h⟩
    · exact .base (.lst h)
    · exact .base (.frz h)
  · exact .kList hk hc
theorem op_catT0 {X : Cx} : OpR X (binaryOp .Add) (fun x y H Q => ∃ a b ys, x = .ref a ∧ y = .ref b ∧ SqT X.K H a [] ∧ SqT X.K H b ys ∧ Q (.ref b) H) := by
  intro pins s σ H x y v u Q I rx ry h
  obtain ⟨a, b, ys, rfl, rfl, ha, hb, q⟩ := h
  cases rx
  cases ry
  obtain ⟨its, r1, p1, _⟩ := I.tuple ha
  obtain ⟨its2, r2, p2, _⟩ := I.tuple hb
  cases r1
  obtain ⟨⟨cls, dd, data, sl⟩, ho, hc, n, hd⟩ := id p1
  obtain ⟨⟨cls2, dd2, data2, sl2⟩, ho2, hc2, n2, hd2⟩ := id p2
  simp only at hc hd hc2 hd2
  subst hc hd hc2 hd2
  exact concat_meets ⟨_, ho, rfl⟩ ⟨_, ho2, rfl⟩ noFill_tuple_add seq_tuple_add PySem.F.slot_tuple_add PySem.F.entry_tuple_add (PySem.F.args_tuple_add_2 _ _) (tuple_addW0 a b _ its2.toArray n n2 dd dd2 sl sl2 (by simp)) ⟨ho, ho2, ⟨.ref b, H, I, rfl, q⟩⟩
theorem units65 {k : Nat} {A : Around} (r : Room k A) : A.units + 65 < cLine := by
  have z := r.un
  omega
theorem go_test {t : TT} {σ : L2.St} {H : Hp} {b : Bool} {Q : Bool → Hp → Prop} (h : EvT t σ H b) (k : ∀ H2, Ex H H2 → Q b H2) : t σ H Q := h H (Ex.refl H) Q k
theorem pg_tupc {X : Cx} {K : PySem.W.Frag} {es : List Expr} {k : Nat} {t : TGs} {n : Nat} {pos : Pos} (hK : X.K = K) (hc : X.calm = true) (h : PGs X es t) (hn : (assignEach es X.env).length = n := by rfl) (hst : (assignEach es X.env).findIdx? (·.1) = none := by rfl) : PG X (.Tuple es k pos) (gTup K n t) := hK ▸ pg_tup hc h hn hst
theorem walk_zipT {K : PySem.W.Frag} {a b : Addr} {xs ys : List V} {n : Nat} (hn : n = min xs.length ys.length) : Walk (RZ.ItzT K a b) n (fun H => SqT K H a xs ∧ SqT K H b ys) (YPair (fun i => xs[i]?) (fun i => ys[i]?)) := by
  subst hn
  refine ⟨fun i _ hi q => ?_, fun _ q => ⟨xs, ys, q.1, q.2, by omega⟩, fun i H v H' _ q y => ?_⟩
  · have k1 : i < xs.length := by omega
    have k2 : i < ys.length := by omega
    exact ⟨xs, ys, xs[i], ys[i], q.1, q.2, List.getElem?_eq_getElem k1, List.getElem?_eq_getElem k2⟩
  · obtain ⟨T, x, z, e1, e2, e3, e4, e5⟩ := y
    exact ⟨T, x, z, e1, e2, e3, e4 xs q.1, e5 ys q.2⟩
/-! ### statements -/
def ENT : List (Str × List Str) := [("put", ["cell"]), ("blank", ["cell"]), ("give", ["cell"]), ("push", ["row"]), ("pop", ["row"]), ("cut", ["row"]), ("answer", ["how"]), ("deeper", ["function"]), ("stop", ["end"]), ("fault", []), ("may", []), ("again", []), ("out", []),
  ("either", ["part", "part"]), ("tries", ["part"]), ("told", ["part", "part"]), ("look", ["cell", "part", "part"]), ("guard", ["part", "part"]), ("lastly", ["part", "part"])]
def isP : PyData → Bool
  | .tuple _ => true
  | _ => false
def argsOf : PyData → List PyData
  | .tuple (_ :: r) => r
  | _ => []
def wordOf : PyData → PyData
  | .tuple (w :: _) => w
  | _ => .none
def bodyOf : PyData → List PyData
  | .tuple ds => ds
  | _ => []
def parts (d : PyData) : List PyData := (argsOf d).filter isP
/-- a statement by its shape: a known word, as many entries as it has, parts where it has parts -/
def Sh (d : PyData) : Prop := ∃ w ks args, d = .tuple (.str w :: args) ∧ (w, ks) ∈ ENT ∧ args.length = ks.length ∧ ∀ (i : Nat) (k : Str) (x : PyData), ks[i]? = some k → args[i]? = some x → isP x = decide (k = "part")
def nums : Nat → List PyData → List PyData → List (PyData × List PyData)
  | 0, _, _ => []
  | n + 1, ss, ar => ss.flatMap fun s => (s, ar) :: ((parts s).zipIdx.flatMap fun p => nums n (bodyOf p.1) (ar ++ [.tuple [wordOf s, .int (p.2 : Nat)]]))
/-- a body: short, of such statements, of such bodies -/
def Bod : Nat → List PyData → Prop
  | 0, ss => ss = []
  | n + 1, ss => ss.length ≤ 14 ∧ ∀ s ∈ ss, Sh s ∧ ∀ p ∈ parts s, ∃ ds, p = .tuple ds ∧ Bod n ds
/-! ### the walkers' promises over trees -/
def spKd (K : PySem.W.Frag) : Sp := fun vs H Q _ => ∃ t w rest ks, vs = [.ref t] ∧ SqT K H t (.str w :: rest) ∧ (w, ks) ∈ ENT ∧ ∀ a H', (∀ H, SqT K H a (ks.map V.str)) → Ex H H' → Q (.ref a) H'
def spPt (K : PySem.W.Frag) : Sp := fun vs H Q _ => ∃ v d n, vs = [v] ∧ Dp K H v d ∧ Tt n d ∧ Sh d ∧ ∀ q ys H', H q = none → Ex H H' → H' q = some (.lst ys) → DpAll K H' ys (parts d) → Q (.ref q) H'

def spFr (K : PySem.W.Frag) (n : Nat) : Sp := fun vs H Q _ => ∃ v d, vs = [v] ∧ Dp K H v d ∧ Tt n d ∧ ∀ v' H', Ex H H' → Dp K H' v' d → Q v' H'

end TR
set_option Elab.async false
set_option linter.all false
set_option maxRecDepth 100000
set_option maxHeartbeats 8000000
/-! max with default=, == by an own __eq__ of any outcome. -/
namespace XQ
open PySem PySem.Spec PyProof.Rows L2 He XH XV XR PEN TR Evl

/-! ### max(xs, default=d) -/
def mxD (d : Int) : List Int → Int
  | [] => d
  | n :: r => r.foldl max n
def rMaxDef (K : PySem.W.Frag) : List V → List V → Hp → VK → Prop := fun vs zs H Q => ∃ (a : Addr) (ns : List Int) (d : Int), vs = [V.ref a] ∧ zs = [V.int d] ∧ SqL K H a (ns.map V.int) ∧ Q (.int (mxD d ns)) H
theorem reads_nums {h : Heap} : ∀ {ns : List Int} {its : List Value}, Vals (ns.map V.int) its → ReadsAll h its (ns.map PyData.int) []
  | [], _, r => by
    cases r
    exact .nil
  | n :: ns, _, r => by
    cases r with
    | cons r1 r2 =>
      obtain ⟨t, rfl⟩ := r1
      exact ReadsAll.cons (.int n t) (reads_nums r2)
theorem depth_nums : ∀ ns : List Int, PyData.depthAll (ns.map PyData.int) ≤ 1
  | [] => by simp [PyData.depthAll]
  | n :: r => by
    have k := depth_nums r
    simp only [List.map_cons, PyData.depthAll, PyData.depth]
    omega
theorem alike_nums (ns : List Int) : PySem.W.AlikeAll (ns.map PyData.int) := PySem.W.alikeAll_datum ns
theorem cr_maxDef {X : Cx} (hc : X.calm = true) (hu : X.A.units + 65 < cLine) : CallRK X (.builtin "max") [Str.ofString "default"] (rMaxDef X.K) := by
  intro pins s σ H xs zs us ws Q I rx rz h
  obtain ⟨a, ns, d, rfl, rfl, hs, q⟩ := h
  obtain ⟨its, rv, hl, _⟩ := I.list hs
  rw [Vals.ref1 rx]
  cases rz with
  | @cons _ w0 _ _ r1 r2 =>
    cases r2
    have dn := depth_nums ns
    refine PySem.W.max_list_default (d := w0) (xs := ns.map PyData.int) (as := []) (I.ok.hd hc) hl.isList (by simpa using reads_nums rv) (alike_nums ns) (by omega) (fun e h' tk hk => ?_) (fun y ys i v h' tk bs e hi r hk => ?_)
    · have e2 : ns = [] := List.map_eq_nil_iff.mp e
      subst e2
      exact ⟨.int d, H, I.kept hk, r1, q⟩
    · cases ns with
      | nil => cases e
      | cons n rest =>
        rw [List.map_cons] at e
        injection e with e1 e2
        subst e1 e2
        rw [PySem.W.maxD_ints] at r
        obtain ⟨t, rfl, _⟩ := reads_int_inv r
        exact ⟨.int (rest.foldl max n), H, I.kept hk, ⟨_, rfl⟩, q⟩

/-! ### x == y by the own __eq__ of x's class -/
def rOwn (K : PySem.W.Frag) (C : Addr) (sp : Sp) : R2 := fun x y H Q => ∃ (a dx : Addr) (fs : List (Str × V)) (t : Value), x = .ref a ∧ H a = some (.ins C dx fs) ∧ TyX K H y t ∧ PySem.W.notFirst K C t = true ∧ sp [.ref a, y] H (fun v H' => (∃ b, v = .bl b) ∧ Q v H') E0
theorem op_own {X : Cx} {C f : Addr} {fd : FuncData} {ps : List Str} {sp : Sp} {n : Nat} (F : FnOk X.prog X.w X.K X.mg X.base CX0 n f fd ps sp)
    (hs : PySem.W.findIn X.K (.ref C) "__eq__" = some (some (.ref f))) (hf : PySem.W.isFn X.K (.ref f) = true) (hb : Binds X.K fd ps []) (hr : Room n X.A) : OpR X (compareOp .Eq) (rOwn X.K C sp) := by
  intro pins s σ H x y v u Q I rx ry h
  obtain ⟨a, dx, fs, t, rfl, ha, ty, nf, hsp⟩ := h
  cases (show v = Value.ref a from rx)
  obtain ⟨mA, J, _⟩ := ins_get I.hok ha
  obtain ⟨od, J, _⟩ := J.look
  obtain ⟨m, hF⟩ := I.fr
  obtain ⟨P, Z, hp, _⟩ := kit_of I ry ty
  show wpAny (model X.prog X.w) X.A (richCompare .Eq (.ref a) u) (EP X pins σ Q) X.xe s
  refine PySem.W.cmp_K (op := .Eq) (tb := t) hr.units0 hF I.ok.mod.kin J (Z.ty _ _ I.kIn hp) nf hs hf ?_
  have hl := F.len _ _ _ _ hsp
  have r2 : Vals [V.ref a, y] [Value.ref a, u] := .cons rfl (.cons ry .nil)
  refine wpAny_call (codeAny_mono (F.run X.A X.stack s H ⟨[.ref a, u], []⟩ [.ref a, u] [.ref a, y] _ E0 hr I.env0 (by
    have := hb s [.ref a, u] I.kIn (by simpa using hl)
    simpa using this) r2 hsp) fun r s' hq => ?_)
  cases r with
  | error e => exact False.elim hq
  | ok fl =>
    cases fl with
    | ret w =>
      obtain ⟨z, H', I', rz, ⟨b, ez⟩, qz⟩ := I.after hq
      subst ez
      cases (show w = Value.bool b from rz)
      exact ⟨.bl b, H', I', rfl, qz⟩
    | next => exact False.elim hq
    | brk => exact False.elim hq
    | cont => exact False.elim hq
theorem op_or {X : Cx} {f : Value → Value → Sem Value} {r r' : R2} (h : OpR X f r) (h' : OpR X f r') : OpR X f (fun x y H Q => r x y H Q ∨ r' x y H Q) := by
  intro pins s σ H x y v u Q I rx ry q
  rcases q with q | q
  · exact h pins s σ H x y v u Q I rx ry q
  · exact h' pins s σ H x y v u Q I rx ry q
def orR (r r' : R2) : R2 := fun x y H Q => r x y H Q ∨ r' x y H Q
theorem op_or2 {X : Cx} {f : Value → Value → Sem Value} {r r' : R2} (h : OpR X f r) (h' : OpR X f r') : OpR X f (orR r r') := op_or h h'
end XQ

set_option Elab.async false
set_option linter.all false
set_option maxRecDepth 100000
set_option maxHeartbeats 8000000
/-! == of tuples of objects of an own class, by its own __eq__, of any outcome. -/
namespace PySem.SeqAt
open AutoSeq1 (wpAny_loadPart')
open MeetsSeq MeetsSeq2 MeetsSeq3 SeqRoads2
theorem tuple_eqRun {prog : Program} {w : World} (l b : Addr) (items items2 : Array Value) (n n2 : Nat) (dd dd2 : Option Addr) (sl sl2 : Array (Option Value)) :
    MeetsIn prog w (Builtin.«tuple.__eq__» ⟨[.ref l, .ref b], []⟩)
      (fun A R s => s.heap.get? l = some { cls := .type "tuple", dict := dd, data := .seq items n, slots := sl } ∧ s.heap.get? b = some { cls := .type "tuple", dict := dd2, data := .seq items2 n2, slots := sl2 } ∧
        ∃ P : Nat → Shared → Prop, P 0 s ∧ (∀ j (h1 : j < items.size) (h2 : j < items2.size) s', P j s' → wpAny (model prog w) A.in1 (eqBool items[j] items2[j]) (fun b s'' => if b = true then P (j + 1) s'' else R (.ok (.ret (.bool false))) s'') (fun e s'' => R (.error e) s'') s') ∧
          ∀ s', P (min items.size items2.size) s' → R (.ok (.ret (.bool (items.size == items2.size)))) s') :=
  .of_wp fun A R s h => by
    obtain ⟨hp, g, d, tk, os⟩ := s; obtain ⟨hl, hb, P, h0, step, fin⟩ := h
    have f2 := AutoSeq1.sub_tuple_tuple
    have hZ : (items.toList.zip items2.toList).length = min items.size items2.size := by simp
    wp_walk using wpAny_loadPart' hl, wpAny_loadPart' hb, wpAny_forIn_list _ (fun rest b s' => b.1 = none ∧ ∃ i, i ≤ (items.toList.zip items2.toList).length ∧ rest = (items.toList.zip items2.toList).drop i ∧ P i s') _
    case turn =>
      rintro ⟨y, x⟩ rest b s' ⟨hb', i, hi0, hz, hP⟩
      have hlt : i < (items.toList.zip items2.toList).length := by
        rcases Nat.lt_or_ge i (items.toList.zip items2.toList).length with h' | h'
        · exact h'
        · rw [List.drop_of_length_le h'] at hz; cases hz
      have hm : i < min items.size items2.size := hZ ▸ hlt
      have h1 : i < items.size := Nat.lt_of_lt_of_le hm (Nat.min_le_left _ _)
      have h2 : i < items2.size := Nat.lt_of_lt_of_le hm (Nat.min_le_right _ _)
      rw [List.drop_eq_getElem_cons hlt] at hz
      injection hz with hyx hrest
      have hy : y = items[i] := by have := congrArg Prod.fst hyx; simpa using this
      have hx : x = items2[i] := by have := congrArg Prod.snd hyx; simpa using this
      subst hy hx
      refine wpAny_bind (wpAny_mono (step i h1 h2 s' hP) (fun v s'' hv => ?_) (fun e s'' he => he))
      cases v with
      | true =>
        rw [if_pos rfl] at hv
        wp_walk
        exact ⟨rfl, i + 1, hlt, hrest, hv⟩
      | false =>
        rw [if_neg Bool.false_ne_true] at hv
        wp_walk
        exact ⟨_, rfl, hv⟩
    case fin =>
      rintro ⟨b1, b2⟩ s' ⟨hb', i, hi0, hz, hP⟩
      simp only at hb'
      subst hb'
      have hge : i = min items.size items2.size := by
        rcases Nat.lt_or_ge i (items.toList.zip items2.toList).length with h' | h'
        · rw [List.drop_eq_getElem_cons h'] at hz; cases hz
        · omega
      subst hge
      have hR := fin s' hP
      wp_walk
      exact ⟨_, rfl, by simpa [Builtin.Tuple.tupleCompareSizes] using hR⟩
    case h =>
      exact ⟨rfl, 0, Nat.zero_le _, rfl, h0⟩
theorem eq_tupleRun {prog : Program} {w : World} {A : Around} {E : Value → Shared → Prop} {s : Shared} {l b : Addr} {items items2 : Array Value} {Q : Value → Shared → Prop} (hl : s.heap.IsTuple l items) (hb : s.heap.IsTuple b items2) (hu : A.units < cLine)
    (P : Nat → Shared → Prop) (h0 : P 0 s) (step : ∀ j (h1 : j < items.size) (h2 : j < items2.size) s', P j s' → wpAny (model prog w) A.in1 (eqBool items[j] items2[j]) (fun b s'' => if b = true then P (j + 1) s'' else Q (.bool false) s'') E s')
    (fin : ∀ s', P (min items.size items2.size) s' → Q (.bool (items.size == items2.size)) s') : wpAny (model prog w) A (richCompare .Eq (.ref l) (.ref b)) Q E s := by
  obtain ⟨⟨cls, dd, data, sl⟩, ho, hc, n, hd⟩ := id hl
  obtain ⟨⟨cls2, dd2, data2, sl2⟩, ho2, hc2, n2, hd2⟩ := id hb
  simp only at hc hd hc2 hd2
  subst hc hd hc2 hd2
  refine wpAny_richCompare_same_room ⟨_, ho, rfl⟩ ⟨_, ho2, rfl⟩ F.slot_tuple_eq (call_meetsIn F.slot_tuple_eq ⟨_, ho, rfl⟩ F.entry_tuple_eq (F.args_tuple_eq_2 _ _) (tuple_eqRun l b items items2 n n2 dd dd2 sl sl2) ⟨ho, ho2, P, h0, fun j h1 h2 s' hP => ?_, fun s' hP => ?_⟩) hu
  · refine wpAny_mono (step j h1 h2 s' hP) (fun v s'' hv => ?_) (fun e s'' he => he)
    cases v with
    | true => exact hv
    | false => exact ⟨(fun x => nomatch x), hv⟩
  · exact ⟨(fun x => nomatch x), fin s' hP⟩
end PySem.SeqAt
namespace OQ
open PySem PySem.Spec PyProof.Rows L2 He XH XV XR PEN TR Evl
theorem vals_ref {ps : List Addr} {its : List Value} (r : Vals (ps.map V.ref) its) : its = ps.map Value.ref := by
  induction ps generalizing its with
  | nil =>
    cases r
    rfl
  | cons p t ih =>
    cases r with
    | cons r1 r2 =>
      rw [ih r2, show _ = Value.ref p from r1]
      rfl
def rOwnT (K : PySem.W.Frag) (C : Addr) (sp : Sp) : R2 := fun x y H Q => ∃ (a b : Addr) (ps qs : List Addr) (e : Nat → Bool), x = .ref a ∧ y = .ref b ∧ SqT K H a (ps.map V.ref) ∧ SqT K H b (qs.map V.ref) ∧
  (∀ j p q, ps[j]? = some p → qs[j]? = some q → (p = q → e j = true) ∧ (p ≠ q → (∃ dx fs, H p = some (.ins C dx fs)) ∧ (∀ H1, Ex H H1 → TyX K H1 (.ref q) (.ref C)) ∧ ∀ H1, Ex H H1 → ∀ Q' : VK, (∀ H2, Ex H1 H2 → Q' (.bl (e j)) H2) → sp [.ref p, .ref q] H1 Q' E0)) ∧
  ∀ H', Ex H H' → Q (.bl ((List.range (min ps.length qs.length)).all e && ps.length == qs.length)) H'
theorem op_ownT {X : Cx} {C f : Addr} {fd : FuncData} {pn : List Str} {sp : Sp} {n : Nat} (F : FnOk X.prog X.w X.K X.mg X.base CX0 n f fd pn sp)
    (hs : PySem.W.findIn X.K (.ref C) "__eq__" = some (some (.ref f))) (hf : PySem.W.isFn X.K (.ref f) = true) (hb : Binds X.K fd pn []) (nf : PySem.W.notFirst X.K C (.ref C) = true) (hr : Room (n + 1) X.A) : OpR X (compareOp .Eq) (rOwnT X.K C sp) := by
  intro pins s σ H x y v u Q I rx ry h
  obtain ⟨a, b, ps, qs, e, rfl, rfl, ha, hb2, hpq, q⟩ := h
  cases (show v = Value.ref a from rx)
  cases (show u = Value.ref b from ry)
  obtain ⟨its, r1, p1, hz1⟩ := I.tuple ha
  obtain ⟨its2, r2, p2, hz2⟩ := I.tuple hb2
  have i1 := vals_ref r1
  have i2 := vals_ref r2
  subst i1 i2
  have s1 : (ps.map Value.ref).toArray.size = ps.length := by simp
  have s2 : (qs.map Value.ref).toArray.size = qs.length := by simp
  show wpAny (model X.prog X.w) X.A (richCompare .Eq (.ref a) (.ref b)) (EP X pins σ Q) X.xe s
  refine SeqAt.eq_tupleRun p1 p2 hr.units0 (fun j s' => (∀ i, i < j → e i = true) ∧ ∃ H', Ex H H' ∧ Inv X pins σ H' s') ⟨(fun i hi => absurd hi (Nat.not_lt_zero i)), H, Ex.refl H, I⟩ (fun j h1 h2 s' hP => ?_) (fun s' hP => ?_)
  · obtain ⟨he, H1, e1, I1⟩ := hP
    have j1 : j < ps.length := by omega
    have j2 : j < qs.length := by omega
    have g1 : (ps.map Value.ref).toArray[j] = .ref ps[j] := by simp
    have g2 : (qs.map Value.ref).toArray[j] = .ref qs[j] := by simp
    rw [g1, g2]
    obtain ⟨k1, k2⟩ := hpq j ps[j] qs[j] (List.getElem?_eq_getElem j1) (List.getElem?_eq_getElem j2)
    generalize ps[j] = p at k1 k2
    generalize qs[j] = r at k1 k2
    have more : e j = true → ∀ i, i < j + 1 → e i = true := fun hj i hi => by
      rcases Nat.lt_or_ge i j with c | c
      · exact he i c
      · rw [show i = j by omega]
        exact hj
    unfold eqBool
    refine wpAny_holding ?_
    by_cases hpr : p = r
    · subst hpr
      refine wpAny_ite_split (fun _ => ?_) (fun hab => absurd (beq_self_eq_true _) hab)
      refine wpAny_bind (wpAny_rule (wpAny_pure ?_))
      rw [if_pos rfl]
      exact ⟨more (k1 rfl), H1, e1, I1⟩
    refine wpAny_ite_split (fun hab => absurd (by have := eq_of_beq hab; injection this) hpr) (fun _ => ?_)
    obtain ⟨⟨dx, fs, hp⟩, hq, hsp⟩ := k2 hpr
    obtain ⟨mA, J, _⟩ := ins_get I1.hok (e1 _ _ hp)
    obtain ⟨od, J, _⟩ := J.look
    obtain ⟨m, hF⟩ := I1.fr
    obtain ⟨PP, Z, hpp, _⟩ := kit_of I1 (x := .ref r) (show RelV (.ref r) (.ref r) from rfl) (hq H1 e1)
    refine wpAny_bind ?_
    refine PySem.W.cmp_K (op := .Eq) (tb := .ref C) (Room.units0 hr.in1) hF I1.ok.mod.kin J (Z.ty _ _ I1.kIn hpp) nf hs hf ?_
    have hsp2 := hsp H1 e1 (fun v H' => v = .bl (e j) ∧ Ex H1 H') (fun H2 e2 => ⟨rfl, e2⟩)
    have hl := F.len _ _ _ _ hsp2
    have rr : Vals [V.ref p, V.ref r] [Value.ref p, Value.ref r] := .cons rfl (.cons rfl .nil)
    refine wpAny_call (codeAny_mono (F.run X.A.in1 X.stack s' H1 ⟨[.ref p, .ref r], []⟩ [.ref p, .ref r] [.ref p, .ref r] _ E0 hr.in1 I1.env0.in1 (by
      have := hb s' [.ref p, .ref r] I1.kIn (by simpa using hl)
      simpa using this) rr hsp2) fun rs s2 hq2 => ?_)
    cases rs with
    | error er => exact False.elim hq2
    | ok fl =>
      cases fl with
      | ret w =>
        obtain ⟨z, H', I', rz, ez, e2⟩ := I1.after hq2
        subst ez
        cases (show w = Value.bool (e j) from rz)
        refine wpAny_truthy_bool ?_
        cases hej : e j with
        | true =>
          rw [if_pos rfl]
          exact ⟨more hej, H', e1.trans e2, I'⟩
        | false =>
          rw [if_neg Bool.false_ne_true]
          refine ⟨.bl false, H', I', rfl, ?_⟩
          have z := q H' (e1.trans e2)
          have ef : ((List.range (min ps.length qs.length)).all e && ps.length == qs.length) = false := by
            have : (List.range (min ps.length qs.length)).all e = false := by
              rw [List.all_eq_false]
              exact ⟨j, List.mem_range.mpr (by omega), by rw [hej]; exact Bool.false_ne_true⟩
            rw [this, Bool.false_and]
          rw [ef] at z
          exact z
      | next => exact False.elim hq2
      | brk => exact False.elim hq2
      | cont => exact False.elim hq2
  · obtain ⟨he, H1, e1, I1⟩ := hP
    refine ⟨.bl (ps.length == qs.length), H1, I1, (by rw [s1, s2]; rfl), ?_⟩
    have z := q H1 e1
    have ef : (List.range (min ps.length qs.length)).all e = true := by
      rw [List.all_eq_true]
      intro i hi
      exact he i (by rw [s1, s2]; exact List.mem_range.mp hi)
    rw [ef, Bool.true_and] at z
    exact z
end OQ

set_option Elab.async false
set_option linter.all false
set_option maxRecDepth 100000
set_option maxHeartbeats 8000000
/-! first, *rest = a list -/
namespace SU
open PySem PySem.Spec PyProof.Rows L2 He XH XV XR PEN Evl

def gStar1 (K : PySem.W.Frag) (t : TGs) : TG := fun v σ H Q => ∃ a x xs, v = .ref a ∧ SqL K H a (x :: xs) ∧ xs.length ≤ 1000 ∧ ∀ D, H D = none → t [x, .ref D] σ (upd H D (.lst xs)) Q
section
variable {X : Cx}
theorem pgs_consS {e : Expr} {p : Pos} {es : List Expr} {t : TG} {u : TGs} (h1 : PG X e t) (h2 : PGs X es u)
    (hs : (assignEach (.Starred e p :: es) X.env).map (·.2) = assign e X.env :: (assignEach es X.env).map (·.2) := by rfl) : PGs X (.Starred e p :: es) (gCons t u) := by
  refine ⟨fun pins s σ H vs us Q I r h => ?_⟩
  obtain ⟨v, vr, e1, h⟩ := h
  subst e1
  cases r with
  | cons r rr =>
    rw [hs]
    refine assignInOrder_cons (thn (h1.run pins s σ H _ _ _ I r h) fun _ s1 ⟨σ1, H1, I1, q1⟩ => ?_)
    exact h2.run pins s1 σ1 H1 _ _ Q I1 rr q1
theorem pg_star1 {es : List Expr} {k : Nat} {pos : Pos} {t : TGs} (hc : X.calm = true) (h : PGs X es t)
    (hn : (assignEach es X.env).length = 2 := by rfl) (hst : (assignEach es X.env).findIdx? (·.1) = some 1 := by rfl) : PG X (.Tuple es k pos) (gStar1 X.K t) := by
  refine ⟨fun pins s σ H v u Q I r hw => ?_⟩
  obtain ⟨a, x, xs, e1, hq, hlx, hw⟩ := hw
  subst e1
  cases r
  obtain ⟨its, rv, hL, hz⟩ := I.list hq
  cases rv with
  | @cons _ u0 _ us r0 rr =>
    have hl : s.heap.IsList a (u0 :: us).toArray := hL.isList
    have hh : X.A.handled = none := I.ok.hd hc
    have lus := rr.length
    have hlt : a ≠ s.heap.objs.size := by obtain ⟨o, ho, _⟩ := hl; exact Nat.ne_of_lt (Heap.lt_size ho)
    rw [assign_Tuple]
    refine wpAny_bind (wpAny_standAt ?_)
    unfold unpack
    rw [hn, hst]
    refine wpAny_bind (wpAny_holding ?_)
    unfold unpackItems
    refine wpAny_bind ?_
    unfold notIterableAtAll
    refine wpAny_bind (wpAny_specialOf hl.typeIs slot_list_iter.lookup ?_)
    refine wpAny_pure ?_
    simp only [Bool.false_eq_true, if_false]
    refine wpAny_bind (wpAny_holding (wpAny_pyIter_list hl ?_))
    refine wpAny_bind (wpAny_holding (PySem.W.kun_draw hlt 1 0 _ _ ⟨_, Heap.get?_push_size _ rfl, rfl, rfl⟩ (hl.push _) (by simp) fun h₁ hit₁ hs₁ => ?_))
    have hl₁ : h₁.IsList a (u0 :: us).toArray := (hl.push _).extBut hs₁.extBut hlt
    rw [Nat.zero_add] at hit₁
    have hit₁' := hit₁
    obtain ⟨oi, hoi, _⟩ := hit₁'
    have hl₁' := hl₁
    obtain ⟨ol, hol, _⟩ := hl₁'
    rw [List.drop_zero]
    have hf : (u0 :: us).toArray.toList.take 1 = [u0] := rfl
    rw [hf]
    rw [if_neg (show ¬ (([u0] : List Value).length < 1) by simp)]
    refine wpAny_bind (wpAny_holding (PySem.W.kun_collect (s := { s with heap := h₁ }) (T := "list_iterator") (.inr (.inr (.inl rfl))) (Walks.list (A := X.A.in1) hh s.heap.objs.size a hlt (u0 :: us).toArray) (fun j u st => st.1.typeIs) (k := 1) (by simp) ⟨hit₁, hl₁⟩ (Heap.lt_size hoi) (Heap.lt_size hol) (fun h₂ tk hk => ?_) (by rw [sizeLine_eq]; simp; omega)))
    have hd : (u0 :: us).toArray.toList.drop 1 = us := rfl
    rw [hd]
    show wpAny _ _ (if us.length < 2 - 1 - 1 then _ else _) _ _ _
    rw [if_neg (by omega)]
    show wpAny _ _ (newList (us.take (us.length - (2 - 1 - 1))) >>= fun d => pure ([u0] ++ [d] ++ us.drop (us.length - (2 - 1 - 1)))) _ _ _
    have e0 : us.length - (2 - 1 - 1) = us.length := by omega
    rw [e0, List.take_length, List.drop_length]
    have he : Heap.ExtBut s.heap.objs.size s.heap h₂ := fun b o hb e => hk b o hb (hs₁.extBut b o hb (Heap.get?_push_of_some _ e))
    have I1 : Inv X pins σ H { s with heap := h₂, toks := tk } := I.kept fun b o e => he b o (Nat.ne_of_lt (Heap.lt_size e)) e
    refine wpAny_bind (wpAny_newObj_type ?_)
    refine wpAny_pure ?_
    have hfr : H h₂.objs.size = none := I1.hok.fresh (Nat.le_refl _)
    have I2 : Inv X pins σ (upd H h₂.objs.size (.lst xs)) { s with heap := h₂.push { cls := .type "list", data := .seq us.toArray }, toks := tk } :=
      I1.laid (t' := tk) (fun b u e => Heap.get?_push_of_some _ e) (Nat.le_refl _) ⟨fits hlx, us, 0, rr, Heap.get?_push_size _ rfl⟩
    exact h.run pins _ σ _ [x, .ref h₂.objs.size] _ Q I2 (.cons r0 (.cons rfl .nil)) (hw _ hfr)
end
/-! ### tuple.count of texts -/
def rCntT (K : PySem.W.Frag) : V → List V → Hp → VK → Prop := fun x xs H Q => ∃ (p : Addr) (zs : List Str) (z : Str), x = .ref p ∧ xs = [.str z] ∧ SqT K H p (zs.map V.str) ∧ Q (.int ((zs.countP fun y => decide (y = z) : Nat) : Int)) H
theorem reads_strs {h : Heap} : ∀ {zs : List Str} {us : List Value}, Vals (zs.map V.str) us → ReadsAll h us (zs.map PyData.str) []
  | [], _, r => by
    cases r
    exact .nil
  | z :: zs, _, r => by
    cases r with
    | cons r1 r2 =>
      obtain ⟨t, rfl⟩ := r1
      exact ReadsAll.cons (.str z t) (reads_strs r2)
theorem plain_strs : ∀ zs : List Str, PyData.plainAll (zs.map PyData.str) = true
  | [] => rfl
  | z :: r => by
    show (PyData.plain (.str z) && PyData.plainAll (r.map PyData.str)) = true
    rw [plain_strs r]
    rfl
theorem mt_tcount {X : Cx} (hu : X.A.units + 64 < cLine) : MtR X "tuple.count" (rCntT X.K) := by
  intro pins s σ H x xs v us Q I rx rxs h
  obtain ⟨p, zs, z, rfl, rfl, hs, q⟩ := h
  cases rx
  obtain ⟨u, rfl, ru⟩ := rxs.one
  obtain ⟨t, rfl⟩ := ru
  obtain ⟨its, rv, ht, _⟩ := I.tuple hs
  obtain ⟨o, ho, hc, n, hd⟩ := ht
  have e : (zs.map PyData.str).countP (fun y => PyData.eqv y (.str z)) = zs.countP fun y => decide (y = z) := by
    rw [List.countP_map]
    refine List.countP_congr fun y _ => ?_
    show ((y == z) = true) ↔ (decide (y = z) = true)
    simp
  refine PySem.SeqAt.count_tuple_data (vs := its.toArray) (xs := zs.map PyData.str) (d := .str z) (as := []) (bs := []) ⟨o, ho, hc, n, hd⟩ (by simpa using reads_strs rv) (.str z t) (plain_strs zs) rfl (by
    have k : PyData.depth (.str z) ≤ 1 := by simp [PyData.depth]
    omega) ?_
  rw [e]
  exact ⟨.int _, H, I.tok _, ⟨_, rfl⟩, q⟩
end SU

set_option Elab.async false
set_option linter.all false
set_option maxRecDepth 100000
set_option maxHeartbeats 8000000
/-! Puzzles: trees as data, what a puzzle is in a heap. -/
namespace PZ
open PySem PySem.Spec PyProof.Rows L2 He XH XV XR PEN TR XQ Evl

/-! ### trees -/
def nd (bs : List Int) (ks : List PyData) : PyData := .tuple [.tuple (bs.map PyData.int), .tuple ks]
theorem nums_inj : ∀ {a b : List Int}, a.map PyData.int = b.map PyData.int → a = b
  | [], [], _ => rfl
  | x :: a, y :: b, h => by
    rw [List.map_cons, List.map_cons] at h
    injection h with h1 h2
    injection h1 with h1
    rw [h1, nums_inj h2]
theorem nd_inj {bs bs' : List Int} {ks ks' : List PyData} (h : nd bs ks = nd bs' ks') : bs = bs' ∧ ks = ks' := by
  unfold nd at h
  injection h with h
  injection h with h1 h2
  injection h1 with h1
  injection h2 with h2 _
  injection h2 with h2
  exact ⟨nums_inj h1, h2⟩
mutual
def size : PyData → Nat
  | .tuple [_, .tuple ks] => 1 + sizeL ks
  | _ => 0
def sizeL : List PyData → Nat
  | [] => 0
  | k :: r => size k + sizeL r
end
mutual
def deep : PyData → Nat
  | .tuple [_, .tuple ks] => 1 + deepL ks
  | _ => 0
def deepL : List PyData → Nat
  | [] => 0
  | k :: r => max (deep k) (deepL r)
end
/-- the digits of a node -/
def istr (i : Int) : Str := (toString i : String)
def digS (bs : List Int) : Str := if (Txt.join ("" : Str) (bs.map istr)).length = 0 then "." else Txt.join ("" : Str) (bs.map istr)
def intOf : PyData → Int
  | .int i => i
  | _ => 0
mutual
def spell : PyData → Str
  | .tuple [.tuple bs, .tuple ks] => if ks = [] then digS (bs.map intOf) else digS (bs.map intOf) ++ ("(" : Str) ++ Txt.join ("," : Str) (spellL ks) ++ (")" : Str)
  | _ => "-"
def spellL : List PyData → List Str
  | [] => []
  | k :: r => spell k :: spellL r
end
def isN : PyData → Bool
  | .none => true
  | _ => false
/-- how many are left if what is spare at the end is dropped -/
def keepN {α : Type} (p : α → Bool) : List α → Nat
  | [] => 0
  | x :: r => if keepN p r = 0 then (if p x = true then 0 else 1) else keepN p r + 1
def short {α : Type} (p : α → Bool) (xs : List α) : List α := xs.take (keepN p xs)
def isZ : Int → Bool := fun b => decide (b = 0)
mutual
def trim : PyData → PyData
  | .tuple [.tuple bs, .tuple ks] => nd (short isZ (bs.map intOf)) ((trimL ks).take (keepN isN (trimL ks)))
  | d => d
def trimL : List PyData → List PyData
  | [] => []
  | k :: r => trim k :: trimL r
end
theorem ints_of (bs : List Int) : (bs.map PyData.int).map intOf = bs := by
  rw [List.map_map]
  exact List.map_id' bs
theorem size_nd (bs : List Int) (ks : List PyData) : size (nd bs ks) = 1 + sizeL ks := by simp [size, nd]
theorem deep_nd (bs : List Int) (ks : List PyData) : deep (nd bs ks) = 1 + deepL ks := by simp [deep, nd]
theorem spell_nd (bs : List Int) (ks : List PyData) : spell (nd bs ks) = if ks = [] then digS bs else digS bs ++ ("(" : Str) ++ Txt.join ("," : Str) (spellL ks) ++ (")" : Str) := by
  have e := ints_of bs
  simp only [spell, nd]
  rw [e]
theorem trim_nd (bs : List Int) (ks : List PyData) : trim (nd bs ks) = nd (short isZ bs) (short isN (trimL ks)) := by
  have e := ints_of bs
  simp only [trim, nd]
  rw [e]
  rfl
theorem spellL_map (ks : List PyData) : spellL ks = ks.map spell := by
  induction ks with
  | nil => rfl
  | cons k r ih => simp [spellL, ih]
theorem trimL_map (ks : List PyData) : trimL ks = ks.map trim := by
  induction ks with
  | nil => rfl
  | cons k r ih => simp [trimL, ih]
theorem size_non : size .none = 0 := by simp [size]
theorem deep_non : deep .none = 0 := by simp [deep]
theorem spell_non : spell .none = "-" := by simp [spell]
theorem trim_non : trim .none = .none := by simp [trim]
theorem sizeL_sum (ks : List PyData) : sizeL ks = (ks.map size).sum := by
  induction ks with
  | nil => rfl
  | cons k r ih => simp [sizeL, ih]
/-! ### what is dropped -/
theorem keepN_app {α : Type} (p : α → Bool) (x : α) : ∀ l : List α, keepN p (l ++ [x]) = if p x = true then keepN p l else l.length + 1
  | [] => by
    show (if (0 : Nat) = 0 then (if p x = true then 0 else 1) else 0 + 1) = _
    rfl
  | y :: r => by
    have ih := keepN_app p x r
    show (if keepN p (r ++ [x]) = 0 then (if p y = true then 0 else 1) else keepN p (r ++ [x]) + 1) = _
    rw [ih]
    by_cases h : p x = true
    · rw [if_pos h, if_pos h]
      rfl
    · rw [if_neg h, if_neg h, if_neg (by omega)]
      rfl
theorem keepN_le {α : Type} (p : α → Bool) : ∀ l : List α, keepN p l ≤ l.length
  | [] => Nat.le_refl _
  | y :: r => by
    have ih := keepN_le p r
    show (if keepN p r = 0 then (if p y = true then 0 else 1) else keepN p r + 1) ≤ r.length + 1
    split
    · split <;> omega
    · omega
theorem keepN_take {α : Type} {p : α → Bool} {l : List α} {i : Nat} {x : α} (h : l[i]? = some x) : keepN p (l.take (i + 1)) = if p x = true then keepN p (l.take i) else i + 1 := by
  have hi := (List.getElem?_eq_some_iff.mp h).1
  rw [take_more h, keepN_app, List.length_take, Nat.min_eq_left (Nat.le_of_lt hi)]
theorem keepN_map {α β : Type} (p : β → Bool) (f : α → β) : ∀ l : List α, keepN p (l.map f) = keepN (fun x => p (f x)) l
  | [] => rfl
  | y :: r => by
    have ih := keepN_map p f r
    show (if keepN p (r.map f) = 0 then (if p (f y) = true then 0 else 1) else keepN p (r.map f) + 1) = _
    rw [ih]
    rfl
theorem keepN_congr {α : Type} {p q : α → Bool} : ∀ {l : List α}, (∀ x ∈ l, p x = q x) → keepN p l = keepN q l
  | [], _ => rfl
  | y :: r, h => by
    have ih := keepN_congr (l := r) fun x hx => h x (List.mem_cons_of_mem _ hx)
    show (if keepN p r = 0 then (if p y = true then 0 else 1) else keepN p r + 1) = (if keepN q r = 0 then (if q y = true then 0 else 1) else keepN q r + 1)
    rw [ih, h y List.mem_cons_self]
theorem keepN_drop {α : Type} {p : α → Bool} {l : List α} {i : Nat} {x : α} (h : l[i]? = some x) (hp : p x = true) (k : keepN p (l.take (i + 1)) = keepN p l) : keepN p (l.take i) = keepN p l := by
  rw [← k, keepN_take h, if_pos hp]
theorem short_map {α β : Type} (p : β → Bool) (f : α → β) (l : List α) : short p (l.map f) = (short (fun x => p (f x)) l).map f := by
  unfold short
  rw [keepN_map, List.map_take]
/-! ### trees that are not too great -/
mutual
inductive Bd (B C : Nat) : PyData → Prop
  | mk {d : PyData} {bs : List Int} {ks : List PyData} (e : d = nd bs ks) (h1 : bs.length ≤ B) (h2 : ∀ b ∈ bs, b = 0 ∨ b = 1) (h3 : ks.length ≤ C) (h4 : BdL B C ks) : Bd B C d
inductive BdL (B C : Nat) : List PyData → Prop
  | nil : BdL B C []
  | non {ks : List PyData} (r : BdL B C ks) : BdL B C (.none :: ks)
  | one {k : PyData} {ks : List PyData} (h : Bd B C k) (r : BdL B C ks) : BdL B C (k :: ks)
end
theorem Bd.nd' {B C : Nat} {bs : List Int} {ks : List PyData} (h : Bd B C (nd bs ks)) : bs.length ≤ B ∧ (∀ b ∈ bs, b = 0 ∨ b = 1) ∧ ks.length ≤ C ∧ BdL B C ks := by
  cases h with
  | mk e h1 h2 h3 h4 =>
    obtain ⟨rfl, rfl⟩ := nd_inj e
    exact ⟨h1, h2, h3, h4⟩
theorem Bd.un {B C : Nat} {d : PyData} (h : Bd B C d) : ∃ bs ks, d = nd bs ks ∧ bs.length ≤ B ∧ (∀ b ∈ bs, b = 0 ∨ b = 1) ∧ ks.length ≤ C ∧ BdL B C ks := by
  cases h with
  | mk e h1 h2 h3 h4 => exact ⟨_, _, e, h1, h2, h3, h4⟩
theorem BdL.at {B C : Nat} : ∀ {ks : List PyData}, BdL B C ks → ∀ k ∈ ks, k = .none ∨ Bd B C k
  | _, .non r, k, hk => by
    rcases List.mem_cons.mp hk with e | h
    · exact .inl e
    · exact r.at k h
  | _, .one h0 r, k, hk => by
    rcases List.mem_cons.mp hk with e | h
    · rw [e]
      exact .inr h0
    · exact r.at k h
theorem BdL.of {B C : Nat} : ∀ {ks : List PyData}, (∀ k ∈ ks, k = .none ∨ Bd B C k) → BdL B C ks
  | [], _ => .nil
  | k :: r, h => by
    have ih := BdL.of (B := B) (C := C) (ks := r) fun x hx => h x (List.mem_cons_of_mem _ hx)
    rcases h k List.mem_cons_self with e | hb
    · rw [e]
      exact .non ih
    · exact .one hb ih
theorem BdL.take {B C : Nat} {ks : List PyData} (h : BdL B C ks) (n : Nat) : BdL B C (ks.take n) := BdL.of fun k hk => h.at k (List.mem_of_mem_take hk)
theorem Bd.notN {B C : Nat} {d : PyData} (h : Bd B C d) : isN d = false := by
  obtain ⟨bs, ks, rfl, _⟩ := h.un
  rfl
theorem Bd.ne {B C : Nat} {d : PyData} (h : Bd B C d) : d ≠ .none := fun e => by
  have := h.notN
  rw [e] at this
  cases this
mutual
theorem bd_trim {B C : Nat} : ∀ {d : PyData}, Bd B C d → Bd B C (trim d)
  | _, .mk (bs := bs) (ks := ks) e h1 h2 h3 h4 => by
    rw [e, trim_nd]
    have k := bdL_trim h4
    have l1 : (short isZ bs).length ≤ bs.length := by
      unfold short
      rw [List.length_take]
      omega
    have l2 : (short isN (trimL ks)).length ≤ ks.length := by
      unfold short
      rw [List.length_take, trimL_map, List.length_map]
      omega
    exact .mk rfl (by omega) (fun b hb => h2 b (List.mem_of_mem_take hb)) (by omega) (k.take _)
theorem bdL_trim {B C : Nat} : ∀ {ks : List PyData}, BdL B C ks → BdL B C (trimL ks)
  | _, .nil => by
    simp only [trimL]
    exact .nil
  | _, .non r => by
    simp only [trimL, trim_non]
    exact .non (bdL_trim r)
  | _, .one h r => by
    simp only [trimL]
    exact .one (bd_trim h) (bdL_trim r)
end
theorem sizeL_take (ks : List PyData) (n : Nat) : sizeL (ks.take n) ≤ sizeL ks := by
  induction ks generalizing n with
  | nil => simp
  | cons k r ih =>
    cases n with
    | zero => simp [sizeL]
    | succ n =>
      have k := ih n
      simp only [List.take_succ_cons, sizeL]
      omega
theorem deepL_take (ks : List PyData) (n : Nat) : deepL (ks.take n) ≤ deepL ks := by
  induction ks generalizing n with
  | nil => simp
  | cons k r ih =>
    cases n with
    | zero => simp [deepL]
    | succ n =>
      have k := ih n
      simp only [List.take_succ_cons, deepL]
      omega
mutual
theorem size_trim {B C : Nat} : ∀ {d : PyData}, Bd B C d → size (trim d) ≤ size d
  | _, .mk (bs := bs) (ks := ks) e h1 h2 h3 h4 => by
    rw [e, trim_nd, size_nd, size_nd]
    have k := sizeL_trim h4
    have k2 := sizeL_take (trimL ks) (keepN isN (trimL ks))
    unfold short
    omega
theorem sizeL_trim {B C : Nat} : ∀ {ks : List PyData}, BdL B C ks → sizeL (trimL ks) ≤ sizeL ks
  | _, .nil => by simp [trimL]
  | _, .non r => by
    have k := sizeL_trim r
    simp only [trimL, trim_non, sizeL]
    omega
  | _, .one h r => by
    have k := sizeL_trim r
    have k2 := size_trim h
    simp only [trimL, sizeL]
    omega
end
mutual
theorem deep_trim {B C : Nat} : ∀ {d : PyData}, Bd B C d → deep (trim d) ≤ deep d
  | _, .mk (bs := bs) (ks := ks) e h1 h2 h3 h4 => by
    rw [e, trim_nd, deep_nd, deep_nd]
    have k := deepL_trim h4
    have k2 := deepL_take (trimL ks) (keepN isN (trimL ks))
    unfold short
    omega
theorem deepL_trim {B C : Nat} : ∀ {ks : List PyData}, BdL B C ks → deepL (trimL ks) ≤ deepL ks
  | _, .nil => by simp [trimL]
  | _, .non r => by
    have k := deepL_trim r
    simp only [trimL, trim_non, deepL]
    omega
  | _, .one h r => by
    have k := deepL_trim r
    have k2 := deep_trim h
    simp only [trimL, deepL]
    omega
end
theorem deep_pos {B C : Nat} {d : PyData} (h : Bd B C d) : 1 ≤ deep d := by
  obtain ⟨bs, ks, rfl, _⟩ := h.un
  rw [deep_nd]
  omega
theorem size_pos {B C : Nat} {d : PyData} (h : Bd B C d) : 1 ≤ size d := by
  obtain ⟨bs, ks, rfl, _⟩ := h.un
  rw [size_nd]
  omega
theorem deepL_at {ks : List PyData} {k : PyData} (h : k ∈ ks) : deep k ≤ deepL ks := by
  induction ks with
  | nil => cases h
  | cons x r ih =>
    simp only [deepL]
    rcases List.mem_cons.mp h with e | h
    · rw [e]
      omega
    · have := ih h
      omega
theorem sizeL_at {ks : List PyData} {k : PyData} (h : k ∈ ks) : size k ≤ sizeL ks := by
  induction ks with
  | nil => cases h
  | cons x r ih =>
    simp only [sizeL]
    rcases List.mem_cons.mp h with e | h
    · rw [e]
      omega
    · have := ih h
      omega
mutual
theorem Bd.mono {B C B' C' : Nat} (h : B ≤ B') (h' : C ≤ C') : ∀ {d : PyData}, Bd B C d → Bd B' C' d
  | _, .mk e h1 h2 h3 h4 => .mk e (Nat.le_trans h1 h) h2 (Nat.le_trans h3 h') (h4.mono h h')
theorem BdL.mono {B C B' C' : Nat} (h : B ≤ B') (h' : C ≤ C') : ∀ {ks : List PyData}, BdL B C ks → BdL B' C' ks
  | _, .nil => .nil
  | _, .non r => .non (r.mono h h')
  | _, .one k r => .one (k.mono h h') (r.mono h h')
end
theorem BdL.app {B C : Nat} : ∀ {ks js : List PyData}, BdL B C ks → BdL B C js → BdL B C (ks ++ js)
  | _, _, .nil, h => h
  | _, _, .non r, h => .non (r.app h)
  | _, _, .one k r, h => .one k (r.app h)
theorem sizeL_app (a b : List PyData) : sizeL (a ++ b) = sizeL a + sizeL b := by
  induction a with
  | nil => simp [sizeL]
  | cons k r ih =>
    simp only [List.cons_append, sizeL, ih]
    omega
theorem deepL_app (a b : List PyData) : deepL (a ++ b) = max (deepL a) (deepL b) := by
  induction a with
  | nil => simp [deepL]
  | cons k r ih =>
    simp only [List.cons_append, deepL, ih]
    omega
end PZ

set_option Elab.async false
set_option linter.all false
set_option maxRecDepth 100000
set_option maxHeartbeats 8000000
namespace PZ
open PySem PySem.Spec PyProof.Rows L2 He XH XV XR PEN TR XQ Evl

/-! ### lengths of texts -/
theorem app_len (a b : Str) : (a ++ b).length = a.length + b.length := by
  obtain ⟨a⟩ := a
  obtain ⟨b⟩ := b
  show (a ++ b).size = a.size + b.size
  simp
theorem empty_app (w : Str) : Str.empty ++ w = w := by
  obtain ⟨a⟩ := w
  show (⟨#[] ++ a⟩ : Str) = ⟨a⟩
  simp
theorem joinL_len (S : List Nat) : ∀ ls : List (List Nat), (TL.joinL S ls).length ≤ (ls.map (·.length)).sum + ls.length * S.length
  | [] => Nat.zero_le _
  | [p] => by
    show p.length ≤ (p.length + 0) + 1 * S.length
    omega
  | p :: q :: r => by
    have k := joinL_len S (q :: r)
    show (p ++ (S ++ TL.joinL S (q :: r))).length ≤ _
    rw [List.length_append, List.length_append, List.map_cons, List.sum_cons, List.length_cons, Nat.succ_mul]
    omega
theorem join_len (a : Str) (ys : List Str) : (Txt.join a ys).length ≤ (ys.map (·.length)).sum + ys.length * a.length := by
  have z : TL.tl (Txt.join a ys) = TL.joinL (TL.tl a) (ys.map TL.tl) := by
    rw [TL.join_eq, TL.tl_join]
  have l1 : (Txt.join a ys).length = (TL.tl (Txt.join a ys)).length := len_codes _
  have l2 : a.length = (TL.tl a).length := len_codes _
  have l3 : (ys.map TL.tl).map (·.length) = ys.map (·.length) := by
    rw [List.map_map]
    exact List.map_congr_left fun y _ => (len_codes y).symm
  have k := joinL_len (TL.tl a) (ys.map TL.tl)
  rw [l3, List.length_map] at k
  rw [l1, z, l2]
  exact k
theorem sum_le {α : Type} {f : α → Nat} {b : Nat} : ∀ {l : List α}, (∀ x ∈ l, f x ≤ b) → (l.map f).sum ≤ l.length * b
  | [], _ => by simp
  | x :: r, h => by
    have k := sum_le (l := r) fun y hy => h y (List.mem_cons_of_mem _ hy)
    have k2 := h x List.mem_cons_self
    rw [List.map_cons, List.sum_cons, List.length_cons, Nat.succ_mul]
    omega
theorem istr_len {b : Int} (h : b = 0 ∨ b = 1) : (istr b).length = 1 := by
  rcases h with rfl | rfl <;> decide +kernel
theorem bits_sum {bs : List Int} (h : ∀ b ∈ bs, b = 0 ∨ b = 1) : ((bs.map istr).map (·.length)).sum = bs.length := by
  induction bs with
  | nil => rfl
  | cons b r ih =>
    have k := istr_len (h b List.mem_cons_self)
    have k2 := ih fun x hx => h x (List.mem_cons_of_mem _ hx)
    rw [List.map_cons, List.map_cons, List.sum_cons, k2, List.length_cons, k]
    omega
theorem digS_len {bs : List Int} (h : ∀ b ∈ bs, b = 0 ∨ b = 1) : (digS bs).length ≤ bs.length + 1 := by
  unfold digS
  split
  · have : ("." : Str).length = 1 := by decide +kernel
    omega
  · have k := join_len ("" : Str) (bs.map istr)
    have k2 := bits_sum h
    have k3 : ("" : Str).length = 0 := by decide +kernel
    rw [k2, k3] at k
    omega
theorem s1 : ("(" : Str).length = 1 ∧ (")" : Str).length = 1 ∧ ("," : Str).length = 1 ∧ ("-" : Str).length = 1 := by decide +kernel
mutual
theorem spell_len {B C : Nat} (hB : B ≤ 60) (hC : C ≤ 600) : ∀ {d : PyData}, Bd B C d → (spell d).length ≤ 1300 * size d
  | _, .mk (bs := bs) (ks := ks) e h1 h2 h3 h4 => by
    rw [e, spell_nd, size_nd]
    have k := spellL_len hB hC h4
    have kd := digS_len h2
    obtain ⟨p1, p2, p3, p4⟩ := s1
    split
    · omega
    · rw [app_len, app_len, app_len, p1, p2]
      have j := join_len ("," : Str) (spellL ks)
      have l : (spellL ks).length = ks.length := by rw [spellL_map, List.length_map]
      rw [p3, l] at j
      omega
theorem spellL_len {B C : Nat} (hB : B ≤ 60) (hC : C ≤ 600) : ∀ {ks : List PyData}, BdL B C ks → ((spellL ks).map (·.length)).sum ≤ 1300 * sizeL ks + ks.length
  | _, .nil => by simp [spellL]
  | _, .non r => by
    have k := spellL_len hB hC r
    obtain ⟨p1, p2, p3, p4⟩ := s1
    simp only [spellL, spell_non, sizeL, size_non, List.map_cons, List.sum_cons, List.length_cons, p4]
    omega
  | _, .one h r => by
    have k := spellL_len hB hC r
    have k2 := spell_len hB hC h
    simp only [spellL, sizeL, List.map_cons, List.sum_cons, List.length_cons]
    omega
end

/-! ### what keeps tuples and instances as they are -/
structure Kp (H H' : Hp) : Prop where
  ins : ∀ c C dx fs, fs ≠ [] → H c = some (.ins C dx fs) → H' c = some (.ins C dx fs)
  tup : ∀ c xs, Rd H c (.tup xs) → Rd H' c (.tup xs)
theorem Kp.refl (H : Hp) : Kp H H := ⟨fun _ _ _ _ _ h => h, fun _ _ h => h⟩
theorem Kp.trans {H H1 H2 : Hp} (a : Kp H H1) (b : Kp H1 H2) : Kp H H2 := ⟨fun c C dx fs n h => b.ins c C dx fs n (a.ins c C dx fs n h), fun c xs h => b.tup c xs (a.tup c xs h)⟩
theorem Kp.of {H H' : Hp} (e : Ex H H') : Kp H H' := ⟨fun c C dx fs _ h => e _ _ h, fun c xs h => ex_rd e h⟩
theorem Kp.lst {H : Hp} {D : Addr} {ys : List V} {o : HO} (hD : H D = some (.lst ys)) : Kp H (upd H D o) :=
  ⟨fun c C dx fs _ h => (upd_ne (fun e => by rw [e, hD] at h; cases h)).trans h, fun c xs h => by
    rcases h with h | ⟨o, h⟩
    · exact .inl ((upd_ne (fun e => by rw [e, hD] at h; cases h)).trans h)
    · exact .inr ⟨o, (upd_ne (fun e => by rw [e, hD] at h; cases h)).trans h⟩⟩
theorem Kp.xa {H H' : Hp} {a C dx : Addr} (ha : H a = some (.ins C dx [])) (k : Xa a H H') : Kp H H' :=
  ⟨fun c C' dx' fs n h => k c _ (fun e => by rw [e, ha] at h; injection h with h; injection h with _ _ h; exact n h.symm) h, fun c xs h => by
    rcases h with h | ⟨o, h⟩
    · exact .inl (k c _ (fun e => by rw [e, ha] at h; cases h) h)
    · exact .inr ⟨o, k c _ (fun e => by rw [e, ha] at h; cases h) h⟩⟩
theorem Kp.px {H H' : Hp} {p l : Addr} {n : Nat} (hP : Pen p l n H) (k : Px p l H H') : Kp H H' := by
  obtain ⟨c, ns, e1, e2, _⟩ := hP
  refine ⟨fun c C' dx' fs n h => k.get (fun e => by rw [e, e1] at h; cases h) (fun e => by rw [e, e2] at h; cases h) h, fun c xs h => ?_⟩
  rcases h with h | ⟨o, h⟩
  · exact .inl (k.get (fun e => by rw [e, e1] at h; cases h) (fun e => by rw [e, e2] at h; cases h) h)
  · exact .inr ⟨o, k.get (fun e => by rw [e, e1] at h; cases h) (fun e => by rw [e, e2] at h; cases h) h⟩
theorem Kp.t {K : PySem.W.Frag} {H H' : Hp} (k : Kp H H') {a : Addr} {xs : List V} (h : SqT K H a xs) : SqT K H' a xs := by
  rcases h with h | h
  · exact .inl (k.tup _ _ h)
  · exact .inr h
mutual
def tupD : PyData → Bool
  | .list _ => false
  | .dict _ => false
  | .tuple ds => tupDs ds
  | _ => true
def tupDs : List PyData → Bool
  | [] => true
  | d :: r => tupD d && tupDs r
end
mutual
theorem dp_kp {K : PySem.W.Frag} {H H' : Hp} (k : Kp H H') : ∀ (d : PyData) (v : V), tupD d = true → Dp K H v d → Dp K H' v d
  | .none, _, _, h => by
    cases h
    exact .non
  | .bool b, _, _, h => by
    cases h
    exact .bl b
  | .int i, _, _, h => by
    cases h
    exact .int i
  | .str x, _, _, h => by
    cases h
    exact .str x
  | .list ds, _, t, h => by simp [tupD] at t
  | .dict ds, _, t, h => by simp [tupD] at t
  | .tuple ds, _, t, h => by
    simp only [tupD] at t
    cases h with
    | tup h1 h2 => exact .tup (k.t h1) (dps_kp k ds _ t h2)
theorem dps_kp {K : PySem.W.Frag} {H H' : Hp} (k : Kp H H') : ∀ (ds : List PyData) (vs : List V), tupDs ds = true → DpAll K H vs ds → DpAll K H' vs ds
  | [], _, _, h => by
    cases h
    exact .nil
  | d :: ds, _, t, h => by
    simp only [tupDs, Bool.and_eq_true] at t
    cases h with
    | cons h1 h2 => exact .cons (dp_kp k d _ t.1 h1) (dps_kp k ds _ t.2 h2)
end
theorem tupDs_ints (bs : List Int) : tupDs (bs.map PyData.int) = true := by
  induction bs with
  | nil => rfl
  | cons b r ih => simp [tupDs, tupD, ih]
mutual
theorem bd_tup {B C : Nat} : ∀ {d : PyData}, Bd B C d → tupD d = true
  | _, .mk (bs := bs) (ks := ks) e h1 h2 h3 h4 => by
    rw [e]
    simp [nd, tupD, tupDs, tupDs_ints, bdL_tup h4]
theorem bdL_tup {B C : Nat} : ∀ {ks : List PyData}, BdL B C ks → tupDs ks = true
  | _, .nil => rfl
  | _, .non r => by simp [tupDs, tupD, bdL_tup r]
  | _, .one h r => by simp [tupDs, bd_tup h, bdL_tup r]
end
theorem dp_ints {K : PySem.W.Frag} {H : Hp} : ∀ {bs : List Int} {vs : List V}, DpAll K H vs (bs.map PyData.int) → vs = bs.map V.int
  | [], _, h => by
    cases h
    rfl
  | b :: r, _, h => by
    cases h with
    | cons h1 h2 =>
      cases h1
      rw [dp_ints h2]
      rfl
theorem dp_nums {K : PySem.W.Frag} {H : Hp} (bs : List Int) : DpAll K H (bs.map V.int) (bs.map PyData.int) := by
  induction bs with
  | nil => exact .nil
  | cons b r ih => exact .cons (.int b) ih
/-- a tree in a heap -/
theorem dp_nd {K : PySem.W.Frag} {H : Hp} {v : V} {bs : List Int} {ks : List PyData} (h : Dp K H v (nd bs ks)) : ∃ t tb tk vs, v = .ref t ∧ SqT K H t [.ref tb, .ref tk] ∧ SqT K H tb (bs.map V.int) ∧ SqT K H tk vs ∧ DpAll K H vs ks := by
  unfold nd at h
  cases h with
  | tup h1 h2 =>
    cases h2 with
    | cons h3 h4 =>
      cases h3 with
      | tup h5 h6 =>
        cases h4 with
        | cons h7 h8 =>
          cases h8
          cases h7 with
          | tup h9 h10 =>
            have e := dp_ints h6
            subst e
            exact ⟨_, _, _, _, rfl, h1, h5, h9, h10⟩
theorem nd_dp {K : PySem.W.Frag} {H : Hp} {t tb tk : Addr} {vs : List V} {bs : List Int} {ks : List PyData} (h1 : SqT K H t [.ref tb, .ref tk]) (h2 : SqT K H tb (bs.map V.int)) (h3 : SqT K H tk vs) (h4 : DpAll K H vs ks) : Dp K H (.ref t) (nd bs ks) :=
  .tup h1 (.cons (.tup h2 (dp_nums bs)) (.cons (.tup h3 h4) .nil))

/-! ### puzzles -/
mutual
inductive Pz (K : PySem.W.Frag) (H : Hp) : Addr → PyData → Prop
  | mk {a dx ba ca : Addr} {d : PyData} {bs : List Int} {ks : List PyData} {vs : List V} (e : d = nd bs ks) (b : Bd 60 600 d)
      (h : H a = some (.ins (ga K "Puzzle") dx [("bits", .ref ba), ("children", .ref ca), ("size", .int (size d : Nat)), ("depth", .int (deep d : Nat)), ("spelling", .str (spell d))]))
      (hb : SqT K H ba (bs.map V.int)) (hc : SqT K H ca vs) (hk : PzL K H vs ks) : Pz K H a d
inductive PzL (K : PySem.W.Frag) (H : Hp) : List V → List PyData → Prop
  | nil : PzL K H [] []
  | non {vs : List V} {ks : List PyData} (r : PzL K H vs ks) : PzL K H (.non :: vs) (.none :: ks)
  | one {a : Addr} {vs : List V} {k : PyData} {ks : List PyData} (h : Pz K H a k) (r : PzL K H vs ks) : PzL K H (.ref a :: vs) (k :: ks)
end
theorem Pz.kp {K : PySem.W.Frag} {H H' : Hp} (k : Kp H H') {a : Addr} {d : PyData} (h : Pz K H a d) : Pz K H' a d := by
  refine Pz.rec (motive_1 := fun a d _ => Pz K H' a d) (motive_2 := fun vs ks _ => PzL K H' vs ks) ?_ ?_ ?_ ?_ h
  · intro a dx ba ca d bs ks vs e b h hb hc hk ih
    exact .mk e b (k.ins _ _ _ _ (fun z => nomatch z) h) (k.t hb) (k.t hc) ih
  · exact .nil
  · intro vs ks r ih
    exact .non ih
  · intro a vs d ks h r ih1 ih2
    exact .one ih1 ih2
theorem PzL.kp {K : PySem.W.Frag} {H H' : Hp} (k : Kp H H') : ∀ {vs : List V} {ks : List PyData}, PzL K H vs ks → PzL K H' vs ks
  | _, _, .nil => .nil
  | _, _, .non r => .non (r.kp k)
  | _, _, .one h r => .one (h.kp k) (r.kp k)
theorem Pz.bd {K : PySem.W.Frag} {H : Hp} {a : Addr} {d : PyData} (h : Pz K H a d) : Bd 60 600 d := by
  cases h with
  | mk e b _ _ _ _ => exact b
theorem PzL.bd {K : PySem.W.Frag} {H : Hp} : ∀ {vs : List V} {ks : List PyData}, PzL K H vs ks → BdL 60 600 ks
  | _, _, .nil => .nil
  | _, _, .non r => .non r.bd
  | _, _, .one h r => .one h.bd r.bd
theorem PzL.len {K : PySem.W.Frag} {H : Hp} : ∀ {vs : List V} {ks : List PyData}, PzL K H vs ks → vs.length = ks.length
  | _, _, .nil => rfl
  | _, _, .non r => by rw [List.length_cons, List.length_cons, r.len]
  | _, _, .one _ r => by rw [List.length_cons, List.length_cons, r.len]
theorem PzL.app {K : PySem.W.Frag} {H : Hp} : ∀ {vs ws : List V} {ks js : List PyData}, PzL K H vs ks → PzL K H ws js → PzL K H (vs ++ ws) (ks ++ js)
  | _, _, _, _, .nil, h => h
  | _, _, _, _, .non r, h => .non (r.app h)
  | _, _, _, _, .one k r, h => .one k (r.app h)
theorem PzL.take {K : PySem.W.Frag} {H : Hp} : ∀ {vs : List V} {ks : List PyData} (n : Nat), PzL K H vs ks → PzL K H (vs.take n) (ks.take n)
  | _, _, 0, _ => .nil
  | _, _, n + 1, .nil => .nil
  | _, _, n + 1, .non r => .non (r.take n)
  | _, _, n + 1, .one h r => .one h (r.take n)
/-- a child at its place -/
theorem PzL.at {K : PySem.W.Frag} {H : Hp} : ∀ {vs : List V} {ks : List PyData}, PzL K H vs ks → ∀ {i : Nat} {v : V}, vs[i]? = some v → ∃ k, ks[i]? = some k ∧ ((v = .non ∧ k = .none) ∨ ∃ c, v = .ref c ∧ Pz K H c k)
  | _, _, .nil, i, v, h => by cases h
  | _, _, .non r, 0, v, h => by
    cases h
    exact ⟨_, rfl, .inl ⟨rfl, rfl⟩⟩
  | _, _, .one p r, 0, v, h => by
    cases h
    exact ⟨_, rfl, .inr ⟨_, rfl, p⟩⟩
  | _, _, .non r, i + 1, v, h => r.at (i := i) h
  | _, _, .one p r, i + 1, v, h => r.at (i := i) h

theorem spellL_at {ks : List PyData} {i : Nat} {k : PyData} (h : ks[i]? = some k) : (spellL ks)[i]? = some (spell k) := by
  rw [spellL_map, List.getElem?_map, h]
  rfl
theorem keep_bits (bs : List Int) : keepN (fun v : V => decide (v = .int 0)) (bs.map V.int) = keepN isZ bs := by
  rw [keepN_map]
  refine keepN_congr fun b _ => ?_
  unfold isZ
  by_cases h : b = 0
  · subst h
    rfl
  · rw [decide_eq_false h]
    exact decide_eq_false fun e => h (by injection e)
theorem keep_kids {K : PySem.W.Frag} {H : Hp} : ∀ {ws : List V} {ks : List PyData}, PzL K H ws ks → keepN (fun v : V => decide (v = .non)) ws = keepN isN ks
  | _, _, .nil => rfl
  | _, _, .non r => by
    have k := keep_kids r
    simp only [keepN, k, isN]
    rfl
  | _, _, .one (k := d) h r => by
    have k := keep_kids r
    have e := h.bd.notN
    simp only [keepN, k, e]
    rfl
theorem PzL.nodes {K : PySem.W.Frag} {H : Hp} : ∀ {ws : List V} {ks : List PyData}, PzL K H ws ks → PzL K H (ws.filter fun v => !decide (v = .non)) (ks.filter fun k => !isN k)
  | _, _, .nil => .nil
  | _, _, .non r => by
    have k := r.nodes
    rw [List.filter_cons, List.filter_cons, if_neg (by decide), if_neg (by decide)]
    exact k
  | _, _, .one (k := d) h r => by
    have k := r.nodes
    have e := h.bd.notN
    rw [List.filter_cons, List.filter_cons, if_pos (by rw [decide_eq_false (by intro z; cases z)]; rfl), if_pos (by rw [e]; rfl)]
    exact .one h k
theorem PzL.ref {K : PySem.W.Frag} {H : Hp} {ws : List V} {ks : List PyData} (h : PzL K H ws ks) (n : ∀ k ∈ ks, isN k = false) {i : Nat} {v : V} (hv : ws[i]? = some v) : ∃ c k, v = .ref c ∧ ks[i]? = some k ∧ Pz K H c k := by
  obtain ⟨k, hk, cas⟩ := h.at hv
  rcases cas with ⟨_, rfl⟩ | ⟨c, rfl, hp⟩
  · have := n _ (List.mem_of_getElem? hk)
    cases this
  · exact ⟨c, k, rfl, hk, hp⟩
theorem size_nodes (ks : List PyData) : ((ks.filter fun k => !isN k).map size).sum = sizeL ks := by
  induction ks with
  | nil => rfl
  | cons k r ih =>
    rw [List.filter_cons]
    cases h : isN k with
    | true =>
      have e : k = .none := by
        cases k <;> first | rfl | cases h
      rw [if_neg (by decide), ih, e]
      simp [sizeL, size_non]
    | false =>
      rw [if_pos (by decide), List.map_cons, List.sum_cons, ih]
      simp [sizeL]
theorem fold_max : ∀ (l : List Nat) (m : Nat), (l.map fun n : Nat => (n : Int)).foldl max (m : Int) = ((l.foldl max m : Nat) : Int)
  | [], _ => rfl
  | n :: r, m => by
    rw [List.map_cons, List.foldl_cons, List.foldl_cons]
    have e : max (m : Int) (n : Int) = ((max m n : Nat) : Int) := by omega
    rw [e, fold_max r]
theorem max_nodes : ∀ (ks : List PyData) (m : Nat), ((ks.filter fun k => !isN k).map deep).foldl max m = max m (deepL ks)
  | [], m => by simp [deepL]
  | k :: r, m => by
    rw [List.filter_cons]
    cases h : isN k with
    | true =>
      have e : k = .none := by
        cases k <;> first | rfl | cases h
      rw [if_neg (by decide), max_nodes r m, e]
      simp [deepL, deep_non]
    | false =>
      rw [if_pos (by decide), List.map_cons, List.foldl_cons, max_nodes r]
      simp only [deepL]
      omega
theorem deep_nodes (ks : List PyData) : mxD 0 (((ks.filter fun k => !isN k).map deep).map fun n : Nat => (n : Int)) = (deepL ks : Nat) := by
  have k := max_nodes ks 0
  cases e : (ks.filter fun k => !isN k).map deep with
  | nil =>
    rw [e] at k
    simp only [List.foldl_nil] at k
    show (0 : Int) = _
    omega
  | cons n r =>
    rw [e] at k
    rw [List.foldl_cons] at k
    show (r.map fun n : Nat => (n : Int)).foldl max (n : Int) = _
    rw [fold_max]
    have e2 : max 0 n = n := by omega
    rw [e2] at k
    omega
/-- tuple(xs) of a list or a tuple -/
theorem tup_go {K : PySem.W.Frag} {H : Hp} {p : Addr} {ys : List V} {Q : VK} (h : SqL K H p ys ∨ SqT K H p ys) (k : ∀ r H', Ex H H' → SqT K H' r ys → Q (.ref r) H') : (SqL K H p ys ∧ ∀ l, H l = none → Q (.ref l) (upd H l (.tup ys))) ∨ (SqT K H p ys ∧ Q (.ref p) H) := by
  rcases h with h | h
  · exact .inl ⟨h, fun l hl => k l _ (Ex.new hl) (st_of upd_same)⟩
  · exact .inr ⟨h, k p H (Ex.refl H) h⟩
/-- x = tuple(xs), xs a list or a tuple -/
def rTup (K : PySem.W.Frag) : List V → Hp → VK → Prop := fun xs H Q => ∃ p ys, xs = [.ref p] ∧ ((SqL K H p ys ∧ ∀ l, H l = none → Q (.ref l) (upd H l (.tup ys))) ∨ (SqT K H p ys ∧ Q (.ref p) H))
theorem q_tup {K : PySem.W.Frag} {te : TE} {i : Nat} {tz : TS} {D : Ends} {σ : L2.St} {H : Hp} {p : Addr} {ys : List V} (he : Ev te σ H (.ref p)) (h : SqL K H p ys ∨ SqT K H p ys) (k : ∀ r H', Ex H H' → SqT K H' r ys → tz D (σ.set i (some (.ref r))) H') : tSeq (tAsg (tCB (rTup K) (tCons te tNil)) (gName i)) tz D σ H :=
  he H (Ex.refl H) _ fun H1 e1 => ⟨p, ys, rfl, tup_go (Q := fun v H' => tz D (σ.set i (some v)) H') (h.imp (ex_l e1) (ex_t e1)) fun r H' e g => k r H' (e1.trans e) g⟩
theorem take_all {α : Type} {l : List α} {n : Nat} (h : l.length ≤ n) : l.take n = l := List.take_of_length_le h
/-! ### data that may be compared -/
theorem layNums (bs : List Int) : PyData.canLayAll0 (bs.map PyData.int) = true := by
  induction bs with
  | nil => simp [PyData.canLayAll0]
  | cons b r ih => simp [PyData.canLayAll0, PyData.canLay0, ih]
mutual
theorem lay_bd {B C : Nat} : ∀ {d : PyData}, Bd B C d → PyData.canLay0 d = true
  | _, .mk (bs := bs) (ks := ks) e h1 h2 h3 h4 => by
    rw [e]
    simp [nd, PyData.canLay0, PyData.canLayAll0, layNums, lay_bdL h4]
theorem lay_bdL {B C : Nat} : ∀ {ks : List PyData}, BdL B C ks → PyData.canLayAll0 ks = true
  | _, .nil => by simp [PyData.canLayAll0]
  | _, .non r => by simp [PyData.canLayAll0, PyData.canLay0, lay_bdL r]
  | _, .one h r => by simp [PyData.canLayAll0, lay_bd h, lay_bdL r]
end
mutual
theorem dep_bd {B C : Nat} : ∀ {d : PyData}, Bd B C d → PyData.depth d ≤ 2 * deep d + 1
  | _, .mk (bs := bs) (ks := ks) e h1 h2 h3 h4 => by
    rw [e, deep_nd]
    have k := depth_nums bs
    have k2 := dep_bdL h4
    simp only [nd, PyData.depth, PyData.depthAll]
    omega
theorem dep_bdL {B C : Nat} : ∀ {ks : List PyData}, BdL B C ks → PyData.depthAll ks ≤ 2 * deepL ks + 1
  | _, .nil => by simp [PyData.depthAll]
  | _, .non r => by
    have k := dep_bdL r
    simp only [PyData.depthAll, PyData.depth, deepL, deep_non]
    omega
  | _, .one h r => by
    have k := dep_bdL r
    have k2 := dep_bd h
    simp only [PyData.depthAll, deepL]
    omega
end
theorem shp_bd {B C : Nat} {d : PyData} (h : Bd B C d) (hd : deep d ≤ 31) : SeqAt.shaped d = true := by
  have k := dep_bd h
  unfold SeqAt.shaped
  rw [Bool.and_eq_true]
  exact ⟨lay_bd h, decide_eq_true (by omega)⟩
theorem shp_kids {B C : Nat} {ks : List PyData} (h : BdL B C ks) (hd : deepL ks ≤ 30) : SeqAt.shaped (.tuple ks) = true := by
  have k := dep_bdL h
  unfold SeqAt.shaped
  rw [Bool.and_eq_true]
  refine ⟨by simp [PyData.canLay0, lay_bdL h], decide_eq_true ?_⟩
  simp only [PyData.depth]
  omega
theorem shp_nums (bs : List Int) : SeqAt.shaped (.tuple (bs.map PyData.int)) = true := by
  have k := depth_nums bs
  unfold SeqAt.shaped
  rw [Bool.and_eq_true]
  refine ⟨by simp [PyData.canLay0, layNums], decide_eq_true ?_⟩
  simp only [PyData.depth]
  omega
theorem eqv_non (d : PyData) : PyData.eqv d .none = isN d := by
  cases d <;> rfl
theorem eqv_zero (b : Int) : PyData.eqv (.int b) (.int 0) = isZ b := by
  show (b == 0) = decide (b = 0)
  by_cases h : b = 0 <;> simp [h]
theorem keep_nums (bs : List Int) : keepN (fun d => PyData.eqv d (.int 0)) (bs.map PyData.int) = keepN isZ bs := by
  rw [keepN_map]
  exact keepN_congr fun b _ => eqv_zero b
theorem keep_nons (ks : List PyData) : keepN (fun d => PyData.eqv d .none) ks = keepN isN ks := keepN_congr fun d _ => eqv_non d
theorem dps_take {K : PySem.W.Frag} {H : Hp} : ∀ {vs : List V} {ds : List PyData} (n : Nat), DpAll K H vs ds → DpAll K H (vs.take n) (ds.take n)
  | _, _, 0, _ => .nil
  | _, _, n + 1, .nil => .nil
  | _, _, n + 1, .cons h r => .cons h (dps_take n r)
theorem ev_call {sp : Sp} {ta : TA} {σ : L2.St} {H : Hp} {vs : List V} {v : V} (h : EvA ta σ H vs) (hs : ∀ H1, Ex H H1 → ∀ Q : VK, (∀ H2, Ex H1 H2 → Q v H2) → sp (vs ++ []) H1 Q E0) : Ev (tCall sp [] E0 ta) σ H v := fun H1 e Q q =>
  h H1 e _ fun H2 e2 => hs H2 (e.trans e2) Q fun H3 e3 => q H3 (e2.trans e3)
theorem rv_ix {K : PySem.W.Frag} {H : Hp} {p : Addr} {xs : List V} {i : Int} {v : V} (h : SqL K H p xs ∨ SqT K H p xs) (ha : atI xs i = some v) : RV (rIx K) (.ref p) (.int i) H v := fun H1 e Q q => by
  rcases h with h | h
  · exact .inl ⟨p, xs, i, v, rfl, rfl, ex_l e h, ha, q H1 (Ex.refl _)⟩
  · exact .inr (.inl ⟨p, xs, i, v, rfl, rfl, ex_t e h, ha, q H1 (Ex.refl _)⟩)
theorem rv_neD {K : PySem.W.Frag} {H : Hp} {x y : V} {d e : PyData} (hd : Dp K H x d) (he : Dp K H y e) (sd : SeqAt.shaped d = true) (se : SeqAt.shaped e = true) : RV (rNeD K) x y H (.bl (!PyData.eqv d e)) := fun H1 a Q q => ⟨d, e, dpM a _ _ hd, dpM a _ _ he, sd, se, q H1 (Ex.refl _)⟩
theorem rv_eqD {K : PySem.W.Frag} {H : Hp} {x y : V} {d e : PyData} (hd : Dp K H x d) (he : Dp K H y e) (sd : SeqAt.shaped d = true) (se : SeqAt.shaped e = true) : RV (rEqD K) x y H (.bl (PyData.eqv d e)) := fun H1 a Q q => ⟨d, e, dpM a _ _ hd, dpM a _ _ he, sd, se, q H1 (Ex.refl _)⟩
theorem rv_isNo {H : Hp} {x : V} : RV (fun x y H Q => y = .non ∧ Q (.bl (decide (x = .non))) H) x .non H (.bl (decide (x = .non))) := fun H1 _ Q q => ⟨rfl, q H1 (Ex.refl _)⟩
theorem rv_notNo {H : Hp} {x : V} : RV (fun x y H Q => y = .non ∧ Q (.bl (!decide (x = .non))) H) x .non H (.bl (!decide (x = .non))) := fun H1 _ Q q => ⟨rfl, q H1 (Ex.refl _)⟩
theorem dp_non {K : PySem.W.Frag} {H : Hp} {B C : Nat} {v : V} {d : PyData} (h : Dp K H v d) (hd : d = .none ∨ Bd B C d) : (v = .non ∧ d = .none) ∨ (∃ t, v = .ref t ∧ Bd B C d) := by
  rcases hd with rfl | hb
  · cases h
    exact .inl ⟨rfl, rfl⟩
  · obtain ⟨bs, ks, rfl, _⟩ := id hb.un
    obtain ⟨t, _, _, _, rfl, _⟩ := dp_nd h
    exact .inr ⟨t, rfl, hb⟩
theorem deepL_mem (ks : List PyData) : deepL ks = 0 ∨ ∃ k ∈ ks, deep k = deepL ks := by
  induction ks with
  | nil => exact .inl (by simp [deepL])
  | cons k r ih =>
    simp only [deepL]
    by_cases h : deepL r ≤ deep k
    · exact .inr ⟨k, List.mem_cons_self, by omega⟩
    · rcases ih with e | ⟨x, hx, e⟩
      · omega
      · exact .inr ⟨x, List.mem_cons_of_mem _ hx, by omega⟩
theorem eqv_same {d : PyData} (h : SeqAt.shaped d = true) : PyData.eqv d d = true := SeqAt.eqv_refl d (SeqAt.canLay_of_shaped h)
end PZ

set_option Elab.async false
set_option linter.all false
set_option maxRecDepth 100000
set_option maxHeartbeats 8000000
/-! Unlike trees have unlike spellings. -/
namespace PZ
open PySem PySem.Spec PyProof.Rows L2 He XH XV XR PEN TR XQ Evl

def cd (z : Str) : List Nat := z.cps.toList
theorem str_ext {a b : Str} (h : cd a = cd b) : a = b := by
  obtain ⟨x⟩ := a
  obtain ⟨y⟩ := b
  have e : x = y := Array.toList_inj.mp h
  rw [e]
theorem app_cd (a b : Str) : cd (a ++ b) = cd a ++ cd b := by
  obtain ⟨x⟩ := a
  obtain ⟨y⟩ := b
  show (x ++ y).toList = _
  simp [cd]
theorem join_cd (a : Str) (ys : List Str) : cd (Txt.join a ys) = TL.joinL (cd a) (ys.map cd) := by
  have z : TL.tl (Txt.join a ys) = TL.joinL (TL.tl a) (ys.map TL.tl) := by
    rw [TL.join_eq, TL.tl_join]
  exact z
def dg (b : Int) : Nat := if b = 0 then 48 else 49
theorem dg_two (b : Int) : dg b = 48 ∨ dg b = 49 := by
  unfold dg
  split
  · exact .inl rfl
  · exact .inr rfl
theorem dg_inj {b b' : Int} (h : b = 0 ∨ b = 1) (h' : b' = 0 ∨ b' = 1) (e : dg b = dg b') : b = b' := by
  rcases h with rfl | rfl <;> rcases h' with rfl | rfl <;> first | rfl | cases e
def dgc (bs : List Int) : List Nat := if bs = [] then [46] else bs.map dg
theorem joinL_ones : ∀ cs : List Nat, TL.joinL [] (cs.map fun c => [c]) = cs
  | [] => rfl
  | [c] => rfl
  | c :: d :: r => by
    show [c] ++ ([] ++ TL.joinL [] ((d :: r).map fun c => [c])) = c :: d :: r
    rw [joinL_ones (d :: r)]
    rfl
theorem digS_cd {bs : List Int} (h : ∀ b ∈ bs, b = 0 ∨ b = 1) : cd (digS bs) = dgc bs := by
  have j : cd (Txt.join ("" : Str) (bs.map istr)) = bs.map dg := by
    rw [join_cd, List.map_map]
    have e : cd ("" : Str) = [] := by decide +kernel
    rw [e]
    have e2 : bs.map (cd ∘ istr) = (bs.map dg).map fun c => [c] := by
      rw [List.map_map]
      refine List.map_congr_left fun b hb => ?_
      rcases h b hb with rfl | rfl <;> decide +kernel
    rw [e2, joinL_ones]
  have l : (Txt.join ("" : Str) (bs.map istr)).length = bs.length := by
    have z : (Txt.join ("" : Str) (bs.map istr)).length = (cd (Txt.join ("" : Str) (bs.map istr))).length := len_codes _
    rw [z, j, List.length_map]
  unfold digS dgc
  cases bs with
  | nil => decide +kernel
  | cons b r =>
    rw [if_neg (by rw [l]; simp), if_neg (by simp)]
    exact j
/-- what may stand behind a node -/
def term (x : List Nat) : Prop := ∀ c r, x = c :: r → c = 44 ∨ c = 41
theorem dgc_head (bs : List Int) : ∃ c r, dgc bs = c :: r ∧ (c = 46 ∨ c = 48 ∨ c = 49) := by
  unfold dgc
  cases bs with
  | nil => exact ⟨46, [], rfl, .inl rfl⟩
  | cons b r =>
    exact ⟨dg b, r.map dg, rfl, .inr (dg_two b)⟩
/-- runs of digits are told from what is behind them -/
theorem runs : ∀ {bs bs' : List Int} {x y : List Nat}, (∀ b ∈ bs, b = 0 ∨ b = 1) → (∀ b ∈ bs', b = 0 ∨ b = 1) → (∀ c r, x = c :: r → c ≠ 48 ∧ c ≠ 49) → (∀ c r, y = c :: r → c ≠ 48 ∧ c ≠ 49) →
    bs.map dg ++ x = bs'.map dg ++ y → bs = bs' ∧ x = y
  | [], [], _, _, _, _, _, _, h => ⟨rfl, h⟩
  | [], b :: r, x, y, _, _, hx, _, h => by
    have z := hx (dg b) _ h
    rcases dg_two b with e | e
    · exact absurd e z.1
    · exact absurd e z.2
  | b :: r, [], x, y, _, _, _, hy, h => by
    have z := hy (dg b) _ h.symm
    rcases dg_two b with e | e
    · exact absurd e z.1
    · exact absurd e z.2
  | b :: r, b' :: r', x, y, h1, h2, hx, hy, h => by
    rw [List.map_cons, List.map_cons, List.cons_append, List.cons_append] at h
    injection h with e1 e2
    obtain ⟨k1, k2⟩ := runs (fun c hc => h1 c (List.mem_cons_of_mem _ hc)) (fun c hc => h2 c (List.mem_cons_of_mem _ hc)) hx hy e2
    refine ⟨?_, k2⟩
    rw [dg_inj (h1 b List.mem_cons_self) (h2 b' List.mem_cons_self) e1, k1]
theorem dgc_app {bs bs' : List Int} {x y : List Nat} (h1 : ∀ b ∈ bs, b = 0 ∨ b = 1) (h2 : ∀ b ∈ bs', b = 0 ∨ b = 1) (hx : ∀ c r, x = c :: r → c ≠ 48 ∧ c ≠ 49) (hy : ∀ c r, y = c :: r → c ≠ 48 ∧ c ≠ 49) (h : dgc bs ++ x = dgc bs' ++ y) : bs = bs' ∧ x = y := by
  unfold dgc at h
  by_cases e : bs = []
  · rw [if_pos e] at h
    by_cases e' : bs' = []
    · rw [if_pos e'] at h
      injection h with _ h
      exact ⟨by rw [e, e'], h⟩
    · rw [if_neg e'] at h
      cases bs' with
      | nil => exact absurd rfl e'
      | cons b r =>
        rw [List.map_cons] at h
        injection h with h _
        rcases dg_two b with e2 | e2 <;> (rw [e2] at h; cases h)
  · rw [if_neg e] at h
    by_cases e' : bs' = []
    · rw [if_pos e'] at h
      cases bs with
      | nil => exact absurd rfl e
      | cons b r =>
        rw [List.map_cons] at h
        injection h with h _
        rcases dg_two b with e2 | e2 <;> (rw [e2] at h; cases h)
    · rw [if_neg e'] at h
      exact runs h1 h2 hx hy h
def rest (ks : List PyData) (x : List Nat) : List Nat := if ks = [] then x else 40 :: (TL.joinL [44] ((spellL ks).map cd) ++ (41 :: x))
theorem spell_cd {B C : Nat} {bs : List Int} {ks : List PyData} (h : Bd B C (nd bs ks)) (x : List Nat) : cd (spell (nd bs ks)) ++ x = dgc bs ++ rest ks x := by
  obtain ⟨_, h01, _, _⟩ := h.nd'
  rw [spell_nd]
  unfold rest
  by_cases e : ks = []
  · rw [if_pos e, if_pos e, digS_cd h01]
  · rw [if_neg e, if_neg e, app_cd, app_cd, app_cd, digS_cd h01, join_cd]
    have c1 : cd ("(" : Str) = [40] := by decide +kernel
    have c2 : cd (")" : Str) = [41] := by decide +kernel
    have c3 : cd ("," : Str) = [44] := by decide +kernel
    rw [c1, c2, c3]
    simp only [List.append_assoc, List.cons_append, List.nil_append]
theorem rest_head {ks : List PyData} {x : List Nat} (hx : term x) : ∀ c r, rest ks x = c :: r → c ≠ 48 ∧ c ≠ 49 := by
  intro c r h
  unfold rest at h
  by_cases e : ks = []
  · rw [if_pos e] at h
    rcases hx c r h with rfl | rfl <;> exact ⟨by decide, by decide⟩
  · rw [if_neg e] at h
    injection h with h _
    subst h
    exact ⟨by decide, by decide⟩
theorem joinL_cons (k : List Nat) (r : List (List Nat)) : TL.joinL [44] (k :: r) = k ++ (if r = [] then [] else 44 :: TL.joinL [44] r) := by
  cases r with
  | nil => simp [TL.joinL]
  | cons a r => rfl
theorem none_cd : cd (spell .none) = [45] := by
  rw [spell_non]
  decide +kernel
mutual
theorem spell_pre {B C B' C' : Nat} : ∀ {d d' : PyData} {x y : List Nat}, Bd B C d → (d' = .none ∨ Bd B' C' d') → term x → term y → cd (spell d) ++ x = cd (spell d') ++ y → d = d' ∧ x = y
  | _, d', x, y, .mk (bs := bs) (ks := ks) e h1 h2 h3 h4, hd', hx, hy, h => by
    subst e
    have hb : Bd B C (nd bs ks) := .mk rfl h1 h2 h3 h4
    rw [spell_cd hb] at h
    rcases hd' with rfl | hb'
    · rw [none_cd] at h
      obtain ⟨c, r, e, hc⟩ := dgc_head bs
      rw [e] at h
      injection h with h _
      subst h
      rcases hc with z | z | z <;> cases z
    · obtain ⟨bs', ks', rfl, l1, l2, l3, l4⟩ := id hb'.un
      rw [spell_cd hb'] at h
      obtain ⟨eb, hq⟩ := dgc_app h2 l2 (rest_head hx) (rest_head hy) h
      subst eb
      replace h := hq
      clear hq
      unfold rest at h
      by_cases e : ks = []
      · rw [if_pos e] at h
        by_cases e' : ks' = []
        · rw [if_pos e'] at h
          exact ⟨by rw [e, e'], h⟩
        · rw [if_neg e'] at h
          rcases hx _ _ h with z | z <;> cases z
      · rw [if_neg e] at h
        by_cases e' : ks' = []
        · rw [if_pos e'] at h
          rcases hy _ _ h.symm with z | z <;> cases z
        · rw [if_neg e'] at h
          injection h with _ h
          obtain ⟨eq, hq⟩ := spellL_pre h4 l4 e e' h
          exact ⟨by rw [eq], hq⟩
theorem spellL_pre {B C B' C' : Nat} : ∀ {ks ks' : List PyData} {x y : List Nat}, BdL B C ks → BdL B' C' ks' → ks ≠ [] → ks' ≠ [] → TL.joinL [44] ((spellL ks).map cd) ++ (41 :: x) = TL.joinL [44] ((spellL ks').map cd) ++ (41 :: y) → ks = ks' ∧ x = y
  | _, _, _, _, .nil, _, n, _, _ => absurd rfl n
  | _, [], _, _, _, _, _, n, _ => absurd rfl n
  | _, k' :: r', x, y, .non (ks := r) hr, hk', _, _, h => by
    have hk2 := hk'.at k' List.mem_cons_self
    have hr' : BdL B' C' r' := BdL.of fun z hz => hk'.at z (List.mem_cons_of_mem _ hz)
    simp only [spellL, List.map_cons, joinL_cons, List.append_assoc] at h
    have key : k' = .none ∧ (if (spellL r).map cd = [] then [] else 44 :: TL.joinL [44] ((spellL r).map cd)) ++ (41 :: x) = (if (spellL r').map cd = [] then [] else 44 :: TL.joinL [44] ((spellL r').map cd)) ++ (41 :: y) := by
      rcases hk2 with rfl | hb'
      · exact ⟨rfl, List.append_cancel_left h⟩
      · obtain ⟨bs', ks', rfl, l1, l2, l3, l4⟩ := id hb'.un
        rw [spell_cd hb', none_cd] at h
        obtain ⟨c, q, e, hc⟩ := dgc_head bs'
        rw [e] at h
        injection h with h _
        subst h
        rcases hc with z | z | z <;> cases z
    obtain ⟨ek, hq⟩ := key
    subst ek
    replace h := hq
    clear hq
    by_cases e : r = []
    · subst e
      by_cases e' : r' = []
      · subst e'
        simp [spellL] at h
        exact ⟨rfl, h⟩
      · have n' : (spellL r').map cd ≠ [] := by
          cases r' with
          | nil => exact absurd rfl e'
          | cons a b => simp [spellL]
        rw [if_neg n'] at h
        simp [spellL] at h
    · have n : (spellL r).map cd ≠ [] := by
        cases r with
        | nil => exact absurd rfl e
        | cons a b => simp [spellL]
      rw [if_neg n] at h
      by_cases e' : r' = []
      · subst e'
        simp [spellL] at h
      · have n' : (spellL r').map cd ≠ [] := by
          cases r' with
          | nil => exact absurd rfl e'
          | cons a b => simp [spellL]
        rw [if_neg n'] at h
        injection h with _ h
        obtain ⟨eq, hq⟩ := spellL_pre hr hr' e e' h
        exact ⟨by rw [eq], hq⟩
  | _, k' :: r', x, y, .one (k := k) (ks := r) hk hr, hk', _, _, h => by
    have hk2 := hk'.at k' List.mem_cons_self
    have hr' : BdL B' C' r' := BdL.of fun z hz => hk'.at z (List.mem_cons_of_mem _ hz)
    simp only [spellL, List.map_cons, joinL_cons, List.append_assoc] at h
    have tm : ∀ (r : List PyData) (x : List Nat), term ((if (spellL r).map cd = [] then [] else 44 :: TL.joinL [44] ((spellL r).map cd)) ++ (41 :: x)) := fun r x c q e => by
      split at e
      · injection e with e _
        exact .inr e.symm
      · injection e with e _
        exact .inl e.symm
    obtain ⟨eb, hq⟩ := spell_pre hk hk2 (tm r x) (tm r' y) h
    subst eb
    replace h := hq
    clear hq
    by_cases e : r = []
    · subst e
      by_cases e' : r' = []
      · subst e'
        simp [spellL] at h
        exact ⟨rfl, h⟩
      · have n' : (spellL r').map cd ≠ [] := by
          cases r' with
          | nil => exact absurd rfl e'
          | cons a b => simp [spellL]
        rw [if_neg n'] at h
        simp [spellL] at h
    · have n : (spellL r).map cd ≠ [] := by
        cases r with
        | nil => exact absurd rfl e
        | cons a b => simp [spellL]
      rw [if_neg n] at h
      by_cases e' : r' = []
      · subst e'
        simp [spellL] at h
      · have n' : (spellL r').map cd ≠ [] := by
          cases r' with
          | nil => exact absurd rfl e'
          | cons a b => simp [spellL]
        rw [if_neg n'] at h
        injection h with _ h
        obtain ⟨eq, hq⟩ := spellL_pre hr hr' e e' h
        exact ⟨by rw [eq], hq⟩
end
theorem spell_inj {B C B' C' : Nat} {d d' : PyData} (h : Bd B C d) (h' : Bd B' C' d') (e : spell d = spell d') : d = d' := by
  refine (spell_pre (x := []) (y := []) h (.inr h') (fun c r z => nomatch z) (fun c r z => nomatch z) ?_).1
  rw [e]
theorem eqv_nums : ∀ {bs bs' : List Int}, PyData.eqvAll (bs.map PyData.int) (bs'.map PyData.int) = true → bs = bs'
  | [], [], _ => rfl
  | [], _ :: _, h => by cases h
  | _ :: _, [], h => by cases h
  | b :: r, b' :: r', h => by
    rw [List.map_cons, List.map_cons] at h
    have h2 : ((b == b') && PyData.eqvAll (r.map PyData.int) (r'.map PyData.int)) = true := h
    rw [Bool.and_eq_true] at h2
    rw [beq_iff_eq.mp h2.1, eqv_nums h2.2]
mutual
theorem eqv_bd {B C B' C' : Nat} : ∀ {d d' : PyData}, Bd B C d → (d' = .none ∨ Bd B' C' d') → PyData.eqv d d' = true → d = d'
  | _, d', .mk (bs := bs) (ks := ks) e h1 h2 h3 h4, hd', h => by
    subst e
    rcases hd' with rfl | hb'
    · cases h
    · obtain ⟨bs', ks', rfl, l1, l2, l3, l4⟩ := id hb'.un
      have h5 : (PyData.eqvAll (bs.map PyData.int) (bs'.map PyData.int) && (PyData.eqvAll ks ks' && true)) = true := h
      rw [Bool.and_eq_true, Bool.and_true] at h5
      rw [eqv_nums h5.1, eqv_bdL h4 l4 h5.2]
theorem eqv_bdL {B C B' C' : Nat} : ∀ {ks ks' : List PyData}, BdL B C ks → BdL B' C' ks' → PyData.eqvAll ks ks' = true → ks = ks'
  | _, [], .nil, _, _ => rfl
  | _, _ :: _, .nil, _, h => by cases h
  | _, [], .non _, _, h => by cases h
  | _, [], .one _ _, _, h => by cases h
  | _, k' :: r', .non (ks := r) hr, hk', h => by
    have hr' : BdL B' C' r' := BdL.of fun z hz => hk'.at z (List.mem_cons_of_mem _ hz)
    have h2 : (PyData.eqv .none k' && PyData.eqvAll r r') = true := h
    rw [Bool.and_eq_true] at h2
    have e : k' = .none := by
      rcases hk'.at k' List.mem_cons_self with e | hb
      · exact e
      · obtain ⟨bs', ks', rfl, _⟩ := hb.un
        have := h2.1
        cases this
    rw [e, eqv_bdL hr hr' h2.2]
  | _, k' :: r', .one (k := k) (ks := r) hk hr, hk', h => by
    have hr' : BdL B' C' r' := BdL.of fun z hz => hk'.at z (List.mem_cons_of_mem _ hz)
    have h2 : (PyData.eqv k k' && PyData.eqvAll r r') = true := h
    rw [Bool.and_eq_true] at h2
    rw [eqv_bd hk (hk'.at k' List.mem_cons_self) h2.1, eqv_bdL hr hr' h2.2]
end
/-- == of trees and == of their spellings -/
theorem eq_both {B C B' C' : Nat} {d d' : PyData} (h : Bd B C d) (h' : Bd B' C' d') (hl : deep d ≤ 31) : PyData.eqv d d' = decide (V.str (spell d') = V.str (spell d)) := by
  by_cases e : d = d'
  · subst e
    rw [decide_eq_true rfl]
    exact eqv_same (shp_bd h hl)
  · rw [decide_eq_false fun z => e (spell_inj h h' (by injection z with z; exact z.symm))]
    cases q : PyData.eqv d d' with
    | false => rfl
    | true => exact absurd (eqv_bd h (.inr h') q) e
theorem keepN_rep {α : Type} {p : α → Bool} {x : α} (hx : p x = true) (l : List α) : ∀ n : Nat, keepN p (l ++ List.replicate n x) = keepN p l
  | 0 => by simp
  | n + 1 => by
    rw [List.replicate_succ', ← List.append_assoc, keepN_app, if_pos hx]
    exact keepN_rep hx l n
theorem short_rep {α : Type} {p : α → Bool} {x : α} (hx : p x = true) (l : List α) (n : Nat) : short p (l ++ List.replicate n x) = short p l := by
  unfold short
  rw [keepN_rep hx, List.take_append_of_le_length (keepN_le p l)]
/-! ### data made on the way -/
def rCat2 (K : PySem.W.Frag) : R2 := fun x y H Q => (∃ a b ys, x = .ref a ∧ y = .ref b ∧ SqT K H a [] ∧ SqT K H b ys ∧ Q (.ref b) H) ∨ rCatT K x y H Q
theorem op_cat2 {X : Cx} : OpR X (binaryOp .Add) (rCat2 X.K) := op_or op_catT0 op_catT
def EvD (K : PySem.W.Frag) (te : TE) (σ : L2.St) (H : Hp) (d : PyData) : Prop := ∀ H1, Ex H H1 → ∀ Q : VK, (∀ v H2, Ex H1 H2 → Dp K H2 v d → Q v H2) → te σ H1 Q
def EvDs (K : PySem.W.Frag) (ta : TA) (σ : L2.St) (H : Hp) (ds : List PyData) : Prop := ∀ H1, Ex H H1 → ∀ Q : List V → Hp → Prop, (∀ vs H2, Ex H1 H2 → DpAll K H2 vs ds → Q vs H2) → ta σ H1 Q
section
variable {K : PySem.W.Frag} {σ : L2.St} {H : Hp} {te ta tb ti : TE} {d : PyData} {ds xs ys : List PyData}
theorem ed_of {v : V} (h : Ev te σ H v) (hd : Dp K H v d) : EvD K te σ H d := fun H1 e Q q => h H1 e Q fun H2 e2 => q v H2 e2 (dpM (e.trans e2) _ _ hd)
theorem ed_var {i : Nat} {v : V} (h : σ[i]? = some (some v)) (hd : Dp K H v d) : EvD K (tVar i) σ H d := ed_of (ev_var h) hd
theorem ed_non : EvD K (tC .non) σ H .none := ed_of ev_c .non
theorem ed_int {i : Int} : EvD K (tC (.int i)) σ H (.int i) := ed_of ev_c (.int i)
theorem ed_str {z : Str} : EvD K (tC (.str z)) σ H (.str z) := ed_of ev_c (.str z)
theorem eds_nil : EvDs K tNil σ H [] := fun H1 e Q q => q [] H1 (Ex.refl _) .nil
theorem eds_cons {tr : TA} (h : EvD K te σ H d) (hr : EvDs K tr σ H ds) : EvDs K (tCons te tr) σ H (d :: ds) := fun H1 e Q q =>
  h H1 e _ fun v H2 e2 dv => hr H2 (e.trans e2) _ fun vs H3 e3 dvs => q (v :: vs) H3 (e2.trans e3) (.cons (dpM e3 _ _ dv) dvs)
theorem ed_tup {tt : TA} (h : EvDs K tt σ H ds) (hl : ds.length ≤ 1000) : EvD K (tTup tt) σ H (.tuple ds) := fun H1 e Q q =>
  h H1 e _ fun vs H2 e2 dvs => ⟨fits (by rw [dpAll_len dvs]; exact hl), fun p hp => q (.ref p) _ (e2.trans (Ex.new hp)) (.tup (st_of upd_same) (dpMs (Ex.new hp) _ _ dvs))⟩
theorem ed_cat (h1 : EvD K ta σ H (.tuple xs)) (h2 : EvD K tb σ H (.tuple ys)) (hl : xs.length + ys.length ≤ 1000) : EvD K (tOp (rCat2 K) ta tb) σ H (.tuple (xs ++ ys)) := fun H1 e Q q =>
  h1 H1 e _ fun v H2 e2 dv => h2 H2 (e.trans e2) _ fun u H3 e3 du => by
    cases dv with
    | @tup a vs _ ha hvs =>
      cases du with
      | @tup b us _ hb hus =>
        have lv := dpAll_len hvs
        have lu := dpAll_len hus
        have ha3 := ex_t e3 ha
        have hvs3 := dpMs e3 _ _ hvs
        cases vs with
        | nil =>
          cases xs with
          | nil => exact .inl ⟨a, b, us, rfl, rfl, ha3, hb, q (.ref b) H3 (e2.trans e3) (.tup hb hus)⟩
          | cons x r => cases lv
        | cons v r =>
          refine .inr ⟨a, b, v :: r, us, rfl, rfl, ha3, hb, (fun z => nomatch z), fits (by omega), (fun z => ?_), fun _ p hp => q (.ref p) _ ((e2.trans e3).trans (Ex.new hp)) (.tup (st_of upd_same) (dpMs (Ex.new hp) _ _ (dpAll_app hvs3 hus)))⟩
          subst z
          have e0 : ys = [] := by
            cases ys with
            | nil => rfl
            | cons y s => cases lu
          refine q (.ref a) H3 (e2.trans e3) ?_
          rw [e0, List.append_nil]
          exact .tup ha3 hvs3
theorem ed_take {i : Nat} (h1 : EvD K ta σ H (.tuple xs)) (h2 : Ev ti σ H (.int (i : Nat))) : EvD K (tSl (rSlA K) ta tNoPart (tPart ti)) σ H (.tuple (xs.take i)) := fun H1 e Q q =>
  h1 H1 e _ fun v H2 e2 dv => h2 H2 (e.trans e2) _ fun H3 e3 => ⟨(i : Nat), rfl, by
    cases dv with
    | @tup a vs _ ha hvs =>
      have lv := dpAll_len hvs
      have ha3 := ex_t e3 ha
      have hvs3 := dpMs e3 _ _ hvs
      refine ⟨a, vs, rfl, ha3, fun hw => ?_, fun hw r hr => ?_⟩
      · have w2 := hw.2
        rw [HT.sIx_nat] at w2
        refine q (.ref a) H3 (e2.trans e3) ?_
        rw [take_all (show xs.length ≤ i by omega)]
        exact .tup ha3 hvs3
      · refine q (.ref r) _ ((e2.trans e3).trans (Ex.new hr)) ?_
        refine .tup (st_of (by rw [upd_same, cut_take])) (dps_take _ (dpMs (Ex.new hr) _ _ hvs3))⟩
theorem dps_drop {K : PySem.W.Frag} {H : Hp} : ∀ {vs : List V} {ds : List PyData} (n : Nat), DpAll K H vs ds → DpAll K H (vs.drop n) (ds.drop n)
  | _, _, 0, h => h
  | _, _, n + 1, .nil => .nil
  | _, _, n + 1, .cons h r => dps_drop n r
theorem ed_drop {i : Nat} (h1 : EvD K ta σ H (.tuple xs)) (h2 : Ev ti σ H (.int (i : Nat))) : EvD K (tSl (rSlA K) ta (tPart ti) tNoPart) σ H (.tuple (xs.drop i)) := fun H1 e Q q =>
  h1 H1 e _ fun v H2 e2 dv => h2 H2 (e.trans e2) _ fun H3 e3 => ⟨(i : Nat), rfl, by
    cases dv with
    | @tup a vs _ ha hvs =>
      have lv := dpAll_len hvs
      have ha3 := ex_t e3 ha
      have hvs3 := dpMs e3 _ _ hvs
      refine ⟨a, vs, rfl, ha3, fun hw => ?_, fun hw r hr => ?_⟩
      · have w1 := hw.1
        rw [HT.sIx_nat] at w1
        refine q (.ref a) H3 (e2.trans e3) ?_
        have e0 : xs.drop i = xs := by
          rcases Nat.eq_zero_or_pos i with z | z
          · rw [z]
            rfl
          · have : xs.length = 0 := by omega
            rw [List.length_eq_zero_iff.mp this]
            simp
        rw [e0]
        exact .tup ha3 hvs3
      · refine q (.ref r) _ ((e2.trans e3).trans (Ex.new hr)) ?_
        refine .tup (st_of (by rw [upd_same, cut_drop])) (dps_drop _ (dpMs (Ex.new hr) _ _ hvs3))⟩
theorem ed_ix {i : Nat} (h1 : EvD K ta σ H (.tuple xs)) (h2 : Ev ti σ H (.int (i : Nat))) (hi : xs[i]? = some d) : EvD K (tOp (rIxT K) ta ti) σ H d := fun H1 e Q q =>
  h1 H1 e _ fun v H2 e2 dv => h2 H2 (e.trans e2) _ fun H3 e3 => by
    cases dv with
    | @tup a vs _ ha hvs =>
      have lv := dpAll_len hvs
      have h0 := (List.getElem?_eq_some_iff.mp hi).1
      have hx : vs[i]? = some (vs[i]'(by omega)) := List.getElem?_eq_getElem _
      obtain ⟨d', h3, h4⟩ := dpAll_at hvs hx
      rw [hi] at h3
      cases h3
      exact ⟨a, vs, (i : Nat), _, rfl, rfl, ex_t e3 ha, atI_nat hx, q _ H3 (e2.trans e3) (dpM e3 _ _ h4)⟩
theorem EvD.mono {H' : Hp} (e : Ex H H') (h : EvD K te σ H d) : EvD K te σ H' d := fun H1 a Q q => h H1 (e.trans a) Q q
theorem s_retD {D : Ends} (h : EvD K te σ H d) (k : ∀ v H1, Ex H H1 → Dp K H1 v d → D.rt v H1) : tRet te D σ H := h H (Ex.refl H) D.rt k
theorem q_asgED {D : Ends} {tz : TS} {i : Nat} (h : EvD K te σ H d) (k : ∀ v H1, Ex H H1 → Dp K H1 v d → tz D (σ.set i (some v)) H1) : tSeq (tAsg te (gName i)) tz D σ H := h H (Ex.refl H) _ k
/-- == and != of data -/
theorem ev_neD {e : PyData} (h1 : EvD K ta σ H d) (h2 : EvD K tb σ H e) (sd : SeqAt.shaped d = true) (se : SeqAt.shaped e = true) : Ev (tOp (rNeD K) ta tb) σ H (.bl (!PyData.eqv d e)) := fun H1 a Q q =>
  h1 H1 a _ fun v H2 e2 dv => h2 H2 (a.trans e2) _ fun u H3 e3 du => ⟨d, e, dpM e3 _ _ dv, du, sd, se, q H3 (e2.trans e3)⟩
theorem ev_eqD {e : PyData} (h1 : EvD K ta σ H d) (h2 : EvD K tb σ H e) (sd : SeqAt.shaped d = true) (se : SeqAt.shaped e = true) : Ev (tOp (rEqD K) ta tb) σ H (.bl (PyData.eqv d e)) := fun H1 a Q q =>
  h1 H1 a _ fun v H2 e2 dv => h2 H2 (a.trans e2) _ fun u H3 e3 du => ⟨d, e, dpM e3 _ _ dv, du, sd, se, q H3 (e2.trans e3)⟩
theorem ed_call {sp : Sp} {ta : TA} {vs : List V} (h : EvA ta σ H vs) (hs : ∀ H1, Ex H H1 → ∀ Q : VK, (∀ v H2, Ex H1 H2 → Dp K H2 v d → Q v H2) → sp (vs ++ []) H1 Q E0) : EvD K (tCall sp [] E0 ta) σ H d := fun H1 e Q q =>
  h H1 e _ fun H2 e2 => hs H2 (e.trans e2) Q fun v H3 e3 dv => q v H3 (e2.trans e3) dv
theorem ed_if {t : TT} {b : Bool} (h : EvT t σ H b) (h1 : b = true → EvD K ta σ H d) (h2 : b = false → EvD K tb σ H d) : EvD K (tIf t ta tb) σ H d := fun H1 e Q q => h H1 e _ fun H2 e2 => by
  cases b with
  | true =>
    show ta σ H2 Q
    exact h1 rfl H2 (e.trans e2) Q fun v H3 e3 dv => q v H3 (e2.trans e3) dv
  | false =>
    show tb σ H2 Q
    exact h2 rfl H2 (e.trans e2) Q fun v H3 e3 dv => q v H3 (e2.trans e3) dv
end
end PZ

set_option Elab.async false
set_option linter.all false
set_option maxRecDepth 100000
set_option maxHeartbeats 8000000

namespace K05
open PySem PySem.Spec PyProof.Rows L2 He XH XV XR PEN TR Evl
def top (i : Nat) : Stmt := PySem.Challenge.pw_tryback_k05_whole_texts_read_back.main.body.getD i (.Pass ⟨0, 0, 0, 0⟩)
abbrev s_wall : Stmt := top 0
theorem sc_wall : FnScope ["k"] ["k"] (defScope s_wall) := ⟨rfl, rfl, rfl, by decide +kernel, rfl, by decide +kernel, by decide +kernel⟩
abbrev s_BadCode_init : Stmt := inClass (top 3) 0
theorem sc_BadCode_init : FnScope ["self", "function", "number"] ["self", "function", "number"] (defScope s_BadCode_init) := ⟨rfl, rfl, rfl, by decide +kernel, rfl, by decide +kernel, by decide +kernel⟩
abbrev s_BadText_init : Stmt := inClass (top 4) 0
theorem sc_BadText_init : FnScope ["self", "line"] ["self", "line"] (defScope s_BadText_init) := ⟨rfl, rfl, rfl, by decide +kernel, rfl, by decide +kernel, by decide +kernel⟩
abbrev s_Function_init : Stmt := inClass (top 18) 0
theorem sc_Function_init : FnScope ["self", "name", "body"] ["self", "name", "body"] (defScope s_Function_init) := ⟨rfl, rfl, rfl, by decide +kernel, rfl, by decide +kernel, by decide +kernel⟩
abbrev s_Function___eq__ : Stmt := inClass (top 18) 1
theorem sc_Function___eq__ : FnScope ["self", "other"] ["self", "other"] (defScope s_Function___eq__) := ⟨rfl, rfl, rfl, by decide +kernel, rfl, by decide +kernel, by decide +kernel⟩
abbrev s_Code_init : Stmt := inClass (top 19) 0
theorem sc_Code_init : FnScope ["self", "cells", "rows", "functions", "start", "names", "function"] ["self", "cells", "rows", "functions", "start"] (defScope s_Code_init) := ⟨rfl, rfl, rfl, by decide +kernel, rfl, by decide +kernel, by decide +kernel⟩
abbrev s_Code_named : Stmt := inClass (top 19) 1
theorem sc_Code_named : FnScope ["self", "name"] ["self", "name"] (defScope s_Code_named) := ⟨rfl, rfl, rfl, by decide +kernel, rfl, by decide +kernel, by decide +kernel⟩
abbrev s_Code___eq__ : Stmt := inClass (top 19) 2
theorem sc_Code___eq__ : FnScope ["self", "other"] ["self", "other"] (defScope s_Code___eq__) := ⟨rfl, rfl, rfl, by decide +kernel, rfl, by decide +kernel, by decide +kernel⟩
abbrev s_frozen : Stmt := top 20
theorem sc_frozen : FnScope ["thing", "entry"] ["thing"] (defScope s_frozen) := ⟨rfl, rfl, rfl, by decide +kernel, rfl, by decide +kernel, by decide +kernel⟩
abbrev s_is_name : Stmt := top 21
theorem sc_is_name : FnScope ["word", "letter"] ["word"] (defScope s_is_name) := ⟨rfl, rfl, rfl, by decide +kernel, rfl, by decide +kernel, by decide +kernel⟩
abbrev s_kinds_of : Stmt := top 22
theorem sc_kinds_of : FnScope ["statement"] ["statement"] (defScope s_kinds_of) := ⟨rfl, rfl, rfl, by decide +kernel, rfl, by decide +kernel, by decide +kernel⟩
abbrev s_parts_of : Stmt := top 23
theorem sc_parts_of : FnScope ["statement", "kinds", "entry", "kind"] ["statement"] (defScope s_parts_of) := ⟨rfl, rfl, rfl, by decide +kernel, rfl, by decide +kernel, by decide +kernel⟩
abbrev s_numbered : Stmt := top 24
theorem sc_numbered : FnScope ["body", "around", "found", "statement", "number", "part"] ["body", "around"] (defScope s_numbered) := ⟨rfl, rfl, rfl, by decide +kernel, rfl, by decide +kernel, by decide +kernel⟩
abbrev s_check_bounds : Stmt := top 25
theorem sc_check_bounds : FnScope ["code"] ["code"] (defScope s_check_bounds) := ⟨rfl, rfl, rfl, by decide +kernel, rfl, by decide +kernel, by decide +kernel⟩
abbrev s_check_names : Stmt := top 26
theorem sc_check_names : FnScope ["code", "called", "seen", "name", "function"] ["code"] (defScope s_check_names) := ⟨rfl, rfl, rfl, by decide +kernel, rfl, by decide +kernel, by decide +kernel⟩
abbrev s_names_by_kind : Stmt := top 27
theorem sc_names_by_kind : FnScope ["code", "called", "function"] ["code"] (defScope s_names_by_kind) := ⟨rfl, rfl, rfl, by decide +kernel, rfl, by decide +kernel, by decide +kernel⟩
abbrev s_check_body : Stmt := top 28
theorem sc_check_body : FnScope ["function", "names", "number", "statement", "around"] ["function", "names"] (defScope s_check_body) := ⟨rfl, rfl, rfl, by decide +kernel, rfl, by decide +kernel, by decide +kernel⟩
abbrev s_well_formed : Stmt := top 29
theorem sc_well_formed : FnScope ["statement", "names", "kinds", "entry", "kind"] ["statement", "names"] (defScope s_well_formed) := ⟨rfl, rfl, rfl, by decide +kernel, rfl, by decide +kernel, by decide +kernel⟩
abbrev s_fits : Stmt := top 30
theorem sc_fits : FnScope ["entry", "kind", "names"] ["entry", "kind", "names"] (defScope s_fits) := ⟨rfl, rfl, rfl, by decide +kernel, rfl, by decide +kernel, by decide +kernel⟩
abbrev s_misplaced : Stmt := top 31
theorem sc_misplaced : FnScope ["word", "around", "block"] ["word", "around"] (defScope s_misplaced) := ⟨rfl, rfl, rfl, by decide +kernel, rfl, by decide +kernel, by decide +kernel⟩
abbrev s_written : Stmt := top 36
theorem sc_written : FnScope ["code", "lines", "function"] ["code"] (defScope s_written) := ⟨rfl, rfl, rfl, by decide +kernel, rfl, by decide +kernel, by decide +kernel⟩
abbrev s_heading : Stmt := top 37
theorem sc_heading : FnScope ["word", "names"] ["word", "names"] (defScope s_heading) := ⟨rfl, rfl, rfl, by decide +kernel, rfl, by decide +kernel, by decide +kernel⟩
abbrev s_part_lines : Stmt := top 38
theorem sc_part_lines : FnScope ["part", "margin", "lines", "statement"] ["part", "margin"] (defScope s_part_lines) := ⟨rfl, rfl, rfl, by decide +kernel, rfl, by decide +kernel, by decide +kernel⟩
abbrev s_statement_lines : Stmt := top 39
theorem sc_statement_lines : FnScope ["statement", "margin", "word", "parts", "names", "first", "lines", "number", "part"] ["statement", "margin"] (defScope s_statement_lines) := ⟨rfl, rfl, rfl, by decide +kernel, rfl, by decide +kernel, by decide +kernel⟩
abbrev s_read_code : Stmt := top 40
theorem sc_read_code : FnScope ["text", "lines", "cells", "rows", "start", "functions", "at", "name", "body"] ["text"] (defScope s_read_code) := ⟨rfl, rfl, rfl, by decide +kernel, rfl, by decide +kernel, by decide +kernel⟩
abbrev s_line_at : Stmt := top 41
theorem sc_line_at : FnScope ["lines", "at"] ["lines", "at"] (defScope s_line_at) := ⟨rfl, rfl, rfl, by decide +kernel, rfl, by decide +kernel, by decide +kernel⟩
abbrev s_read_heading : Stmt := top 42
theorem sc_read_heading : FnScope ["lines", "at", "word", "first", "names", "name"] ["lines", "at", "word"] (defScope s_read_heading) := ⟨rfl, rfl, rfl, by decide +kernel, rfl, by decide +kernel, by decide +kernel⟩
abbrev s_read_name : Stmt := top 43
theorem sc_read_name : FnScope ["lines", "at", "line"] ["lines", "at"] (defScope s_read_name) := ⟨rfl, rfl, rfl, by decide +kernel, rfl, by decide +kernel, by decide +kernel⟩
abbrev s_read_part : Stmt := top 44
theorem sc_read_part : FnScope ["lines", "at", "margin", "part", "head", "parts"] ["lines", "at", "margin"] (defScope s_read_part) := ⟨rfl, rfl, rfl, by decide +kernel, rfl, by decide +kernel, by decide +kernel⟩
abbrev s_read_parts : Stmt := top 45
theorem sc_read_parts : FnScope ["lines", "at", "margin", "word", "parts", "number", "part"] ["lines", "at", "margin", "word"] (defScope s_read_parts) := ⟨rfl, rfl, rfl, by decide +kernel, rfl, by decide +kernel, by decide +kernel⟩
abbrev s_read_head : Stmt := top 46
theorem sc_read_head : FnScope ["line", "margin", "first", "rest", "word", "kinds", "kind", "entry"] ["line", "margin"] (defScope s_read_head) := ⟨rfl, rfl, rfl, by decide +kernel, rfl, by decide +kernel, by decide +kernel⟩
abbrev s_word_of : Stmt := top 47
theorem sc_word_of : FnScope ["first"] ["first"] (defScope s_word_of) := ⟨rfl, rfl, rfl, by decide +kernel, rfl, by decide +kernel, by decide +kernel⟩
abbrev s_reads_as : Stmt := top 48
theorem sc_reads_as : FnScope ["entry", "kind"] ["entry", "kind"] (defScope s_reads_as) := ⟨rfl, rfl, rfl, by decide +kernel, rfl, by decide +kernel, by decide +kernel⟩
abbrev s_law_draw : Stmt := top 50
theorem sc_law_draw : FnScope ["_law_pen", "_law_many", "_law_spot", "_law_at", "_law_cell", "_law_mixed"] ["_law_pen", "_law_many"] (defScope s_law_draw) := ⟨rfl, rfl, rfl, by decide +kernel, rfl, by decide +kernel, by decide +kernel⟩
abbrev s_law_pick : Stmt := top 51
theorem sc_law_pick : FnScope ["_law_pen", "_law_row"] ["_law_pen", "_law_row"] (defScope s_law_pick) := ⟨rfl, rfl, rfl, by decide +kernel, rfl, by decide +kernel, by decide +kernel⟩
abbrev s_law_word : Stmt := top 52
theorem sc_law_word : FnScope ["_law_pen", "_law_most", "_law_letters", "_law_k"] ["_law_pen", "_law_most"] (defScope s_law_word) := ⟨rfl, rfl, rfl, by decide +kernel, rfl, by decide +kernel, by decide +kernel⟩
abbrev s_law_names : Stmt := top 53
theorem sc_law_names : FnScope ["_law_pen", "_law_many", "_law_found", "_law_k", "_law_name", "_law_spare", "_law_word_here", "_law_n"] ["_law_pen", "_law_many"] (defScope s_law_names) := ⟨rfl, rfl, rfl, by decide +kernel, rfl, by decide +kernel, by decide +kernel⟩
abbrev s_law_count : Stmt := top 54
theorem sc_law_count : FnScope ["_law_body", "_law_total", "_law_statement", "_law_part_here"] ["_law_body"] (defScope s_law_count) := ⟨rfl, rfl, rfl, by decide +kernel, rfl, by decide +kernel, by decide +kernel⟩
abbrev s_law_deeds : Stmt := top 55
theorem sc_law_deeds : FnScope ["_law_plan_here", "_law_found", "_law_cell", "_law_row"] ["_law_plan_here"] (defScope s_law_deeds) := ⟨rfl, rfl, rfl, by decide +kernel, rfl, by decide +kernel, by decide +kernel⟩
abbrev s_law_simple : Stmt := top 56
theorem sc_law_simple : FnScope ["_law_pen", "_law_plan_here", "_law_looping", "_law_deeds_here", "_law_kind", "_law_rare"] ["_law_pen", "_law_plan_here", "_law_looping"] (defScope s_law_simple) := ⟨rfl, rfl, rfl, by decide +kernel, rfl, by decide +kernel, by decide +kernel⟩
abbrev s_law_block : Stmt := top 57
theorem sc_law_block : FnScope ["_law_pen", "_law_plan_here", "_law_left", "_law_looping", "_law_deep", "_law_word_here", "_law_one", "_law_rest", "_law_deeds_here", "_law_many", "_law_two", "_law_k"] ["_law_pen", "_law_plan_here", "_law_left", "_law_looping", "_law_deep"] (defScope s_law_block) := ⟨rfl, rfl, rfl, by decide +kernel, rfl, by decide +kernel, by decide +kernel⟩
abbrev s_law_part : Stmt := top 58
theorem sc_law_part : FnScope ["_law_pen", "_law_plan_here", "_law_room", "_law_looping", "_law_deep", "_law_body", "_law_left", "_law_k", "_law_statement"] ["_law_pen", "_law_plan_here", "_law_room", "_law_looping", "_law_deep"] (defScope s_law_part) := ⟨rfl, rfl, rfl, by decide +kernel, rfl, by decide +kernel, by decide +kernel⟩
abbrev s_law_plan : Stmt := top 59
theorem sc_law_plan : FnScope ["_law_pen", "_law_cells", "_law_rows", "_law_many", "_law_room", "_law_names_here", "_law_plan_here", "_law_name"] ["_law_pen", "_law_cells", "_law_rows", "_law_many", "_law_room"] (defScope s_law_plan) := ⟨rfl, rfl, rfl, by decide +kernel, rfl, by decide +kernel, by decide +kernel⟩
abbrev s_law_drawn : Stmt := top 60
theorem sc_law_drawn : FnScope ["_law_pen", "_law_room"] ["_law_pen", "_law_room"] (defScope s_law_drawn) := ⟨rfl, rfl, rfl, by decide +kernel, rfl, by decide +kernel, by decide +kernel⟩
abbrev s_law_code : Stmt := top 61
theorem sc_law_code : FnScope ["_law_plan_here", "_law_functions", "_law_name"] ["_law_plan_here"] (defScope s_law_code) := ⟨rfl, rfl, rfl, by decide +kernel, rfl, by decide +kernel, by decide +kernel⟩
abbrev s_law_lines : Stmt := top 62
theorem sc_law_lines : FnScope ["_law_body", "_law_wide", "_law_seconds", "_law_found", "_law_statement", "_law_word_here", "_law_parts", "_law_plain", "_law_head", "_law_k", "_law_part_here"] ["_law_body", "_law_wide"] (defScope s_law_lines) := ⟨rfl, rfl, rfl, by decide +kernel, rfl, by decide +kernel, by decide +kernel⟩
abbrev s_law_text : Stmt := top 63
theorem sc_law_text : FnScope ["_law_plan_here", "_law_found", "_law_name"] ["_law_plan_here"] (defScope s_law_text) := ⟨rfl, rfl, rfl, by decide +kernel, rfl, by decide +kernel, by decide +kernel⟩
abbrev s_law_kept : Stmt := top 64
theorem sc_law_kept : FnScope ["_law_code_here", "_law_plan_here", "_law_at", "_law_one", "_law_body"] ["_law_code_here", "_law_plan_here"] (defScope s_law_kept) := ⟨rfl, rfl, rfl, by decide +kernel, rfl, by decide +kernel, by decide +kernel⟩
abbrev s_law_other : Stmt := top 65
theorem sc_law_other : FnScope ["_law_pen", "_law_plan_here", "_law_other_here", "_law_names_here", "_law_spare", "_law_kind", "_law_name", "_law_body", "_law_room", "_law_word_here", "_law_n", "_law_one"] ["_law_pen", "_law_plan_here"] (defScope s_law_other) := ⟨rfl, rfl, rfl, by decide +kernel, rfl, by decide +kernel, by decide +kernel⟩
abbrev s_law : Stmt := top 66
theorem sc_law : FnScope ["_law_script", "_law_pen", "_law_turn", "_law_plan_here", "_law_text_here", "_law_code_here", "_law_other_here"] ["_law_script"] (defScope s_law) := ⟨rfl, rfl, rfl, by decide +kernel, rfl, by decide +kernel, by decide +kernel⟩
abbrev FnP (K : PySem.W.Frag) (x qn : Str) (st : Stmt) (f : Addr) (fd : FuncData) : Prop := FunD K x qn (defArgs st) (defBody st) (defScope st) [] [] f fd
def globs : List Str := [("BadCode" : Str), ("BadText" : Str), ("CHANGE_WORDS" : Str), ("Code" : Str), ("ENTRIES" : Str), ("FIXED_WORDS" : Str), ("Function" : Str), ("ROUND_WORDS" : Str), ("SECOND_WORDS" : Str), ("TooGreat" : Str), ("TryError" : Str), ("_law_block" : Str), ("_law_code" : Str), ("_law_count" : Str), ("_law_deeds" : Str), ("_law_draw" : Str), ("_law_drawn" : Str), ("_law_kept" : Str), ("_law_lines" : Str), ("_law_names" : Str), ("_law_other" : Str), ("_law_part" : Str), ("_law_pick" : Str), ("_law_plan" : Str), ("_law_simple" : Str), ("_law_text" : Str), ("_law_word" : Str), ("_wall" : Str), ("check_body" : Str), ("check_bounds" : Str), ("check_names" : Str), ("fits" : Str), ("frozen" : Str), ("heading" : Str), ("is_name" : Str), ("kinds_of" : Str), ("law" : Str), ("line_at" : Str), ("misplaced" : Str), ("names_by_kind" : Str), ("numbered" : Str), ("part_lines" : Str), ("parts_of" : Str), ("read_code" : Str), ("read_head" : Str), ("read_heading" : Str), ("read_name" : Str), ("read_part" : Str), ("read_parts" : Str), ("reads_as" : Str), ("statement_lines" : Str), ("well_formed" : Str), ("word_of" : Str), ("written" : Str)]
def frees : List Str := ["range", "len", "int", "str", "list", "tuple", "isinstance", "all", "sum", "zip", "enumerate", "min", "dict"]
def Cl (P : Program) (w : World) (K : PySem.W.Frag) (mg : Str → Option Value) (base : Heap) (CX : CXT) (k : Nat) (f : Addr) (ps : List Str) (sp : Sp) : Prop := ∃ fd, FnOk P w K mg base CX k f fd ps sp ∧ Binds K fd ps [] ∧ PySem.W.keepIn K (.ref f) = true
structure Txt (K : PySem.W.Frag) (w : World) (mg : Str → Option Value) : Prop where
  gl : ∀ x ∈ globs, mg x = some (.ref (ga K x))
  fr : ∀ x ∈ frees, mg x = none
  c_MOST_CELLS : ∃ t, mg "MOST_CELLS" = some (.int 3 t)
  c_MOST_ROWS : ∃ t, mg "MOST_ROWS" = some (.int 2 t)
  c_MOST_FUNCTIONS : ∃ t, mg "MOST_FUNCTIONS" = some (.int 3 t)
  c_MOST_STATEMENTS : ∃ t, mg "MOST_STATEMENTS" = some (.int 14 t)
  c_MOST_BLOCKS_AROUND : ∃ t, mg "MOST_BLOCKS_AROUND" = some (.int 2 t)
  c_LONGEST_NAME : ∃ t, mg "LONGEST_NAME" = some (.int 12 t)
  c_LETTERS : ∃ t, mg "LETTERS" = some (.str "abcdefghijklmnopqrstuvwxyz" t)
  c_STEP : ∃ t, mg "STEP" = some (.str "  " t)
  c_WIDEST_MARGIN : ∃ t, mg "WIDEST_MARGIN" = some (.int 8 t)
end K05
set_option Elab.async false
set_option linter.all false
set_option maxRecDepth 100000
set_option maxHeartbeats 8000000
namespace K05
open PySem PySem.Spec PyProof.Rows L2 He XH XV XR PEN TR Evl

section
variable {P : Program} {w : World} {K : PySem.W.Frag} {mg : Str → Option Value} {base : Heap}

theorem ok_law_draw {fd : FuncData} (F : FnP K "_law_draw" "_law_draw" s_law_draw (ga K "_law_draw") fd) (T : Txt K w mg) : FnOk P w K mg base CX0 (0 + 1) (ga K "_law_draw") fd ["_law_pen", "_law_many"] spDraw := by
  refine FunD.ok F sc_law_draw (fun vs H Q E h => ?_) (fun cdv A outer s H vs Q E hr h => ?_)
  · obtain ⟨p, l, m, b, rfl, _⟩ := h
    rfl
  · obtain ⟨p, l, m, b, rfl, ⟨m0, m1⟩, hP, kk⟩ := h
    have n_int := T.fr "int" (by decide +kernel)
    have n_len := T.fr "len" (by decide +kernel)
    refine ⟨_, PSs.nox (pss_cons (ps_set (i := 2) sc_law_draw.nd rfl (Or.inl rfl) (pe_ix ix_list (pv 0) pe_int (fun _ _ => rfl)))
      (pss_cons (ps_asg (pe_op op_add (pv 2) pe_int) (pg_sub (pv 0) pe_int set_list))
      (pss_cons (ps_set (i := 3) sc_law_draw.nd rfl (Or.inl rfl) (pe_op op_mod (pe_callTy call_int1 (by rfl) n_int (by decide +kernel) (pa_cons (pv 2) pa_nil)) (pe_callB call_len_seq (by rfl) n_len (by decide +kernel) (pa_cons (pe_ix ix_list (pv 0) pe_int (fun _ _ => rfl)) pa_nil))))
      (pss_cons (ps_set (i := 4) sc_law_draw.nd rfl (Or.inl rfl) (pe_callTy call_int1 (by rfl) n_int (by decide +kernel) (pa_cons (pe_ix ix_list (pe_ix ix_list (pv 0) pe_int (fun _ _ => rfl)) (pv 3) (fun _ _ => rfl)) pa_nil)))
      (pss_cons (ps_if (pt_cmpR op_ge (pv 4) (pe_op op_pow pe_int pe_int) (nomark _))
      (pss_cons (ps_asg (pe_op op_fdiv (pv 4) (pv 1)) (pg_sub (pe_ix ix_list (pv 0) pe_int (fun _ _ => rfl)) (pv 3) set_list))
      (pss_one (ps_ret (pe_op op_mod (pe_callTy call_int1 (by rfl) n_int (by decide +kernel) (pa_cons (pv 4) pa_nil)) (pv 1)))))
      pss_nil)
      (pss_cons (ps_set (i := 5) sc_law_draw.nd rfl (Or.inl rfl) (pe_op op_pow (pe_callTy call_int1 (by rfl) n_int (by decide +kernel) (pa_cons (pe_op op_add (pe_op op_add (pe_op op_mul (pe_op op_mod (pe_callTy call_int1 (by rfl) n_int (by decide +kernel) (pa_cons (pv 4) pa_nil)) pe_int) pe_int) (pe_op op_mul (pv 2) pe_int)) pe_int) pa_nil)) pe_int))
      (pss_one (ps_ret (pe_op op_mod (pe_op op_fdiv (pe_callTy call_int1 (by rfl) n_int (by decide +kernel) (pa_cons (pe_op op_mod (pe_callTy call_int1 (by rfl) n_int (by decide +kernel) (pa_cons (pv 5) pa_nil)) pe_int) pa_nil)) pe_int) (pv 1)))))))))), ?_⟩
    have npl := hP.ne
    obtain ⟨c, ns, hp, hl, hne, c0, c1⟩ := hP
    have hl' : 0 < ns.length := by
      cases ns with
      | nil => exact absurd rfl hne
      | cons x r => exact Nat.succ_pos _
    have h1 : upd H p (.lst [.ref l, .int (c + 1)]) p = some (.lst [.ref l, .int (c + 1)]) := upd_same
    have h2 : upd H p (.lst [.ref l, .int (c + 1)]) l = some (.lst (ns.map V.int)) := (upd_ne npl.symm).trans hl
    have px1 : Px p l H (upd H p (.lst [.ref l, .int (c + 1)])) := (Px.refl H).upd (.inl rfl)
    have pen1 : Pen p l b (upd H p (.lst [.ref l, .int (c + 1)])) := ⟨c + 1, ns, h1, h2, hne, by omega, by omega⟩
    refine ⟨.ref p, rfl, p, _, 1, .int c, rfl, rfl, SqL.of hp, atI_nat (j := 1) rfl, ?_⟩
    refine ⟨.int c, rfl, c, 1, rfl, rfl, .ref p, rfl, p, _, 1, 1, rfl, rfl, hp, rfl, ?_⟩
    have em := Int.emod_nonneg c (show ((ns.map V.int).length : Int) ≠ 0 by rw [List.length_map]; omega)
    have el := Int.emod_lt_of_pos c (show (0 : Int) < ((ns.map V.int).length : Int) by rw [List.length_map]; omega)
    refine ⟨.int c, rfl, .inl ⟨c, rfl, .ref p, rfl, p, _, 0, .ref l, rfl, rfl, SqL.of h1, atI_nat (j := 0) rfl, l, _, rfl, .inl (SqL.of h2), c, _, rfl, rfl, (by show (0 : Int) < ((ns.map V.int).length : Int); rw [List.length_map]; omega), ?_⟩⟩
    generalize hz : c % ((ns.map V.int).length : Int) = z at em el
    obtain ⟨j, rfl⟩ : ∃ j : Nat, z = (j : Int) := ⟨z.toNat, by omega⟩
    have hj : j < ns.length := by
      rw [List.length_map] at el
      omega
    have gj : (ns.map V.int)[j]? = some (.int ns[j]) := by
      rw [List.getElem?_map, List.getElem?_eq_getElem hj]
      rfl
    generalize ns[j] = x at gj
    refine ⟨.ref p, rfl, p, _, 0, .ref l, rfl, rfl, SqL.of h1, atI_nat (j := 0) rfl, .int (c % ((ns.map V.int).length : Int)), rfl, l, _, j, .int x, rfl, by rw [hz], SqL.of h2, atI_nat gj, .inl ⟨x, rfl, ?_⟩⟩
    refine ⟨.int x, rfl, 10, 18, rfl, rfl, ⟨by decide, by decide, by decide⟩, x, _, rfl, rfl, _, rfl, ite2 (fun _ => ?_) (fun _ => ?_)⟩
    · have h3 : upd (upd H p (.lst [.ref l, .int (c + 1)])) l (.lst ((ns.map V.int).set j (.int (x / m)))) p = some (.lst [.ref l, .int (c + 1)]) := (upd_ne npl).trans h1
      have e3 : (ns.map V.int).set j (.int (x / m)) = (ns.set j (x / m)).map V.int := List.map_set.symm
      refine ⟨.int x, rfl, .int m, rfl, x, m, rfl, rfl, ⟨m0, m1⟩, .ref p, rfl, p, _, 0, .ref l, rfl, rfl, SqL.of h1, atI_nat (j := 0) rfl, .int (c % ((ns.map V.int).length : Int)), rfl, l, _, j, j, rfl, by rw [hz], h2, ixN_nat (by rw [List.length_map]; exact hj), ?_⟩
      refine ⟨.int x, rfl, .inl ⟨x, rfl, .int m, rfl, x, m, rfl, rfl, m0, ?_⟩⟩
      refine kk _ _ ⟨Int.emod_nonneg _ (by omega), Int.emod_lt_of_pos _ m0⟩ (px1.upd (.inr (.inl rfl))) ⟨c + 1, ns.set j (x / m), h3, ?_, ?_, by omega, by omega⟩
      · rw [← e3]
        exact upd_same
      · intro q
        have q2 : (ns.set j (x / m)).length = 0 := by
          rw [q]
          rfl
        rw [List.length_set] at q2
        omega
    · refine ⟨.int x, rfl, .inl ⟨x, rfl, x, 1000000007, rfl, rfl, (show (0 : Int) < 1000000007 by decide), _, 48271, rfl, rfl, .inr ⟨by decide, by decide⟩, .int c, rfl, c, 7919, rfl, rfl, .inr ⟨by decide, by decide⟩, _, _, rfl, rfl, _, 104729, rfl, rfl, .inl ⟨_, rfl, _, 5, rfl, rfl, ?_, ?_⟩⟩⟩
      · have z0 := Int.emod_nonneg x (show (1000000007 : Int) ≠ 0 by decide)
        have z1 := Int.emod_lt_of_pos x (show (0 : Int) < 1000000007 by decide)
        refine ⟨by decide, by decide, ?_⟩
        generalize x % 1000000007 = u at *
        omega
      · refine ⟨_, rfl, .inl ⟨_, rfl, _, 2147483647, rfl, rfl, (show (0 : Int) < 2147483647 by decide), .inl ⟨_, rfl, _, 8, rfl, rfl, ⟨by decide, by decide⟩, .int m, rfl, _, m, rfl, rfl, m0, ?_⟩⟩⟩
        exact kk _ _ ⟨Int.emod_nonneg _ (by omega), Int.emod_lt_of_pos _ m0⟩ px1 pen1

theorem ok_law_pick {fd : FuncData} (F : FnP K "_law_pick" "_law_pick" s_law_pick (ga K "_law_pick") fd) (T : Txt K w mg) (c_law_draw : Cl P w K mg base CX0 1 (ga K "_law_draw") ["_law_pen", "_law_many"] spDraw) : FnOk P w K mg base CX0 (1 + 1) (ga K "_law_pick") fd ["_law_pen", "_law_row"] (spPick K) := by
  obtain ⟨fd_law_draw, G_law_draw, b_law_draw, kp_law_draw⟩ := c_law_draw
  refine FunD.ok F sc_law_pick (fun vs H Q E h => ?_) (fun cdv A outer s H vs Q E hr h => ?_)
  · obtain ⟨p, l, a, xs, b, rfl, _⟩ := h
    rfl
  · obtain ⟨p, l, a, xs, b, rfl, hS, ⟨x0, x1⟩, hP, kk⟩ := h
    have g_law_draw := T.gl "_law_draw" (by decide +kernel)
    have n_len := T.fr "len" (by decide +kernel)
    refine ⟨_, PSs.nox (pss_one (ps_ret (pe_ix ix_list (pv 1) (pe_call G_law_draw (hr.mono (by decide)) (by rfl) g_law_draw kp_law_draw b_law_draw .nil pass0 (pa_cons (pv 0) (pa_cons (pe_callB call_len_seq (by rfl) n_len (by decide +kernel) (pa_cons (pv 1) pa_nil)) pa_nil))) (fun _ _ => rfl)))), ?_⟩
    have hS' : SqL K H a xs := ex_l cut_ex hS
    have hl : 0 < xs.length := by
      cases xs with
      | nil => exact absurd rfl x0
      | cons x r => exact Nat.succ_pos _
    refine ⟨.ref a, rfl, .ref p, rfl, .ref a, rfl, a, xs, rfl, .inl hS', p, l, (xs.length : Int), b, rfl, ⟨by omega, by omega⟩, hP, fun r H' hr px pen => ?_⟩
    obtain ⟨j, rfl⟩ : ∃ j : Nat, r = (j : Int) := ⟨r.toNat, by omega⟩
    have hj : j < xs.length := by omega
    have gj : xs[j]? = some xs[j] := List.getElem?_eq_getElem hj
    exact ⟨a, xs, j, xs[j], rfl, rfl, ex_l cut_ex (ex_l px hS), atI_nat gj, kk _ _ (List.getElem_mem hj) px pen⟩

theorem ok_law_word {fd : FuncData} (F : FnP K "_law_word" "_law_word" s_law_word (ga K "_law_word") fd) (T : Txt K w mg) (c_law_draw : Cl P w K mg base CX0 1 (ga K "_law_draw") ["_law_pen", "_law_many"] spDraw) : FnOk P w K mg base CX0 (1 + 1) (ga K "_law_word") fd ["_law_pen", "_law_most"] spWord := by
  obtain ⟨fd_law_draw, G_law_draw, b_law_draw, kp_law_draw⟩ := c_law_draw
  refine FunD.ok F sc_law_word (fun vs H Q E h => ?_) (fun cdv A outer s H vs Q E hr h => ?_)
  · obtain ⟨p, l, m, b, rfl, _⟩ := h
    rfl
  · obtain ⟨p, l, m, b, rfl, ⟨m1, m2⟩, hP, kk⟩ := h
    have n_range := T.fr "range" (by decide +kernel)
    have g_law_draw := T.gl "_law_draw" (by decide +kernel)
    refine ⟨_, PSs.nox (pss_cons (ps_set (i := 2) sc_law_word.nd rfl (Or.inr rfl) pe_str)
      (pss_one (ps_ret (pe_join pe_str (pe_lc (own := [("_law_k", 3)]) (g := gName 3) (by rfl) sc_law_word.nd (pi_range1 (by rfl) n_range (pa_cons (pe_op op_add pe_int (pe_call G_law_draw (hr.mono (by decide)) (by rfl) g_law_draw kp_law_draw b_law_draw .nil pass0 (pa_cons (pv 0) (pa_cons (pv 1) pa_nil)))) pa_nil)) (blkOk_by (own := [("_law_k", 3)]) (N := ["_law_pen", "_law_most", "_law_letters", "_law_k"]) (sc := defScope s_law_word) (by decide +kernel)) (fun _ _ _ _ _ => (pg_name (i := 3) sc_law_word.nd rfl (Or.inl rfl))) (fun _ _ _ _ _ => pts_nil) (fun _ _ _ _ _ => (pe_ix ix_str (pv 2) (pe_call G_law_draw (hr.mono (by decide)) (by rfl) g_law_draw kp_law_draw b_law_draw .nil pass0 (pa_cons (pv 0) (pa_cons pe_int pa_nil))) (fun _ _ => rfl)))))))), ?_⟩
    refine ⟨⟨_, rfl⟩, ⟨.ref p, rfl, .int m, rfl, p, l, m, b + 13, rfl, ⟨by omega, by omega⟩, hP, fun r H1 hr px1 pen1 => ⟨1, r, rfl, rfl, 1 + r, rfl, by omega, by omega, fun D hD => ?_⟩⟩⟩
    refine lc_range (lo := 0) (n := (1 + r).toNat) (fun i H' => ∃ cs : List Nat, cs.length = i ∧ (∀ c ∈ cs, 97 ≤ c ∧ c ≤ 122) ∧ H' D = some (.lst ((cs.map sign).map V.str)) ∧ Px p l H H' ∧ Pen p l (b + 13 - i) H')
      ⟨[], rfl, (fun c hc => nomatch hc), upd_same, px1.trans (Px.of (Ex.new hD)), (pen1.ex (Ex.new hD)).less (by omega)⟩ (fun i H' hi hI => ?_) (fun H' hI => ?_)
    · obtain ⟨cs, e1, e2, e3, e4, e5⟩ := hI
      have nD : D ≠ p ∧ D ≠ l := pen1.new hD
      refine ⟨rfl, yes_go ?_⟩
      refine ⟨.str alphabet, rfl, .ref p, rfl, p, l, 26, b + 13 - (i + 1), rfl, ⟨by decide, by decide⟩, e5.less (by omega), fun r2 H2 hr2 px2 pen2 => ?_⟩
      obtain ⟨c, ac, c1, c2⟩ := alpha_pick hr2
      refine ⟨alphabet, r2, c, rfl, rfl, fits (by decide +kernel), ac, (cs.map sign).map V.str, px2.get nD.1 nD.2 e3, ?_, cs ++ [c], ?_, ?_, ?_, (e4.trans px2).upd (.inr (.inr (px1.fresh nD.1 nD.2 hD))), pen2.upd nD.1 nD.2⟩
      · rw [List.length_map, List.length_map]
        exact small1000 (by omega)
      · rw [List.length_append, e1]
        rfl
      · intro x hx
        rcases List.mem_append.mp hx with h | h
        · exact e2 x h
        · rw [List.mem_singleton.mp h]
          exact ⟨c1, c2⟩
      · rw [upd_same, List.map_append, List.map_append]
        rfl
    · obtain ⟨cs, e1, e2, e3, e4, e5⟩ := hI
      have ln : (Txt.join ("" : Str) (cs.map sign)).length = cs.length := by rw [len_codes, join_signs]
      refine ⟨"", D, cs.map sign, rfl, rfl, .inl (sq_of e3), ?_, kk _ _ ⟨?_, ?_, ?_⟩ e4 (e5.less (by omega))⟩
      · rw [sum_signs, List.length_map]
        show cs.length + cs.length * 0 ≤ 16777216
        omega
      · intro c hc
        rw [join_signs] at hc
        exact e2 c hc
      · rw [ln]
        omega
      · rw [ln]
        omega

theorem ok_law_names {fd : FuncData} (F : FnP K "_law_names" "_law_names" s_law_names (ga K "_law_names") fd) (T : Txt K w mg) (c_law_draw : Cl P w K mg base CX0 1 (ga K "_law_draw") ["_law_pen", "_law_many"] spDraw) (c_law_word : Cl P w K mg base CX0 2 (ga K "_law_word") ["_law_pen", "_law_most"] spWord) : FnOk P w K mg base CX0 (2 + 1) (ga K "_law_names") fd ["_law_pen", "_law_many"] (spNames K) := by
  obtain ⟨fd_law_draw, G_law_draw, b_law_draw, kp_law_draw⟩ := c_law_draw
  obtain ⟨fd_law_word, G_law_word, b_law_word, kp_law_word⟩ := c_law_word
  refine FunD.ok F sc_law_names (fun vs H Q E h => ?_) (fun cdv A outer s H vs Q E hr h => ?_)
  · obtain ⟨p, l, n, b, rfl, _⟩ := h
    rfl
  · obtain ⟨p, l, n, b, rfl, hn, hP, kk⟩ := h
    have n_range := T.fr "range" (by decide +kernel)
    have g_law_word := T.gl "_law_word" (by decide +kernel)
    have g_law_draw := T.gl "_law_draw" (by decide +kernel)
    refine ⟨_, PSs.nox (pss_cons (ps_set (i := 2) sc_law_names.nd rfl (Or.inr rfl) (pe_lst pa_nil))
      (pss_cons (ps_for PassesOwn.never rfl (pi_range1 (by rfl) n_range (pa_cons (pv 1) pa_nil)) (pg_name (i := 3) sc_law_names.nd rfl (Or.inl rfl))
      (pss_cons (ps_set (i := 4) sc_law_names.nd rfl (Or.inl rfl) (pe_call G_law_word (hr.mono (by decide)) (by rfl) g_law_word kp_law_word b_law_word .nil pass0 (pa_cons (pv 0) (pa_cons (pe_ifExp (pt_cmpR op_eq (pe_call G_law_draw (hr.mono (by decide)) (by rfl) g_law_draw kp_law_draw b_law_draw .nil pass0 (pa_cons (pv 0) (pa_cons pe_int pa_nil))) pe_int (nomark _)) pe_int pe_int) pa_nil))))
      (pss_cons (ps_setLc (i := 5) (own := [("_law_word_here", 6)]) (g := gName 6) (by rfl) sc_law_names.nd rfl rfl (sw_true rfl rfl rfl (by decide +kernel)) (pi_list (pe_lc (own := [("_law_n", 7)]) (g := gName 7) (by rfl) sc_law_names.nd (pi_range2 (by rfl) n_range (pa_cons pe_int (pa_cons pe_int pa_nil))) (blkOk_by (own := [("_law_n", 7)]) (N := ["_law_pen", "_law_many", "_law_found", "_law_k", "_law_name", "_law_spare", "_law_word_here", "_law_n"]) (sc := defScope s_law_names) (by decide +kernel)) (fun _ _ _ _ _ => (pg_name (i := 7) sc_law_names.nd rfl (Or.inl rfl))) (fun _ _ _ _ _ => pts_nil) (fun _ _ _ _ _ => (pe_op op_mulS pe_str (pv 7))))) (blkOk_by (own := [("_law_word_here", 6)]) (N := ["_law_pen", "_law_many", "_law_found", "_law_k", "_law_name", "_law_spare", "_law_word_here", "_law_n"]) (sc := defScope s_law_names) (by decide +kernel)) (fun _ _ _ _ _ => (pg_name (i := 6) sc_law_names.nd rfl (Or.inl rfl))) (fun _ _ _ _ _ => (pts_one (pt_cmpR (op_notIn_seq : OpR _ _ (rIn K true)) (pv 6) (pv 2) (by rfl)))) (fun _ _ _ _ _ => (pv 6)))
      (pss_one (ps_expr (pe_bm PySem.F.plainAttrs_list PySem.F.slot_list_append PySem.F.type_list_append mt_append (pv 2) (pa_cons (pe_ifExp (pt_cmpR op_in_seq (pv 4) (pv 2) (by rfl)) (pe_ix ix_list (pv 5) pe_int (fun _ _ => rfl)) (pv 4)) pa_nil)))))))
      (pss_one (ps_ret (pv 2))))), ?_⟩
    refine ⟨fits (show 0 ≤ 1000 by decide), fun fl nf => ?_⟩
    have nF := hP.new nf
    refine q_forR1 (n := (n : Int)) (ea_cons (ev_var rfl) ea_nil) ⟨by omega, by omega⟩ (fun i σ' H' => ∃ ys v3 v4 v5 v6 v7, σ' = [some (.ref p), some (.int (n : Int)), some (.ref fl), v3, v4, v5, v6, v7] ∧ H' fl = some (.lst (ys.map V.str)) ∧ ys.length = i ∧ NamesOk ys ∧ Px p l H H' ∧ Pen p l (b + (n - i) * 16) H')
      (fun H1 e1 => ⟨[], none, none, none, none, none, rfl, e1 _ _ upd_same, rfl, ⟨List.nodup_nil, fun y hy => nomatch hy⟩, Px.trans ((Px.refl H).upd (.inr (.inr nf))) (Px.of e1), ((hP.upd nF.1 nF.2).ex e1)⟩) (fun i σ' H' hi hI => ?_) (fun σ' H' hI => ?_)
    · obtain ⟨ys, v3, v4, v5, v6, v7, rfl, hf, hl, ⟨nd, good⟩, px, pen⟩ := hI
      have hi' : i < n := by omega
      have hb : b + (n - i) * 16 = b + (n - (i + 1)) * 16 + 16 := by
        obtain ⟨d, hd⟩ : ∃ d, n - i = d + 1 := ⟨n - i - 1, by omega⟩
        rw [hd, show n - (i + 1) = d by omega, Nat.succ_mul]
        omega
      rw [hb] at pen
      -- the word
      refine ⟨.ref p, rfl, .ref p, rfl, p, l, 4, b + (n - (i + 1)) * 16 + 15, rfl, ⟨by decide, by decide⟩, pen, fun r H1 hr px1 pen1 => ⟨rfl, _, rfl, two_c fun x hx => ?_⟩⟩
      obtain ⟨m, rfl, m1, m2⟩ : ∃ m : Nat, x = .int (m : Int) ∧ 1 ≤ m ∧ m ≤ 12 := by
        rcases hx with rfl | rfl
        · exact ⟨12, rfl, by decide, by decide⟩
        · exact ⟨2, rfl, by decide, by decide⟩
      refine ⟨p, l, m, b + (n - (i + 1)) * 16, rfl, ⟨m1, m2⟩, pen1.less (by omega), fun z H2 hz px2 pen2 => ?_⟩
      have hf2 : H2 fl = some (.lst (ys.map V.str)) := px2.get nF.1 nF.2 (px1.get nF.1 nF.2 hf)
      -- spare
      dsimp only [gName, List.set]
      refine q_asgL (xs := given 12 (fun i => !decide (aS (1 + i) ∈ ys)) (fun i => V.str (aS (1 + i)))) ?_ fun sp H3 hs e3 h3 => ?_
      · refine el_lcNL (xs := given 12 (fun _ => true) (fun i => V.str (aS (1 + i)))) (fun i => !decide (aS (1 + i) ∈ ys)) (fun i => V.str (aS (1 + i))) ?_ (by decide) (fun _ => rfl) (fun j x H1' e1' hx => ?_) (fun j x H1' e1' hx _ => ?_)
        · refine el_lcR2 (lo := 1) (n := 13) (fun _ => true) (fun i => V.str (aS (1 + i))) (ea_cons ev_c (ea_cons ev_c ea_nil)) (by decide) (fun _ => rfl) (fun _ _ _ _ => fun H1 _ Q q => q H1 (Ex.refl H1)) (fun j H1' _ hj _ => ?_)
          refine ev_op ev_c (ev_var rfl) (fun H2' _ Q q => ⟨"a", 1 + j, rfl, ?_, ⟨by omega, by omega⟩, ⟨by decide +kernel, by decide +kernel⟩, q H2' (Ex.refl _)⟩)
          rw [Int.natCast_add]
          rfl
        · have ex : x = .str (aS (1 + j)) := given_all_at hx
          subst ex
          have k := rv_niL (K := K) (x := .str (aS (1 + j))) (H := H1') (sq_of (e1' _ _ hf2)) rfl (flat_strs ys)
          rw [inV_strs] at k
          exact et_test (ev_op (ev_var rfl) (ev_var rfl) k)
        · have ex : x = .str (aS (1 + j)) := given_all_at hx
          subst ex
          exact ev_var rfl
      -- found.append(..)
      have hf3 := e3 _ _ hf2
      obtain ⟨y, gy, y1, y2, y3, y4⟩ := spare_first (ys := ys) (by omega)
      have px3 : Px p l H H3 := ((px.trans px1).trans px2).trans (Px.of e3)
      have pen3 := pen2.ex e3
      have more : ∀ u : Str, u ∉ ys → Let u ∧ 1 ≤ u.length ∧ u.length ≤ 12 → ∃ ys' : List Str, upd H3 fl (.lst (ys.map V.str ++ [.str u])) fl = some (.lst (ys'.map V.str)) ∧ ys'.length = i + 1 ∧ NamesOk ys' ∧ Px p l H (upd H3 fl (.lst (ys.map V.str ++ [.str u]))) ∧ Pen p l (b + (n - (i + 1)) * 16) (upd H3 fl (.lst (ys.map V.str ++ [.str u]))) := by
        intro u hu gu
        refine ⟨ys ++ [u], ?_, by rw [List.length_append, hl]; rfl, ⟨?_, ?_⟩, px3.upd (.inr (.inr nf)), pen3.upd nF.1 nF.2⟩
        · rw [upd_same, List.map_append]
          rfl
        · refine List.nodup_append.mpr ⟨nd, List.nodup_cons.mpr ⟨List.not_mem_nil, List.nodup_nil⟩, ?_⟩
          intro a ha b' hb' e
          rw [List.mem_singleton.mp hb'] at e
          exact hu (e ▸ ha)
        · intro w hw
          rcases List.mem_append.mp hw with h | h
          · exact good w h
          · rw [List.mem_singleton.mp h]
            exact gu
      refine ⟨.ref fl, rfl, .inl ⟨rfl, _, sq_of hf3⟩, ?_⟩
      refine ⟨.str z, rfl, .ref fl, rfl, fl, _, rfl, .inl (sq_of hf3), rfl, flat_strs ys, _, rfl, ?_⟩
      show if (if false = true then !inV (.str z) (ys.map V.str) else inV (.str z) (ys.map V.str)) = true then _ else _
      rw [if_neg Bool.false_ne_true, inV_strs]
      refine ite2 (fun c => ?_) (fun c => ?_)
      · obtain ⟨ys', m1', m2', m3', m4', m5'⟩ := more y y1 ⟨y2, y3, y4⟩
        refine ⟨.ref sp, rfl, sp, _, 0, .str y, rfl, rfl, sq_of h3, atI_nat (j := 0) gy, fl, _, _, rfl, rfl, hf3, ?_, ⟨ys', _, _, _, _, _, rfl, m1', m2', m3', m4', m5'⟩⟩
        rw [List.length_map]
        exact small1000 (by omega)
      · obtain ⟨ys', m1', m2', m3', m4', m5'⟩ := more z (fun q => c (decide_eq_true q)) ⟨hz.1, hz.2.1, by omega⟩
        refine ⟨.str z, rfl, fl, _, _, rfl, rfl, hf3, ?_, ⟨ys', _, _, _, _, _, rfl, m1', m2', m3', m4', m5'⟩⟩
        rw [List.length_map]
        exact small1000 (by omega)
    · obtain ⟨ys, v3, v4, v5, v6, v7, rfl, hf, hl, ok, px, pen⟩ := hI
      have e : (n : Int).toNat = n := by omega
      rw [e] at hl pen
      refine ⟨.ref fl, rfl, kk fl ys H' nf hf hl ok px (pen.less (by omega))⟩

end
end K05
set_option Elab.async false
set_option linter.all false
set_option maxRecDepth 100000
set_option maxHeartbeats 8000000
namespace K05
open PySem PySem.Spec PyProof.Rows L2 He XH XV XR PEN TR Evl


structure Tx (K : PySem.W.Frag) (w : World) (mg : Str → Option Value) : Prop extends Txt K w mg where
  en : ∃ es n, KDict K w (ga K "ENTRIES") es n ∧ ∀ p ∈ ENT, ∃ a, PySem.W.nsIn K (ga K "ENTRIES") p.1 = some (some (.ref a)) ∧ ∀ H, SqT K H a (p.2.map V.str)
  fx : ∃ es n a b, KDict K w (ga K "FIXED_WORDS") es n ∧ (PySem.W.nsIn K (ga K "FIXED_WORDS") "how" = some (some (.ref a)) ∧ ∀ H, SqT K H a [.str "copy", .str "view"]) ∧ PySem.W.nsIn K (ga K "FIXED_WORDS") "end" = some (some (.ref b)) ∧ ∀ H, SqT K H b [.str "found", .str "none"]
  se : ∃ es n, KDict K w (ga K "SECOND_WORDS") es n ∧ ∀ p ∈ [("either", "or"), ("told", "else"), ("look", "else"), ("guard", "rescue"), ("lastly", "lastly")], ∃ t, PySem.W.nsIn K (ga K "SECOND_WORDS") (p.1 : String) = some (some (.str (p.2 : String) t))
  ro : ∀ H, SqT K H (ga K "ROUND_WORDS") [.str "again", .str "out"]
  ch : ∀ H, SqT K H (ga K "CHANGE_WORDS") [.str "put", .str "blank", .str "give", .str "push", .str "pop", .str "cut"]
  cf : Cls K (ga K "Function")
  cc : Cls K (ga K "Code")
  nf : ∀ x ∈ ["name", "body", "many"], NoAttr K (ga K "Function") x
  nc : ∀ x ∈ ["cells", "rows", "functions", "start"], NoAttr K (ga K "Code") x
  mf : Mk K (ga K "Function") (ma K (ga K "Function") "__init__")
  mc : Mk K (ga K "Code") (ma K (ga K "Code") "__init__")

/-- a body, short by one statement more -/
def Bod : Nat → List PyData → Prop
  | 0, ss => ss = []
  | n + 1, ss => ss.length ≤ 15 ∧ ∀ s ∈ ss, Sh s ∧ ∀ p ∈ parts s, ∃ ds, p = .tuple ds ∧ Bod n ds
/-! ### trees of texts with lists in them, and what frozen makes of them -/
mutual
def frz : PyData → PyData
  | .tuple ds => .tuple (frzs ds)
  | .list ds => .tuple (frzs ds)
  | .none => .none
  | .bool b => .bool b
  | .int i => .int i
  | .str z => .str z
  | .dict d => .dict d
def frzs : List PyData → List PyData
  | [] => []
  | d :: r => frz d :: frzs r
end
theorem frzs_map : ∀ ds : List PyData, frzs ds = ds.map frz
  | [] => rfl
  | d :: r => by
    show frz d :: frzs r = frz d :: r.map frz
    rw [frzs_map r]
mutual
inductive TL : Nat → PyData → Prop
  | str {n : Nat} {z : Str} (h : z.length ≤ 1000) : TL n (.str z)
  | int {n : Nat} (i : Int) : TL n (.int i)
  | tup {n : Nat} {ds : List PyData} (l : ds.length ≤ 100) (h : TLs n ds) : TL (n + 1) (.tuple ds)
  | lst {n : Nat} {ds : List PyData} (l : ds.length ≤ 100) (h : TLs n ds) : TL (n + 1) (.list ds)
inductive TLs : Nat → List PyData → Prop
  | nil {n : Nat} : TLs n []
  | cons {n : Nat} {d : PyData} {ds : List PyData} (h : TL n d) (r : TLs n ds) : TLs n (d :: ds)
end
theorem TLs.at {n : Nat} : ∀ {ds : List PyData}, TLs n ds → ∀ d ∈ ds, TL n d
  | _, .cons h r, d, hd => by
    rcases List.mem_cons.mp hd with e | k
    · rw [e]; exact h
    · exact r.at d k
theorem TLs.of {n : Nat} : ∀ {ds : List PyData}, (∀ d ∈ ds, TL n d) → TLs n ds
  | [], _ => .nil
  | d :: r, h => .cons (h d List.mem_cons_self) (TLs.of fun x hx => h x (List.mem_cons_of_mem _ hx))
mutual
theorem tl_tt : ∀ {n : Nat} {d : PyData}, TL n d → Tt n (frz d)
  | _, _, .str h => .str h
  | _, _, .int i => .int i
  | _, _, .tup l h => .tup (by rw [frzs_map, List.length_map]; exact l) (tls_tt h)
  | _, _, .lst l h => .tup (by rw [frzs_map, List.length_map]; exact l) (tls_tt h)
theorem tls_tt : ∀ {n : Nat} {ds : List PyData}, TLs n ds → Tts n (frzs ds)
  | _, _, .nil => .nil
  | _, _, .cons h r => .cons (tl_tt h) (tls_tt r)
end
mutual
theorem tt_tl : ∀ {n : Nat} {d : PyData}, Tt n d → TL n d ∧ frz d = d
  | _, _, .str h => ⟨.str h, rfl⟩
  | _, _, .int i => ⟨.int i, rfl⟩
  | _, _, .tup (ds := ds) l h => ⟨.tup l (tts_tl h).1, by show PyData.tuple (frzs ds) = .tuple ds; rw [(tts_tl h).2]⟩
theorem tts_tl : ∀ {n : Nat} {ds : List PyData}, Tts n ds → TLs n ds ∧ frzs ds = ds
  | _, _, .nil => ⟨.nil, rfl⟩
  | _, _, .cons (d := d) (ds := ds) h r => ⟨.cons (tt_tl h).1 (tts_tl r).1, by show frz d :: frzs ds = d :: ds; rw [(tt_tl h).2, (tts_tl r).2]⟩
end
def spFrL (K : PySem.W.Frag) (n : Nat) : Sp := fun vs H Q _ => ∃ v d, vs = [v] ∧ Dp K H v d ∧ TL n d ∧ ∀ v' H', Ex H H' → Dp K H' v' (frz d) → Q v' H'

theorem kit_noI {K : PySem.W.Frag} : PySem.W.kitAny K (.type "int") [.type "list", .type "tuple"] = some false := kitAny_cons (b := false) (kit_ty (by decide +kernel)) (fun _ => kitAny_cons (b := false) (kit_ty (by decide +kernel)) (fun _ => kitAny_nil) (fun z => nomatch z)) (fun z => nomatch z)
section
variable {P : Program} {w : World} {K : PySem.W.Frag} {mg : Str → Option Value} {base : Heap}

theorem ok_is_name {fd : FuncData} (F : FnP K "is_name" "is_name" s_is_name (ga K "is_name") fd) (T : Tx K w mg) : FnOk P w K mg base CX0 (0 + 1) (ga K "is_name") fd ["word"] spIsName := by
  refine FunD.ok F sc_is_name (fun vs H Q E h => ?_) (fun cdv A outer s H vs Q E hr h => ?_)
  · obtain ⟨z, rfl, _⟩ := h
    rfl
  · obtain ⟨z, rfl, hz, kk⟩ := h
    have n_isinstance := T.fr "isinstance" (by decide +kernel)
    have n_str := T.fr "str" (by decide +kernel)
    have n_len := T.fr "len" (by decide +kernel)
    obtain ⟨tk_LONGEST_NAME, g_LONGEST_NAME⟩ := T.c_LONGEST_NAME
    have n_all := T.fr "all" (by decide +kernel)
    obtain ⟨tk_LETTERS, g_LETTERS⟩ := T.c_LETTERS
    refine ⟨_, PSs.nox (pss_cons (ps_if (PW.pt (pw_or (pt_not (pt_val (pe_callB call_isi (by rfl) n_isinstance (by decide +kernel) (pa_cons (pv 0) (pa_cons (pe_bltn (v := .ty "str") (by rfl) n_str (by decide +kernel) rfl) pa_nil))))) (pw_or1 (pt_not (pt_chain op_le op_le pe_int (pe_callB call_len_str (by rfl) n_len (by decide +kernel) (pa_cons (pv 0) pa_nil)) (pe_glob (v := .int _) (by rfl) g_LONGEST_NAME ⟨_, rfl⟩))))))
      (pss_one (ps_ret pe_bl))
      pss_nil)
      (pss_one (ps_ret (pe_callB (cr_all rfl) (by rfl) n_all (by decide +kernel) (pa_cons (pe_lc (own := [("letter", 1)]) (g := gName 1) (by rfl) sc_is_name.nd (pi_str (pv 0)) (blkOk_by (own := [("letter", 1)]) (N := ["word", "letter"]) (sc := defScope s_is_name) (by decide +kernel)) (fun _ _ _ _ _ => (pg_name (i := 1) sc_is_name.nd rfl (Or.inl rfl))) (fun _ _ _ _ _ => pts_nil) (fun _ _ _ _ _ => (pe_cmpR op_in_sign (pv 1) (pe_glob (v := .str _) (by rfl) g_LETTERS ⟨_, rfl⟩) (by rfl)))) pa_nil))))), ?_⟩
    refine q_when (b := !(decide ((1 : Int) ≤ (z.length : Int)) && decide ((z.length : Int) ≤ 12))) (et_is (et_or (et_not (et_B (ev_cb (ea_cons (ev_var rfl) (ea_cons ev_c ea_nil)) isi_str))) fun _ => et_not (et_test (ev_chain ev_c (ev_cb (ea_cons (ev_var rfl) ea_nil) fun H1 e Q q => ⟨z, rfl, fits hz, q H1 (Ex.refl _)⟩) ev_c))) (by simp)) (fun hb H1 e1 => ?_) (fun hb H1 e1 => ?_)
    · refine s_ret ev_c fun H2 e2 => ?_
      have z1 : goodN z = false := by
        unfold goodN
        rw [← Bool.and_assoc]
        have z2 : (decide (1 ≤ z.length) && decide (z.length ≤ 12)) = false := by
          rw [Bool.not_eq_true'] at hb
          rw [← hb]
          congr 1 <;> exact decide_eq_decide.mpr (by omega)
        rw [z2]
        rfl
      have k := kk H2 (e1.trans e2)
      rw [z1] at k
      exact k
    · refine ⟨.str z, rfl, z, rfl, fun D hD => ?_⟩
      refine lc_it walk_str (fun i H' => Ex H H' ∧ H' D = some (.lst ((z.cps.toList.take i).map fun c => V.bl (decide (c ∈ alphabet.cps.toList))))) ⟨e1.trans (Ex.new hD), upd_same⟩ (fun _ _ _ _ => True.intro) (fun i x H2 H3 hi hI hy => ?_) (fun H2 hI => ?_)
      · obtain ⟨rfl, c, hc, rfl⟩ := hy
        obtain ⟨e2, e3⟩ := hI
        have hDn : H D = none := fresh_back e1 hD
        have hc2 : z.cps.toList[i]? = some c := by rw [Array.getElem?_toList]; exact hc
        refine ⟨rfl, yes_go ⟨.str ⟨#[c]⟩, rfl, c, alphabet, rfl, rfl, _, e3, ?_, e2.mut hDn, ?_⟩⟩
        · rw [List.length_map, List.length_take]
          have k : z.cps.toList.length = z.length := (len_codes z).symm
          exact Nat.lt_of_le_of_lt (show _ ≤ 1000 by omega) (by rw [sizeLine_eq]; decide)
        · rw [upd_same, take_more hc2, List.map_append]
          rfl
      · obtain ⟨e2, e3⟩ := hI
        have z1 : (z.cps.toList.take z.cps.size) = z.cps.toList := List.take_of_length_le (by simp)
        rw [z1] at e3
        refine ⟨D, z.cps.toList.map fun c => decide (c ∈ alphabet.cps.toList), rfl, sq_of (by rw [e3, List.map_map]; rfl), ?_⟩
        have z2 : goodN z = (z.cps.toList.map fun c => decide (c ∈ alphabet.cps.toList)).all id := by
          unfold goodN
          rw [List.all_map]
          rw [Bool.not_eq_false', Bool.and_eq_true] at hb
          have k1 := of_decide_eq_true hb.1
          have k2 := of_decide_eq_true hb.2
          rw [decide_eq_true (show 1 ≤ z.length by omega), decide_eq_true (show z.length ≤ 12 by omega)]
          rfl
        have k := kk H2 e2
        rw [z2] at k
        exact k

theorem ok_frozen0 {fd : FuncData} (F : FnP K "frozen" "frozen" s_frozen (ga K "frozen") fd) (T : Tx K w mg) : FnOk P w K mg base CX0 (0 + 1) (ga K "frozen") fd ["thing"] (spFrL K 0) := by
  refine FunD.ok F sc_frozen (fun vs H Q E h => ?_) (fun cdv A outer s H vs Q E hr h => ?_)
  · obtain ⟨v, d, rfl, _⟩ := h
    rfl
  · obtain ⟨v, d, rfl, hd, ht, kk⟩ := h
    have n_isinstance := T.fr "isinstance" (by decide +kernel)
    have n_list := T.fr "list" (by decide +kernel)
    have n_tuple := T.fr "tuple" (by decide +kernel)
    refine ⟨_, PSs.nox (pss_cons (ps_if (pt_val (pe_callB call_isiT (by rfl) n_isinstance (by decide +kernel) (pa_cons (pv 0) (pa_cons (pe_tup (pa_cons (pe_bltn (v := .ty "list") (by rfl) n_list (by decide +kernel) rfl) (pa_cons (pe_bltn (v := .ty "tuple") (by rfl) n_tuple (by decide +kernel) rfl) pa_nil))) pa_nil))))
      (pss_one ps_never)
      pss_nil)
      (pss_one (ps_ret (pv 0)))), ?_⟩
    cases ht with
    | @str _ z hz =>
      cases hd
      refine q_when (b := false) (et_B (ev_isiT (ev_var rfl) (fun H1 _ => .base (.str z)) kit_no)) (fun hb => nomatch hb) (fun _ H1 e1 => ?_)
      exact s_ret (ev_var rfl) fun H2 e2 => kk _ H2 (e1.trans e2) (.str z)
    | int i =>
      cases hd
      refine q_when (b := false) (et_B (ev_isiT (ev_var rfl) (fun H1 _ => .base (.int i)) kit_noI)) (fun hb => nomatch hb) (fun _ H1 e1 => ?_)
      exact s_ret (ev_var rfl) fun H2 e2 => kk _ H2 (e1.trans e2) (.int i)

theorem ok_frozenS {fd : FuncData} {n k : Nat} (F : FnP K "frozen" "frozen" s_frozen (ga K "frozen") fd) (T : Tx K w mg) (c_frozen : Cl P w K mg base CX0 k (ga K "frozen") ["thing"] (spFrL K n)) : FnOk P w K mg base CX0 (k + 1) (ga K "frozen") fd ["thing"] (spFrL K (n + 1)) := by
  obtain ⟨fd_frozen, G_frozen, b_frozen, kp_frozen⟩ := c_frozen
  refine FunD.ok F sc_frozen (fun vs H Q E h => ?_) (fun cdv A outer s H vs Q E hr h => ?_)
  · obtain ⟨v, d, rfl, _⟩ := h
    rfl
  · obtain ⟨v, d, rfl, hd, ht, kk⟩ := h
    have n_isinstance := T.fr "isinstance" (by decide +kernel)
    have n_list := T.fr "list" (by decide +kernel)
    have n_tuple := T.fr "tuple" (by decide +kernel)
    have g_frozen := T.gl "frozen" (by decide +kernel)
    refine ⟨_, PSs.nox (pss_cons (ps_if (pt_val (pe_callB call_isiT (by rfl) n_isinstance (by decide +kernel) (pa_cons (pv 0) (pa_cons (pe_tup (pa_cons (pe_bltn (v := .ty "list") (by rfl) n_list (by decide +kernel) rfl) (pa_cons (pe_bltn (v := .ty "tuple") (by rfl) n_tuple (by decide +kernel) rfl) pa_nil))) pa_nil))))
      (pss_one (ps_ret (pe_callTy call_tuple_of (by rfl) n_tuple (by decide +kernel) (pa_cons (pe_lc (own := [("entry", 1)]) (g := gName 1) (by rfl) sc_frozen.nd (pi_or (pi_tup (pv 0)) (pi_list (pv 0))) (blkOk_by (own := [("entry", 1)]) (N := ["thing", "entry"]) (sc := defScope s_frozen) (by decide +kernel)) (fun _ _ _ _ _ => (pg_name (i := 1) sc_frozen.nd rfl (Or.inl rfl))) (fun _ _ _ _ _ => pts_nil) (fun _ _ _ _ _ => (pe_call G_frozen (hr.mono (Nat.le_refl _)) (by rfl) g_frozen kp_frozen b_frozen .nil pass0 (pa_cons (pv 1) pa_nil)))) pa_nil))))
      pss_nil)
      (pss_one (ps_ret (pv 0)))), ?_⟩
    cases ht with
    | @str _ z hz =>
      cases hd
      refine q_when (b := false) (et_B (ev_isiT (ev_var rfl) (fun H1 _ => .base (.str z)) kit_no)) (fun hb => nomatch hb) (fun _ H1 e1 => ?_)
      exact s_ret (ev_var rfl) fun H2 e2 => kk _ H2 (e1.trans e2) (.str z)
    | int i =>
      cases hd
      refine q_when (b := false) (et_B (ev_isiT (ev_var rfl) (fun H1 _ => .base (.int i)) kit_noI)) (fun hb => nomatch hb) (fun _ H1 e1 => ?_)
      exact s_ret (ev_var rfl) fun H2 e2 => kk _ H2 (e1.trans e2) (.int i)
    | @tup _ ds hl hs =>
      cases hd with
      | @tup a xs _ hx hD2 =>
        refine q_when (b := true) (et_B (ev_isiT (ev_var rfl) (fun H1 e => tyx_t (ex_t e hx)) kit_t)) (fun _ H1 e1 => ?_) (fun hb => nomatch hb)
        have hx1 := ex_t e1 hx
        have len := dpAll_len hD2
        refine .inl ⟨.ref a, rfl, a, rfl, ⟨_, hx1⟩, fun D hD => ?_⟩
        refine lc_tup (xs := xs) (fun i H' => ∃ ys, ys.length = i ∧ Ex H H' ∧ H' D = some (.lst ys) ∧ DpAll K H' ys ((ds.take i).map frz)) ⟨[], rfl, e1.trans (Ex.new hD), upd_same, .nil⟩ (fun i H' _ hI => ex_t hI.choose_spec.2.1 hx) (fun i x H2 hxi hI => ?_) (fun H2 hI => ?_)
        · obtain ⟨ys, e2, e3, e4, e5⟩ := hI
          obtain ⟨d', hd', hx'⟩ := dpAll_at hD2 hxi
          have hi := (List.getElem?_eq_some_iff.mp hxi).1
          have td := hs.at d' (List.mem_of_getElem? hd')
          refine ⟨rfl, yes_go ⟨x, rfl, x, d', rfl, dpM e3 _ _ hx', td, fun v' H3 e6 h6 => ⟨ys, e6 _ _ e4, small1000 (by omega), ys ++ [v'], by rw [List.length_append, e2]; rfl, (e3.trans e6).mut (fresh_back e1 hD), upd_same, ?_⟩⟩⟩
          rw [take_more hd', List.map_append]
          exact dpAll_add (dps_off (e6 _ _ e4) (n := n) (Tts.of fun y hy => by
            obtain ⟨y0, hy0, rfl⟩ := List.mem_map.mp hy
            exact tl_tt (hs.at y0 (List.mem_of_mem_take hy0))) (dpMs e6 _ _ e5)) (dp_off (e6 _ _ e4) (tl_tt td) h6)
        · obtain ⟨ys, e2, e3, e4, e5⟩ := hI
          rw [List.take_of_length_le (by omega), ← frzs_map] at e5
          exact ⟨D, _, rfl, .inl ⟨sq_of e4, fun u hu => kk _ _ (e3.trans (Ex.new hu)) (.tup (st_of upd_same) (dpMs (Ex.new hu) _ _ e5))⟩⟩
    | @lst _ ds hl hs =>
      cases hd with
      | @lst a xs _ hx hD2 =>
        refine q_when (b := true) (et_B (ev_isiT (ev_var rfl) (fun H1 e => tyx_l (ex_l e hx)) kit_l)) (fun _ H1 e1 => ?_) (fun hb => nomatch hb)
        have hx1 := ex_l e1 hx
        have len := dpAll_len hD2
        refine .inr ⟨.ref a, rfl, a, rfl, ⟨_, hx1⟩, fun D hD => ?_⟩
        refine lc_list (xs := xs) (fun i H' => ∃ ys, ys.length = i ∧ Ex H H' ∧ H' D = some (.lst ys) ∧ DpAll K H' ys ((ds.take i).map frz)) ⟨[], rfl, e1.trans (Ex.new hD), upd_same, .nil⟩ (fun i H' _ hI => ex_l hI.choose_spec.2.1 hx) (fun i x H2 hxi hI => ?_) (fun H2 hI => ?_)
        · obtain ⟨ys, e2, e3, e4, e5⟩ := hI
          obtain ⟨d', hd', hx'⟩ := dpAll_at hD2 hxi
          have hi := (List.getElem?_eq_some_iff.mp hxi).1
          have td := hs.at d' (List.mem_of_getElem? hd')
          refine ⟨rfl, yes_go ⟨x, rfl, x, d', rfl, dpM e3 _ _ hx', td, fun v' H3 e6 h6 => ⟨ys, e6 _ _ e4, small1000 (by omega), ys ++ [v'], by rw [List.length_append, e2]; rfl, (e3.trans e6).mut (fresh_back e1 hD), upd_same, ?_⟩⟩⟩
          rw [take_more hd', List.map_append]
          exact dpAll_add (dps_off (e6 _ _ e4) (n := n) (Tts.of fun y hy => by
            obtain ⟨y0, hy0, rfl⟩ := List.mem_map.mp hy
            exact tl_tt (hs.at y0 (List.mem_of_mem_take hy0))) (dpMs e6 _ _ e5)) (dp_off (e6 _ _ e4) (tl_tt td) h6)
        · obtain ⟨ys, e2, e3, e4, e5⟩ := hI
          rw [List.take_of_length_le (by omega), ← frzs_map] at e5
          exact ⟨D, _, rfl, .inl ⟨sq_of e4, fun u hu => kk _ _ (e3.trans (Ex.new hu)) (.tup (st_of upd_same) (dpMs (Ex.new hu) _ _ e5))⟩⟩

theorem ok_kinds_of {fd : FuncData} (F : FnP K "kinds_of" "kinds_of" s_kinds_of (ga K "kinds_of") fd) (T : Tx K w mg) : FnOk P w K mg base CX0 (0 + 1) (ga K "kinds_of") fd ["statement"] (spKd K) := by
  refine FunD.ok F sc_kinds_of (fun vs H Q E h => ?_) (fun cdv A outer s H vs Q E hr h => ?_)
  · obtain ⟨t, w, rest, ks, rfl, _⟩ := h
    rfl
  · obtain ⟨t, wd, rest, ks, rfl, ht, hk, kk⟩ := h
    have n_isinstance := T.fr "isinstance" (by decide +kernel)
    have n_tuple := T.fr "tuple" (by decide +kernel)
    have n_str := T.fr "str" (by decide +kernel)
    have g_ENTRIES := T.gl "ENTRIES" (by decide +kernel)
    refine ⟨_, PSs.nox (pss_cons (ps_if (PW.pt (pw_and (pt_val (pe_callB call_isi (by rfl) n_isinstance (by decide +kernel) (pa_cons (pv 0) (pa_cons (pe_bltn (v := .ty "tuple") (by rfl) n_tuple (by decide +kernel) rfl) pa_nil)))) (pw_and (pt_truth (pv 0) (fun _ => rfl)) (pw_and1 (pt_val (pe_callB call_isi (by rfl) n_isinstance (by decide +kernel) (pa_cons (pe_ix ix_tup (pv 0) pe_int (fun _ _ => rfl)) (pa_cons (pe_bltn (v := .ty "str") (by rfl) n_str (by decide +kernel) rfl) pa_nil))))))))
      (pss_one (ps_ret (pe_kget (pe_glob (v := .ref _) (by rfl) g_ENTRIES rfl) (pe_ix ix_tup (pv 0) pe_int (fun _ _ => rfl)) ⟨rfl, rfl, rfl, rfl⟩)))
      pss_nil)
      (pss_one (ps_ret pe_non))), ?_⟩
    obtain ⟨es, n, hD, hE⟩ := T.en
    obtain ⟨a, hN, hA⟩ := hE _ hk
    refine q_when (b := true) (et_is (et_and (et_B (ev_cb (ea_cons (ev_var rfl) (ea_cons ev_c ea_nil)) fun H1 e Q q => ⟨.ref t, .ty "tuple", .type "tuple", .type "tuple", true, rfl, .ty _, tyx_t (ex_t e ht), kit_ty (by decide +kernel), q H1 (Ex.refl _)⟩)) fun _ =>
      et_and (b := true) (a := true) (fun H1 e Q q => ev_var rfl H1 e _ fun H2 e2 => ⟨true, (show TruV K (.ref t) H2 true from Or.inr (Or.inl ⟨_, ex_t e2 (ex_t e ht), rfl⟩)), q H2 e2⟩) fun _ => et_B (ev_cb (ea_cons (ev_op (ev_var rfl) ev_c (rv_ixT ht (v := .str wd) (atI_nat (j := 0) rfl))) (ea_cons ev_c ea_nil)) isi_str)) rfl) (fun _ H1 e1 => ?_) (fun hb => nomatch hb)
    exact ⟨_, es, n, rfl, hD, .ref t, rfl, t, _, 0, .str wd, rfl, rfl, ex_t e1 ht, atI_nat (j := 0) rfl, wd, _, .ref a, rfl, hN, rfl, kk a H1 hA e1⟩

theorem ok_parts_of {fd : FuncData} (F : FnP K "parts_of" "parts_of" s_parts_of (ga K "parts_of") fd) (T : Tx K w mg) (c_kinds_of : Cl P w K mg base CX0 1 (ga K "kinds_of") ["statement"] (spKd K)) : FnOk P w K mg base CX0 (1 + 1) (ga K "parts_of") fd ["statement"] (spPt K) := by
  obtain ⟨fd_kinds_of, G_kinds_of, b_kinds_of, kp_kinds_of⟩ := c_kinds_of
  refine FunD.ok F sc_parts_of (fun vs H Q E h => ?_) (fun cdv A outer s H vs Q E hr h => ?_)
  · obtain ⟨v, d, n, rfl, _⟩ := h
    rfl
  · obtain ⟨v, d, n, rfl, hd, htt, hsh, kk⟩ := h
    have g_kinds_of := T.gl "kinds_of" (by decide +kernel)
    have n_zip := T.fr "zip" (by decide +kernel)
    have n_isinstance := T.fr "isinstance" (by decide +kernel)
    have n_tuple := T.fr "tuple" (by decide +kernel)
    refine ⟨_, PSs.nox (pss_cons (ps_set (i := 1) sc_parts_of.nd rfl (Or.inl rfl) (pe_call G_kinds_of (hr.mono (by decide)) (by rfl) g_kinds_of kp_kinds_of b_kinds_of .nil pass0 (pa_cons (pv 0) pa_nil)))
      (pss_cons (ps_if (pt_cmpR op_isN (pv 1) pe_non (nomark _))
      (pss_one (ps_ret (pe_lst pa_nil)))
      pss_nil)
      (pss_one (ps_ret (pe_lc (own := [("entry", 2), ("kind", 3)]) (g := _) (by rfl) sc_parts_of.nd (RZ.pi_zipA (by rfl) n_zip (pa_cons (pe_slice sl_tup (pv 0) (po_some pe_int) po_none) (pa_cons (pv 1) pa_nil))) (blkOk_by (own := [("entry", 2), ("kind", 3)]) (N := ["statement", "kinds", "entry", "kind"]) (sc := defScope s_parts_of) (by decide +kernel)) (fun _ _ _ _ _ => (pg_tupc (K := K) (n := 2) rfl rfl (pgs_cons (pg_name (i := 2) sc_parts_of.nd rfl (Or.inl rfl)) (pgs_cons (pg_name (i := 3) sc_parts_of.nd rfl (Or.inl rfl)) pgs_nil)))) (fun _ _ _ _ _ => (pts_one (PW.pt (pw_and (pt_cmpR op_eq (pv 3) pe_str (nomark _)) (pw_and1 (pt_val (pe_callB (call_isi : CallR _ _ (rIsi K)) (by rfl) n_isinstance (by decide +kernel) (pa_cons (pv 2) (pa_cons (pe_bltn (v := .ty "tuple") (by rfl) n_tuple (by decide +kernel) rfl) pa_nil))))))))) (fun _ _ _ _ _ => (pv 2))))))), ?_⟩
    obtain ⟨wd, ks, args, rfl, hk, hl, hsh⟩ := hsh
    cases htt with
    | @tup m _ hlen hts =>
      cases hts with
      | cons ht1 hts =>
        cases hd with
        | @tup a xs _ hx hxs =>
          cases hxs with
          | @cons v0 rest _ _ h0 hr' =>
            cases h0
            have lr := dpAll_len hr'
            refine ⟨.ref a, rfl, a, wd, rest, ks, rfl, hx, hk, fun ak H1 hA e1 => ?_⟩
            dsimp only [gName, List.set]
            refine q_when (b := false) (et_test fun H2 e2 R q => ⟨.ref ak, rfl, rfl, q H2 (Ex.refl _)⟩) (fun hb => nomatch hb) (fun _ H2 e2 => ?_)
            have e12 := e1.trans e2
            refine ⟨.ref a, rfl, 1, rfl, a, _, rfl, ex_t e12 hx, ?_, fun p hp => ⟨.ref ak, rfl, p, ak, _, _, rfl, .inr ⟨st_of upd_same, hA _, fun D hD => ?_⟩⟩⟩
            · intro h
              have h1 := h.1
              rw [show ((1 : Int)) = ((1 : Nat) : Int) from rfl, HT.sIx_nat] at h1
              simp only [List.length_cons] at h1
              omega
            have hcut : cutV (V.str wd :: rest) (some 1) none = rest := by
              rw [show ((1 : Int)) = ((1 : Nat) : Int) from rfl, cut_drop]
              rfl
            rw [hcut] at hD ⊢
            have e3 := e12.trans ((Ex.new (o := .tup rest) hp).trans (Ex.new (o := .lst []) hD))
            refine lc_it (walk_zipT (xs := rest) (ys := ks.map V.str) rfl) (fun i H' => ∃ ys, ys.length ≤ i ∧ Ex (upd H2 p (.tup rest)) H' ∧ H' D = some (.lst ys) ∧ DpAll K H' ys ((args.take i).filter isP)) ⟨[], Nat.le_refl _, Ex.new hD, upd_same, .nil⟩ (fun i H' _ hI => ?_) (fun i x H3 H4 hi hI hy => ?_) (fun H3 hI => ?_)
            · obtain ⟨ys, f1, f2, f3, f4⟩ := hI
              exact ⟨st_of (f2 _ _ upd_same), hA _⟩
            · obtain ⟨ys, f1, f2, f3, f4⟩ := hI
              obtain ⟨tq, x1, y1, rfl, hT, rfl, p1, p2⟩ := hy
              replace p1 : rest[i]? = some x1 := p1
              replace p2 : (ks.map V.str)[i]? = some y1 := p2
              obtain ⟨di, hdi, hxi⟩ := dpAll_at hr' p1
              rw [List.getElem?_map] at p2
              cases hki : ks[i]? with
              | none =>
                rw [hki] at p2
                cases p2
              | some k =>
                rw [hki] at p2
                cases p2
                have hP := hsh i k di hki hdi
                have tdi := hts.at di (List.mem_of_getElem? hdi)
                have f5 : Ex (upd H2 p (.tup rest)) (upd H3 tq (.tup [x1, .str k])) := f2.trans (Ex.new hT)
                refine ⟨tq, [x1, .str k], rfl, st_of upd_same, rfl, x1, [.str k], rfl, .str k, [], rfl, rfl, rfl, ?_⟩
                have tst : isP di = (decide (V.str k = V.str "part") && isP di) := by
                  rw [hP]
                  cases hq : decide (k = "part") with
                  | false => simp
                  | true =>
                    have e := of_decide_eq_true hq
                    subst e
                    rfl
                have hx4 : Dp K (upd H3 tq (.tup [x1, .str k])) x1 di := dpM (e12.trans ((Ex.new hp).trans f5)) _ _ hxi
                refine go_test (b := isP di) (et_is (et_and (b := isP di) (et_test (ev_op (ev_var rfl) ev_c (rv_eq rfl))) fun hkp => et_B (ev_cb (ea_cons (ev_var rfl) (ea_cons ev_c ea_nil)) fun H5 e Q2 q2 => ?_)) tst.symm) fun H5 e5 => ?_
                · have isp : isP di = true := by
                    rw [hP]
                    have e0 := of_decide_eq_true hkp
                    cases e0
                    decide
                  cases di with
                  | tuple es =>
                    cases dpM e _ _ hx4 with
                    | @tup b zs _ hzs _ => exact ⟨.ref b, .ty "tuple", .type "tuple", .type "tuple", true, rfl, .ty _, tyx_t hzs, kit_ty (by decide +kernel), q2 H5 (Ex.refl _)⟩
                  | none => cases isp
                  | bool _ => cases isp
                  | int _ => cases isp
                  | str _ => cases isp
                  | list _ => cases isp
                  | dict _ => cases isp
                have g3 := e5 _ _ (Ex.new hT _ _ f3)
                have g4 := dpMs ((Ex.new hT).trans e5) _ _ f4
                have tk : (args.take (i + 1)).filter isP = (args.take i).filter isP ++ (if isP di = true then [di] else []) := by
                  rw [take_more hdi, List.filter_append]
                  cases hq : isP di <;> simp [hq]
                refine ite2 (fun hq => ?_) (fun hq => ?_)
                · refine ⟨x1, rfl, ys, g3, small1000 ?_, ys ++ [x1], ?_, (f5.trans e5).mut hD, upd_same, ?_⟩
                  · simp only [List.length_cons] at hlen
                    have hi2 := (List.getElem?_eq_some_iff.mp hdi).1
                    omega
                  · rw [List.length_append]
                    show ys.length + 1 ≤ i + 1
                    omega
                  · rw [tk, if_pos hq]
                    exact dpAll_add (dps_off g3 (n := m) (Tts.of fun y hy => hts.at y (List.mem_of_mem_take (List.mem_filter.mp hy).1)) g4) (dp_off g3 tdi (dpM e5 _ _ hx4))
                · refine ⟨ys, by omega, f5.trans e5, g3, ?_⟩
                  rw [tk, if_neg hq, List.append_nil]
                  exact g4
            · obtain ⟨ys, f1, f2, f3, f4⟩ := hI
              rw [List.length_map, lr, hl, Nat.min_self, List.take_of_length_le (by omega)] at f4
              exact kk D ys H3 (fresh_back (e12.trans (Ex.new hp)) hD) ((e12.trans (Ex.new hp)).trans f2) f3 f4

end
end K05
set_option Elab.async false
set_option linter.all false
set_option maxRecDepth 100000
set_option maxHeartbeats 8000000
namespace K05
open PySem PySem.Spec PyProof.Rows L2 He XH XV XR PEN TR Evl


/-! ### the numbered statements -/
inductive Prs (K : PySem.W.Frag) (H : Hp) : List Addr → List (PyData × List PyData) → Prop
  | nil : Prs K H [] []
  | cons {pr av : Addr} {sv : V} {s : PyData} {as : List PyData} {prs : List Addr} {more : List (PyData × List PyData)} {m m2 : Nat} (h : H pr = some (.tup [sv, .ref av])) (hs : Dp K H sv s) (ha : Dp K H (.ref av) (.tuple as)) (ts : Tt m s) (ta : Tt m2 (.tuple as)) (r : Prs K H prs more) : Prs K H (pr :: prs) ((s, as) :: more)
theorem Prs.mono {K : PySem.W.Frag} {H H' : Hp} (e : Ex H H') : ∀ {prs : List Addr} {l : List (PyData × List PyData)}, Prs K H prs l → Prs K H' prs l
  | _, _, .nil => .nil
  | _, _, .cons h hs ha ts ta r => .cons (e _ _ h) (dpM e _ _ hs) (dpM e _ _ ha) ts ta (r.mono e)
theorem Prs.off {K : PySem.W.Frag} {H : Hp} {D : Addr} {ys : List V} {o : HO} (hD : H D = some (.lst ys)) : ∀ {prs : List Addr} {l : List (PyData × List PyData)}, Prs K H prs l → Prs K (upd H D o) prs l
  | _, _, .nil => .nil
  | _, _, .cons h hs ha ts ta r => .cons ((upd_ne (fun e => by rw [e, hD] at h; cases h)).trans h) (dp_off hD ts hs) (dp_off hD ta ha) ts ta (r.off hD)
theorem Prs.app {K : PySem.W.Frag} {H : Hp} : ∀ {prs qrs : List Addr} {l k : List (PyData × List PyData)}, Prs K H prs l → Prs K H qrs k → Prs K H (prs ++ qrs) (l ++ k)
  | _, _, _, _, .nil, h => h
  | _, _, _, _, .cons h hs ha ts ta r, k => .cons h hs ha ts ta (r.app k)
theorem Prs.len {K : PySem.W.Frag} {H : Hp} : ∀ {prs : List Addr} {l : List (PyData × List PyData)}, Prs K H prs l → prs.length = l.length
  | _, _, .nil => rfl
  | _, _, .cons _ _ _ _ _ r => by rw [List.length_cons, List.length_cons, r.len]
def Bn : Nat → Nat
  | 0 => 0
  | n + 1 => 15 * (1 + 3 * Bn n)
theorem ent3 : ∀ p ∈ ENT, p.2.length ≤ 3 := by decide +kernel
theorem parts3 {d : PyData} (h : Sh d) : (parts d).length ≤ 3 := by
  obtain ⟨w, ks, args, rfl, hk, hl, _⟩ := h
  have k := ent3 _ hk
  have k2 : ((args.filter isP)).length ≤ args.length := List.length_filter_le ..
  show (args.filter isP).length ≤ 3
  simp only at k
  omega
theorem sum_le {α : Type} {f : α → Nat} {b : Nat} : ∀ {l : List α}, (∀ x ∈ l, f x ≤ b) → (l.map f).sum ≤ l.length * b
  | [], _ => by simp
  | x :: r, h => by
    have k := sum_le (l := r) fun y hy => h y (List.mem_cons_of_mem _ hy)
    have k2 := h x List.mem_cons_self
    rw [List.map_cons, List.sum_cons, List.length_cons, Nat.succ_mul]
    omega
theorem nums_len : ∀ {n : Nat} {ss as : List PyData}, Bod n ss → (nums n ss as).length ≤ Bn n
  | 0, _, _, _ => Nat.zero_le _
  | n + 1, ss, as, ⟨h1, h2⟩ => by
    show (ss.flatMap _).length ≤ 15 * (1 + 3 * Bn n)
    rw [List.length_flatMap]
    refine Nat.le_trans (sum_le (b := 1 + 3 * Bn n) fun s hs => ?_) (Nat.mul_le_mul_right _ h1)
    obtain ⟨k1, k2⟩ := h2 s hs
    rw [List.length_cons, List.length_flatMap]
    have k3 : (((parts s).zipIdx.map fun p => (nums n (bodyOf p.1) (as ++ [.tuple [wordOf s, .int (p.2 : Nat)]])).length)).sum ≤ (parts s).zipIdx.length * Bn n := sum_le fun p hp => by
      have hm : p.1 ∈ parts s := by
        have z := List.mem_zipIdx hp
        obtain ⟨_, z2, z3⟩ := z
        rw [z3]
        exact List.getElem_mem _
      obtain ⟨ds, e, hb⟩ := k2 _ hm
      rw [e]
      exact nums_len hb
    rw [List.length_zipIdx] at k3
    have k4 := Nat.mul_le_mul_right (Bn n) (parts3 k1)
    omega
def one (n : Nat) (as : List PyData) (s : PyData) (p : PyData × Nat) : List (PyData × List PyData) := nums n (bodyOf p.1) (as ++ [.tuple [wordOf s, .int (p.2 : Nat)]])
def oneS (n : Nat) (as : List PyData) (s : PyData) : List (PyData × List PyData) := (s, as) :: ((parts s).zipIdx.flatMap (one n as s))
theorem nums_S (n : Nat) (ss as : List PyData) : nums (n + 1) ss as = ss.flatMap (oneS n as) := rfl
theorem bn_fit : ∀ n : Nat, n ≤ 4 → Bn n ≤ 1400000 := by decide +kernel
theorem flat_more {α β : Type} {l : List α} {i : Nat} {x : α} (f : α → List β) (h : l[i]? = some x) : (l.take (i + 1)).flatMap f = (l.take i).flatMap f ++ f x := by
  rw [take_more h, List.flatMap_append, List.flatMap_singleton]
theorem flat_le {α β : Type} (f : α → List β) (l : List α) (i : Nat) : ((l.take i).flatMap f).length ≤ (l.flatMap f).length := by
  have h : (l.take i).flatMap f ++ (l.drop i).flatMap f = l.flatMap f := by rw [← List.flatMap_append, List.take_append_drop]
  rw [← h, List.length_append]
  omega
theorem op_or {X : Cx} {f : Value → Value → Sem Value} {r r' : R2} (h : OpR X f r) (h' : OpR X f r') : OpR X f (fun x y H Q => r x y H Q ∨ r' x y H Q) := by
  intro pins s σ H x y v u Q I rx ry q
  rcases q with q | q
  · exact h pins s σ H x y v u Q I rx ry q
  · exact h' pins s σ H x y v u Q I rx ry q
def rCat2 (K : PySem.W.Frag) : R2 := fun x y H Q => (∃ a b ys, x = .ref a ∧ y = .ref b ∧ SqT K H a [] ∧ SqT K H b ys ∧ Q (.ref b) H) ∨ rCatT K x y H Q
theorem op_cat2 {X : Cx} : OpR X (binaryOp .Add) (rCat2 X.K) := op_or op_catT0 op_catT
theorem cat_go {K : PySem.W.Frag} {H : Hp} {ar i2 : Addr} {as : List PyData} {y : V} {d : PyData} {Q : VK} (ha : Dp K H (.ref ar) (.tuple as)) (hi : SqT K H i2 [y]) (hy : Dp K H y d) (hl : as.length ≤ 900) (k : ∀ av H', Ex H H' → Dp K H' (.ref av) (.tuple (as ++ [d])) → Q (.ref av) H') :
    rCat2 K (.ref ar) (.ref i2) H Q := by
  cases ha with
  | @tup _ avs _ h1 h2 =>
    have le := dpAll_len h2
    cases avs with
    | nil =>
      cases h2
      exact .inl ⟨ar, i2, [y], rfl, rfl, h1, hi, k i2 H (Ex.refl H) (.tup hi (.cons hy .nil))⟩
    | cons v r =>
      refine .inr ⟨ar, i2, v :: r, [y], rfl, rfl, h1, hi, (fun e => nomatch e), fits ?_, (fun e => nomatch e), fun _ p hp => k p _ (Ex.new hp) (.tup (st_of upd_same) (dpMs (Ex.new hp) _ _ (dpAll_add h2 hy)))⟩
      rw [le]
      show as.length + 1 ≤ 1000
      omega
def spNum (K : PySem.W.Frag) (n : Nat) : Sp := fun vs H Q _ => ∃ b ar ss as m m2, vs = [.ref b, .ref ar] ∧ Dp K H (.ref b) (.tuple ss) ∧ Dp K H (.ref ar) (.tuple as) ∧ Tts m ss ∧ Tts m2 as ∧ (as.length + n ≤ 10 ∧ n ≤ 4) ∧ Bod n ss ∧
  ∀ q prs H', H q = none → Ex H H' → H' q = some (.lst (prs.map V.ref)) → Prs K H' prs (nums n ss as) → Q (.ref q) H'

section
variable {P : Program} {w : World} {K : PySem.W.Frag} {mg : Str → Option Value} {base : Heap}

theorem ok_numbered0 {fd : FuncData} (F : FnP K "numbered" "numbered" s_numbered (ga K "numbered") fd) (T : Tx K w mg) : FnOk P w K mg base CX0 (0 + 1) (ga K "numbered") fd ["body", "around"] (spNum K 0) := by
  refine FunD.ok F sc_numbered (fun vs H Q E h => ?_) (fun cdv A outer s H vs Q E hr h => ?_)
  · obtain ⟨b, ar, ss, as, m, m2, rfl, _⟩ := h
    rfl
  · obtain ⟨b, ar, ss, as, m, m2, rfl, hb, ha, hts, hta, _, hB, kk⟩ := h
    refine ⟨_, PSs.nox (pss_cons (ps_set (i := 2) sc_numbered.nd rfl (Or.inl rfl) (pe_lst pa_nil))
      (pss_cons (ps_for PassesOwn.never rfl (pi_tup (pv 0)) (pg_name (i := 3) sc_numbered.nd rfl (Or.inl rfl))
      (pss_cons ps_never
      (pss_one ps_never)))
      (pss_one (ps_ret (pv 2))))), ?_⟩
    have e0 : ss = [] := hB
    subst e0
    cases hb with
    | @tup _ xs _ hx hxs =>
      cases hxs
      refine q_asgL (el_lst ea_nil (by decide)) fun D H1 hD e1 h1 => ?_
      dsimp only [gName, List.set]
      refine ⟨.ref b, rfl, b, rfl, ⟨_, ex_t e1 hx⟩, ?_⟩
      refine for_tup (xs := []) (fun i σ' H' => σ' = _ ∧ H' = H1) ⟨rfl, rfl⟩ (fun i σ' H' _ hI => by rw [hI.2]; exact ex_t e1 hx) (fun i x σ' H' hx hI => nomatch hx) (fun σ' H' hI => ?_)
      rw [hI.1, hI.2]
      exact ⟨.ref D, rfl, kk D [] H1 hD e1 h1 .nil⟩

theorem ok_numberedS {fd : FuncData} {n k : Nat} (hk2 : 2 ≤ k) (F : FnP K "numbered" "numbered" s_numbered (ga K "numbered") fd) (T : Tx K w mg) (c_parts_of : Cl P w K mg base CX0 2 (ga K "parts_of") ["statement"] (spPt K)) (c_numbered : Cl P w K mg base CX0 k (ga K "numbered") ["body", "around"] (spNum K n)) : FnOk P w K mg base CX0 (k + 1) (ga K "numbered") fd ["body", "around"] (spNum K (n + 1)) := by
  obtain ⟨fd_parts_of, G_parts_of, b_parts_of, kp_parts_of⟩ := c_parts_of
  obtain ⟨fd_numbered, G_numbered, b_numbered, kp_numbered⟩ := c_numbered
  refine FunD.ok F sc_numbered (fun vs H Q E h => ?_) (fun cdv A outer s H vs Q E hr h => ?_)
  · obtain ⟨b, ar, ss, as, m, m2, rfl, _⟩ := h
    rfl
  · obtain ⟨b, ar, ss, as, m, m2, rfl, hb, ha, hts, hta, ⟨hal, hn⟩, hB, kk⟩ := h
    have n_enumerate := T.fr "enumerate" (by decide +kernel)
    have g_parts_of := T.gl "parts_of" (by decide +kernel)
    have g_numbered := T.gl "numbered" (by decide +kernel)
    refine ⟨_, PSs.nox (pss_cons (ps_set (i := 2) sc_numbered.nd rfl (Or.inl rfl) (pe_lst pa_nil))
      (pss_cons (ps_for PassesOwn.never rfl (pi_tup (pv 0)) (pg_name (i := 3) sc_numbered.nd rfl (Or.inl rfl))
      (pss_cons (ps_expr (pe_bm PySem.F.plainAttrs_list PySem.F.slot_list_append PySem.F.type_list_append mt_append (pv 2) (pa_cons (pe_tup (pa_cons (pv 3) (pa_cons (pv 1) pa_nil))) pa_nil)))
      (pss_one (ps_for PassesOwn.never rfl (pi_enum (by rfl) n_enumerate (pa_cons (pe_call G_parts_of (hr.mono hk2) (by rfl) g_parts_of kp_parts_of b_parts_of .nil pass0 (pa_cons (pv 3) pa_nil)) pa_nil)) (pg_tup rfl (pgs_cons (pg_name (i := 4) sc_numbered.nd rfl (Or.inl rfl)) (pgs_cons (pg_name (i := 5) sc_numbered.nd rfl (Or.inl rfl)) pgs_nil)))
      (pss_one (ps_expr (pe_bm PySem.F.plainAttrs_list PySem.F.slot_list_extend PySem.F.type_list_extend mt_extend (pv 2) (pa_cons (pe_call G_numbered (hr.mono (Nat.le_refl _)) (by rfl) g_numbered kp_numbered b_numbered .nil pass0 (pa_cons (pv 5) (pa_cons (pe_op op_cat2 (pv 1) (pe_tup (pa_cons (pe_tup (pa_cons (pe_ix ix_tup (pv 3) pe_int (fun _ _ => rfl)) (pa_cons (pv 4) pa_nil))) pa_nil))) pa_nil))) pa_nil))))))))
      (pss_one (ps_ret (pv 2))))), ?_⟩
    have hB0 := hB
    obtain ⟨hsl, hB⟩ := hB
    have tot := nums_len (as := as) hB0
    have cap := bn_fit (n + 1) hn
    rw [nums_S] at tot
    cases hb with
    | @tup _ xs _ hx hxs =>
      have lx := dpAll_len hxs
      refine q_asgL (el_lst ea_nil (by decide)) fun D H1 hD e1 h1 => ?_
      dsimp only [gName, List.set]
      refine ⟨.ref b, rfl, b, rfl, ⟨_, ex_t e1 hx⟩, ?_⟩
      refine for_tup (xs := xs) (fun i σ' H' => ∃ prs v3 v4 v5, σ' = [some (.ref b), some (.ref ar), some (.ref D), v3, v4, v5] ∧ H' D = some (.lst (prs.map V.ref)) ∧ Ex H H' ∧ Prs K H' prs ((ss.take i).flatMap (oneS n as)))
        ⟨[], _, _, _, rfl, h1, e1, .nil⟩ (fun i σ' H' _ hI => ?_) (fun i x σ' H' hxi hI => ?_) (fun σ' H' hI => ?_)
      · obtain ⟨prs, v3, v4, v5, rfl, f1, f2, f3⟩ := hI
        exact ex_t f2 hx
      · obtain ⟨prs, v3, v4, v5, rfl, f1, f2, f3⟩ := hI
        obtain ⟨s, hs, hxs'⟩ := dpAll_at hxs hxi
        have hsm := List.mem_of_getElem? hs
        obtain ⟨shs, hps⟩ := hB s hsm
        have tts := hts.at s hsm
        have lp := f3.len
        have le1 := flat_le (oneS n as) ss i
        dsimp only [gName, List.set]
        obtain ⟨wd, ks, args, es, hk, hkl, hksh⟩ := id shs
        subst es
        cases hxs' with
        | @tup t rest0 _ ht hrest =>
          cases hrest with
          | @cons v0 rest _ _ hv0 hrest =>
            cases hv0
            have hxs2 : Dp K H (.ref t) (.tuple (.str wd :: args)) := .tup ht (.cons (.str wd) hrest)
            generalize hS : PyData.tuple (.str wd :: args) = s at *
            have hw : wordOf s = .str wd := by rw [← hS]; rfl
            have tot1 : ((ss.take i).flatMap (oneS n as)).length + (oneS n as s).length ≤ 1400000 := by
              have z := flat_le (oneS n as) ss (i + 1)
              rw [flat_more (oneS n as) hs, List.length_append] at z
              omega
            have one1 : (oneS n as s).length = 1 + ((parts s).zipIdx.flatMap (one n as s)).length := by
              show (_ :: _).length = _
              rw [List.length_cons]
              omega
            refine ⟨.ref D, rfl, .inl ⟨rfl, _, sq_of f1⟩, .ref t, rfl, .ref ar, rfl, (show 2 ≤ sizeLine by decide), fun p hp => ⟨D, prs.map V.ref, .ref p, rfl, rfl, Ex.new hp _ _ f1, ?_, ?_⟩⟩
            · rw [List.length_map, sizeLine_eq]
              omega
            have g1 := f2.trans (Ex.new (o := .tup [.ref t, .ref ar]) hp)
            have nb : Prs K (upd H' p (.tup [.ref t, .ref ar])) (prs ++ [p]) ((ss.take i).flatMap (oneS n as) ++ [(s, as)]) := (f3.mono (Ex.new hp)).app (.cons upd_same (dpM g1 _ _ hxs2) (dpM g1 _ _ ha) tts (.tup (by omega) hta) .nil)
            have nb2 := nb.off (o := .lst (prs.map V.ref ++ [.ref p])) (Ex.new hp _ _ f1)
            have g2 : Ex H (upd (upd H' p (.tup [.ref t, .ref ar])) D (.lst (prs.map V.ref ++ [.ref p]))) := g1.mut hD
            have g3 : upd (upd H' p (.tup [.ref t, .ref ar])) D (.lst (prs.map V.ref ++ [.ref p])) D = some (.lst ((prs ++ [p]).map V.ref)) := by rw [upd_same, List.map_append]; rfl
            generalize upd (upd H' p (.tup [.ref t, .ref ar])) D (.lst (prs.map V.ref ++ [.ref p])) = H3 at nb2 g2 g3
            refine ⟨.ref t, rfl, .ref t, s, m, rfl, dpM g2 _ _ hxs2, tts, shs, fun q ys H4 hq e4 h4 hys => ⟨q, ys, rfl, sq_of h4, ?_⟩⟩
            have nqD : q ≠ D := fun e => by rw [e, g3] at hq; cases hq
            have lys := dpAll_len hys
            refine for_it (walk_enum (xs := ys)) (fun j σ' H' => ∃ prs2 v4' v5', σ' = [some (.ref b), some (.ref ar), some (.ref D), some (.ref t), v4', v5'] ∧ H' D = some (.lst (prs2.map V.ref)) ∧ Ex H H' ∧ (H' q = some (.lst ys) ∧ DpAll K H' ys (parts s)) ∧ Prs K H' prs2 ((ss.take i).flatMap (oneS n as) ++ ((s, as) :: ((parts s).zipIdx.take j).flatMap (one n as s))))
              ⟨prs ++ [p], _, _, rfl, e4 _ _ g3, g2.trans e4, ⟨h4, hys⟩, nb2.mono e4⟩ (fun j σ' H' _ hI => ?_) (fun j x σ' H5 H6 hj hI hy => ?_) (fun σ' H' hI => ?_)
            · obtain ⟨prs2, v4', v5', rfl, k1, k2, k3, k4⟩ := hI
              exact sq_of k3.1
            · obtain ⟨prs2, v4', v5', rfl, k1, k2, ⟨k3, k3'⟩, k4⟩ := hI
              obtain ⟨tq, x1, y1, rfl, hT, rfl, p1, p2⟩ := hy
              cases p1
              replace p2 : ys[j]? = some y1 := p2
              obtain ⟨pd, hpd, hpv⟩ := dpAll_at k3' p2
              obtain ⟨ds, rfl, hbd⟩ := hps pd (List.mem_of_getElem? hpd)
              have mz : (parts s).zipIdx[j]? = some (.tuple ds, j) := by
                rw [List.getElem?_zipIdx, hpd]
                simp
              have g5 : Ex H (upd H5 tq (.tup [.int (j : Nat), y1])) := k2.trans (Ex.new hT)
              have g6 := g5
              cases hpv with
              | @tup pb pvs _ hpb hpvs =>
                have tpd : Tt m (.tuple ds) ∨ True := .inr True.intro
                obtain ⟨m', tds, wlen, mp, tps⟩ : ∃ m', Tts m' ds ∧ wd.length ≤ 1000 ∧ ∃ mp, Tts mp (parts s) := by
                  have z := (List.mem_of_getElem? hpd)
                  have z2 : PyData.tuple ds ∈ args := by
                    rw [← hS] at z
                    exact (List.mem_filter.mp z).1
                  rw [← hS] at tts
                  cases tts with
                  | tup _ q1 =>
                    cases q1 with
                    | cons q0 q2 =>
                      have z3 := q2.at _ z2
                      cases q0 with
                      | str q5 =>
                        cases z3 with
                        | tup _ z4 => exact ⟨_, z4, q5, _, Tts.of fun y hy => q2.at y (by rw [← hS] at hy; exact (List.mem_filter.mp hy).1)⟩
                refine ⟨tq, [.int (j : Nat), .ref pb], rfl, st_of upd_same, rfl, .int (j : Nat), [.ref pb], rfl, .ref pb, [], rfl, rfl, ?_⟩
                dsimp only [gName, List.set]
                have kD := Ex.new (o := .tup [.int (j : Nat), .ref pb]) hT _ _ k1
                refine ⟨.ref D, rfl, .inl ⟨rfl, _, sq_of kD⟩, .ref pb, rfl, .ref ar, rfl, .ref t, rfl, t, _, 0, .str wd, rfl, rfl, ex_t g5 ht, atI_nat (j := 0) rfl, .int (j : Nat), rfl, (show 2 ≤ sizeLine by decide), fun i1 hi1 => ⟨(show 1 ≤ sizeLine by decide), fun i2 hi2 => ?_⟩⟩
                have g7 := (Ex.new (o := .tup [.str wd, .int (j : Nat)]) hi1).trans (Ex.new (o := .tup [.ref i1]) hi2)
                have dd : Dp K (upd (upd (upd H5 tq (.tup [.int (j : Nat), .ref pb])) i1 (.tup [.str wd, .int (j : Nat)])) i2 (.tup [.ref i1])) (.ref i1) (.tuple [wordOf s, .int (j : Nat)]) := by
                  rw [hw]
                  exact .tup (st_of (Ex.new hi2 _ _ upd_same)) (.cons (.str wd) (.cons (.int _) .nil))
                refine cat_go (K := K) (dpM (g5.trans g7) _ _ ha) (st_of upd_same) dd (by omega) fun av H7 e7 d7 => ?_
                have g8 := g7.trans e7
                have g9 : Ex H5 H7 := (Ex.new hT).trans g8
                refine ⟨pb, av, ds, as ++ [.tuple [wordOf s, .int (j : Nat)]], m', m2 + 1, rfl, dpM g9 _ _ (.tup hpb hpvs), d7, tds, ?_, ⟨by rw [List.length_append]; show as.length + 1 + n ≤ 10; omega, by omega⟩, hbd, fun qn prs3 H8 hqn e8 h8 hP => ?_⟩
                · rw [hw]
                  exact hta.up.app (.cons (.tup (show 2 ≤ 100 by decide) (.cons (.str wlen) (.cons (.int _) .nil))) .nil)
                have kD8 := e8 _ _ (g8 _ _ kD)
                have l3 := hP.len
                have l4 := k4.len
                have tot2 := flat_le (one n as s) (parts s).zipIdx (j + 1)
                rw [flat_more (one n as s) mz, List.length_append] at tot2
                rw [List.length_append, List.length_cons] at l4
                have l3' : prs3.length = (one n as s (.tuple ds, j)).length := l3
                refine ⟨D, qn, prs2.map V.ref, prs3.map V.ref, rfl, rfl, kD8, h8, ?_, prs2 ++ prs3, _, _, rfl, by rw [upd_same, List.map_append], (k2.trans (g9.trans e8)).mut hD, ⟨?_, ?_⟩, ?_⟩
                · rw [List.length_map, List.length_map, sizeLine_eq]
                  omega
                · exact (upd_ne nqD).trans (e8 _ _ (g9 _ _ k3))
                · exact dps_off kD8 tps (dpMs (g9.trans e8) _ _ k3')
                · rw [show ((parts s).zipIdx.take (j + 1)).flatMap (one n as s) = ((parts s).zipIdx.take j).flatMap (one n as s) ++ one n as s (.tuple ds, j) from flat_more _ mz, ← List.cons_append, ← List.append_assoc]
                  exact ((k4.mono (g9.trans e8)).app hP).off kD8
            · obtain ⟨prs2, v4', v5', rfl, k1, k2, k3, k4⟩ := hI
              refine ⟨prs2, _, _, _, rfl, k1, k2, ?_⟩
              rw [show (parts s).zipIdx.take ys.length = (parts s).zipIdx from List.take_of_length_le (by rw [List.length_zipIdx]; omega)] at k4
              rw [flat_more (oneS n as) hs]
              exact k4
      · obtain ⟨prs, v3, v4, v5, rfl, f1, f2, f3⟩ := hI
        rw [List.take_of_length_le (by omega)] at f3
        exact ⟨.ref D, rfl, kk D prs H' hD f2 f1 f3⟩

end
end K05
set_option Elab.async false
set_option linter.all false
set_option maxRecDepth 100000
set_option maxHeartbeats 8000000
namespace K05
open PySem PySem.Spec PyProof.Rows L2 He XH XV XR PEN TR Evl

theorem ttUpN {d : PyData} : ∀ {n : Nat} (k : Nat), Tt n d → Tt (n + k) d
  | _, 0, h => h
  | _, k + 1, h => (ttUpN k h).up
theorem ttUp {m : Nat} {d : PyData} (h : m ≤ 9) (t : Tt (m + 1) d) : Tt 10 d := by
  have z := ttUpN (9 - m) t
  rw [show m + 1 + (9 - m) = 10 by omega] at z
  exact z

/-! ### functions -/
def Fn (K : PySem.W.Frag) (H : Hp) (f : Addr) (nm : Str) (ss : List PyData) : Prop := ∃ dx b n, H f = some (.ins (ga K "Function") dx [("name", .str nm), ("body", .ref b), ("many", .int n)]) ∧ Dp K H (.ref b) (.tuple ss) ∧ n = ((nums 4 ss []).length : Nat)
theorem Fn.mono {K : PySem.W.Frag} {H H' : Hp} {f : Addr} {nm : Str} {ss : List PyData} (e : Ex H H') (h : Fn K H f nm ss) : Fn K H' f nm ss := by
  obtain ⟨dx, b, n, h1, h2⟩ := h
  exact ⟨dx, b, n, e _ _ h1, dpM e _ _ h2.1, h2.2⟩
/-- a body that holds: a tree of texts of such statements -/
def BodT (ss : List PyData) : Prop := (∃ m, m ≤ 9 ∧ Tt (m + 1) (.tuple ss)) ∧ Bod 4 ss
mutual
theorem dp_xa {K : PySem.W.Frag} {H H' : Hp} {a C dx : Addr} {fs : List (Str × V)} (k : Xa a H H') (ha : H a = some (.ins C dx fs)) : ∀ (d : PyData) (v : V), Dp K H v d → Dp K H' v d
  | .none, _, h => by
    cases h
    exact .non
  | .bool b, _, h => by
    cases h
    exact .bl b
  | .int i, _, h => by
    cases h
    exact .int i
  | .str x, _, h => by
    cases h
    exact .str x
  | .list ds, _, h => by
    cases h with
    | @lst b _ _ h1 h2 =>
      refine .lst ?_ (dps_xa k ha ds _ h2)
      rcases h1 with (h1 | ⟨o, h1⟩) | h1
      · exact .inl (.inl (k _ _ (fun e => by rw [e, ha] at h1; cases h1) h1))
      · exact .inl (.inr ⟨o, k _ _ (fun e => by rw [e, ha] at h1; cases h1) h1⟩)
      · exact .inr h1
  | .tuple ds, _, h => by
    cases h with
    | @tup b _ _ h1 h2 =>
      refine .tup ?_ (dps_xa k ha ds _ h2)
      rcases h1 with (h1 | ⟨o, h1⟩) | h1
      · exact .inl (.inl (k _ _ (fun e => by rw [e, ha] at h1; cases h1) h1))
      · exact .inl (.inr ⟨o, k _ _ (fun e => by rw [e, ha] at h1; cases h1) h1⟩)
      · exact .inr h1
  | .dict _, _, h => by cases h
theorem dps_xa {K : PySem.W.Frag} {H H' : Hp} {a C dx : Addr} {fs : List (Str × V)} (k : Xa a H H') (ha : H a = some (.ins C dx fs)) : ∀ (ds : List PyData) (vs : List V), DpAll K H vs ds → DpAll K H' vs ds
  | [], _, h => by
    cases h
    exact .nil
  | d :: ds, _, h => by
    cases h with
    | cons h1 h2 => exact .cons (dp_xa k ha d _ h1) (dps_xa k ha ds _ h2)
end
def spFI (K : PySem.W.Frag) : Sp := fun vs H Q _ => ∃ a nm b ss dx d0, vs = [.ref a, .str nm, .ref b] ∧ H a = some (.ins (ga K "Function") dx []) ∧ Dp K H (.ref b) d0 ∧ (TL 10 d0 ∧ frz d0 = .tuple ss) ∧ BodT ss ∧ ∀ H', Xa a H H' → Fn K H' a nm ss → Q .non H'


/-! ### names by kind, what fits -/
def nmsOf (cs rs fs : List Str) (k : Str) : List Str := if k = "cell" then cs else if k = "row" then rs else if k = "function" then fs else if k = "how" then ["copy", "view"] else if k = "end" then ["found", "none"] else []
def fitsP (cs rs fs : List Str) (k : Str) (x : PyData) : Prop := if k = "part" then isP x = true else ∃ z, x = .str z ∧ z ∈ nmsOf cs rs fs k
def five : List Str := ["cell", "row", "function", "how", "end"]
def Nm (K : PySem.W.Frag) (H : Hp) (nm : Addr) (cs rs fs : List Str) : Prop := ∃ kvs, H nm = some (.dK kvs) ∧ ∀ k ∈ five, ∃ a, valV kvs (Sum.inr k) = some (.ref a) ∧ SqT K H a ((nmsOf cs rs fs k).map V.str)
theorem Nm.mono {K : PySem.W.Frag} {H H' : Hp} {nm : Addr} {cs rs fs : List Str} (e : Ex H H') (h : Nm K H nm cs rs fs) : Nm K H' nm cs rs fs := by
  obtain ⟨kvs, h1, h2⟩ := h
  refine ⟨kvs, e _ _ h1, fun k hk => ?_⟩
  obtain ⟨a, h3, h4⟩ := h2 k hk
  exact ⟨a, h3, ex_t e h4⟩
theorem kinds6 : ∀ p ∈ ENT, ∀ k ∈ p.2, k = "part" ∨ k ∈ five := by decide +kernel
theorem part5 : ("part" : Str) ∉ five := by decide +kernel
/-- a statement that holds: a known word, and what its kinds ask for -/
def Wf (cs rs fs : List Str) (d : PyData) : Prop := ∃ w ks args, d = .tuple (.str w :: args) ∧ (w, ks) ∈ ENT ∧ args.length = ks.length ∧ ∀ (i : Nat) (k : Str) (x : PyData), ks[i]? = some k → args[i]? = some x → fitsP cs rs fs k x
theorem Wf.sh {cs rs fs : List Str} {d : PyData} (h : Wf cs rs fs d) : Sh d := by
  obtain ⟨w, ks, args, rfl, hk, hl, hf⟩ := h
  refine ⟨w, ks, args, rfl, hk, hl, fun i k x h1 h2 => ?_⟩
  have z := hf i k x h1 h2
  unfold fitsP at z
  by_cases e : k = "part"
  · rw [if_pos e] at z
    rw [z, decide_eq_true e]
  · rw [if_neg e] at z
    obtain ⟨y, rfl, _⟩ := z
    rw [decide_eq_false e]
    rfl
def spFits (K : PySem.W.Frag) : Sp := fun vs H Q _ => ∃ x k nm d cs rs fs, vs = [x, .str k, .ref nm] ∧ Dp K H x d ∧ Nm K H nm cs rs fs ∧ (k = "part" ∨ k ∈ five) ∧ fitsP cs rs fs k d ∧ ∀ H', Ex H H' → Q (.bl true) H'
def spWell (K : PySem.W.Frag) : Sp := fun vs H Q _ => ∃ v nm d cs rs fs, vs = [v, .ref nm] ∧ Dp K H v d ∧ Nm K H nm cs rs fs ∧ Wf cs rs fs d ∧ ∀ H', Ex H H' → Q (.bl true) H'

section
variable {P : Program} {w : World} {K : PySem.W.Frag} {mg : Str → Option Value} {base : Heap}

theorem ok_Function_init {fd : FuncData} {f : Addr} (F : FnP K "__init__" "Function.__init__" s_Function_init f fd) (T : Tx K w mg) (c_frozen : Cl P w K mg base CX0 11 (ga K "frozen") ["thing"] (spFrL K 10)) (c_numbered : Cl P w K mg base CX0 10 (ga K "numbered") ["body", "around"] (spNum K 4)) : FnOk P w K mg base CX0 (11 + 1) f fd ["self", "name", "body"] (spFI K) := by
  obtain ⟨fd_frozen, G_frozen, b_frozen, kp_frozen⟩ := c_frozen
  obtain ⟨fd_numbered, G_numbered, b_numbered, kp_numbered⟩ := c_numbered
  refine FunD.ok F sc_Function_init (fun vs H Q E h => ?_) (fun cdv A outer s H vs Q E hr h => ?_)
  · obtain ⟨a, nm, b, ss, dx, d0, rfl, _⟩ := h
    rfl
  · obtain ⟨a, nm, b, ss, dx, d0, rfl, ha, hb, ⟨tl0, fz0⟩, ⟨⟨m, hm9, htt⟩, hbod⟩, kk⟩ := h
    have g_frozen := T.gl "frozen" (by decide +kernel)
    have n_len := T.fr "len" (by decide +kernel)
    have g_numbered := T.gl "numbered" (by decide +kernel)
    refine ⟨_, PSs.nox (pss_cons (ps_fld (pv 0) (pv 1) rfl)
      (pss_cons (ps_fld (pv 0) (pe_call G_frozen (hr.mono (by decide)) (by rfl) g_frozen kp_frozen b_frozen .nil pass0 (pa_cons (pv 2) pa_nil)) rfl)
      (pss_one (ps_fld (pv 0) (pe_callB call_len_seq (by rfl) n_len (by decide +kernel) (pa_cons (pe_call G_numbered (hr.mono (by decide)) (by rfl) g_numbered kp_numbered b_numbered .nil pass0 (pa_cons (pe_fld (pv 0) rfl) (pa_cons (pe_tup pa_nil) pa_nil))) pa_nil)) rfl)))), ?_⟩
    refine ⟨.str nm, rfl, .ref a, rfl, a, _, dx, [], rfl, ha, T.cf, T.nf "name" (by decide +kernel), by decide, ?_⟩
    have e1 : upd H a (.ins (ga K "Function") dx (putF "name" (.str nm) [])) a = some (.ins (ga K "Function") dx [("name", .str nm)]) := upd_same
    generalize hH1 : upd H a (.ins (ga K "Function") dx (putF "name" (.str nm) [])) = H1 at e1
    have x1 : Xa a H H1 := by rw [← hH1]; exact Xa.upd
    have hb1 := dp_xa x1 ha _ _ hb
    refine ⟨.ref b, rfl, .ref b, d0, rfl, hb1, tl0, fun u H2 e2 h2 => ?_⟩
    rw [fz0] at h2
    cases h2 with
    | @tup u xs _ hu2 hxs2 =>
    refine ⟨.ref a, rfl, a, _, dx, _, rfl, e2 _ _ e1, T.cf, T.nf "body" (by decide +kernel), (show 1 < 1000 by decide), ?_⟩
    rw [putF_tail (by decide +kernel)]
    have e3 : upd H2 a (.ins (ga K "Function") dx (("name", .str nm) :: putF "body" (.ref u) [])) a = some (.ins (ga K "Function") dx [("name", .str nm), ("body", .ref u)]) := upd_same
    generalize hH3 : upd H2 a (.ins (ga K "Function") dx (("name", .str nm) :: putF "body" (.ref u) [])) = H3 at e3
    have x3 : Xa a H2 H3 := by rw [← hH3]; exact Xa.upd
    have h3 : Dp K H3 (.ref u) (.tuple ss) := dp_xa x3 (e2 _ _ e1) _ _ (.tup hu2 hxs2)
    refine ⟨.ref a, rfl, a, _, dx, _, .ref u, rfl, e3, T.cf, T.nf "body" (by decide +kernel), rfl, (by decide), fun ar har => ?_⟩
    have e4 := Ex.new (o := .tup []) har
    have tss : Tts m ss := by
      cases htt with
      | tup _ q => exact q
    refine ⟨u, ar, ss, [], m, 0, rfl, dpM e4 _ _ h3, .tup (st_of upd_same) .nil, tss, .nil, ⟨by decide, by decide⟩, hbod, fun q prs H4 hq e5 h5 hPr => ?_⟩
    refine ⟨q, _, rfl, .inl (sq_of h5), .ref a, rfl, a, _, dx, _, rfl, e5 _ _ (e4 _ _ e3), T.cf, T.nf "many" (by decide +kernel), (show 2 < 1000 by decide), ?_⟩
    rw [putF_tail (by decide +kernel), putF_tail (by decide +kernel)]
    have x4 : Xa a H3 H4 := Xa.of (e4.trans e5)
    exact kk _ (((x1.trans (Xa.of e2)).trans (x3.trans x4)).trans Xa.upd) ⟨dx, u, _, upd_same, dp_xa (C := ga K "Function") (dx := dx) Xa.upd (e5 _ _ (e4 _ _ e3)) _ _ (dpM (e4.trans e5) _ _ h3), by rw [List.length_map, hPr.len]⟩

theorem ok_fits {fd : FuncData} (F : FnP K "fits" "fits" s_fits (ga K "fits") fd) (T : Tx K w mg) : FnOk P w K mg base CX0 (0 + 1) (ga K "fits") fd ["entry", "kind", "names"] (spFits K) := by
  refine FunD.ok F sc_fits (fun vs H Q E h => ?_) (fun cdv A outer s H vs Q E hr h => ?_)
  · obtain ⟨x, k, nm, d, cs, rs, fs, rfl, _⟩ := h
    rfl
  · obtain ⟨x, k, nm, d, cs, rs, fs, rfl, hd, hN, hk, hf, kk⟩ := h
    have n_isinstance := T.fr "isinstance" (by decide +kernel)
    have n_tuple := T.fr "tuple" (by decide +kernel)
    refine ⟨_, PSs.nox (pss_cons (ps_if (pt_cmpR op_eq (pv 1) pe_str (nomark _))
      (pss_one (ps_ret (pe_callB call_isi (by rfl) n_isinstance (by decide +kernel) (pa_cons (pv 0) (pa_cons (pe_bltn (v := .ty "tuple") (by rfl) n_tuple (by decide +kernel) rfl) pa_nil)))))
      pss_nil)
      (pss_one (ps_ret (pe_cmpR op_in_seq (pv 0) (pe_dget (Nat.lt_of_le_of_lt (Nat.add_le_add_left (by decide) _) hr.units) (pv 2) (pv 1) (fun _ _ => rfl)) (by rfl))))), ?_⟩
    unfold fitsP at hf
    refine q_when (b := decide (V.str k = V.str "part")) (et_test (ev_op (ev_var rfl) ev_c (rv_eq rfl))) (fun hb H1 e1 => ?_) (fun hb H1 e1 => ?_)
    · have e0 := of_decide_eq_true hb
      injection e0 with e0
      rw [if_pos e0] at hf
      refine s_ret (ev_cb (ea_cons (ev_var rfl) (ea_cons ev_c ea_nil)) fun H2 e Q2 q2 => ?_) fun H2 e2 => kk H2 (e1.trans e2)
      cases d with
      | tuple es =>
        cases hd with
        | @tup b zs _ hzs _ => exact ⟨.ref b, .ty "tuple", .type "tuple", .type "tuple", true, rfl, .ty _, tyx_t (ex_t (e1.trans e) hzs), kit_ty (by decide +kernel), q2 H2 (Ex.refl _)⟩
      | none => cases hf
      | bool _ => cases hf
      | int _ => cases hf
      | str _ => cases hf
      | list _ => cases hf
      | dict _ => cases hf
    · have e0 := of_decide_eq_false hb
      have e3 : ¬ k = "part" := fun e => e0 (by rw [e])
      rw [if_neg e3] at hf
      obtain ⟨z, rfl, hz⟩ := hf
      cases hd
      obtain ⟨kvs, g1, g2⟩ := hN
      obtain ⟨a, g3, g4⟩ := g2 k (hk.resolve_left e3)
      refine ⟨.str z, rfl, .ref nm, rfl, .str k, rfl, nm, .ref a, rfl, .inl ⟨kvs, Sum.inr k, .inl (e1 _ _ g1), rfl, g3.symm⟩, a, _, rfl, .inr (ex_t e1 g4), rfl, flat_strs _, ?_⟩
      show Q (.bl (if false = true then _ else inV (.str z) ((nmsOf cs rs fs k).map V.str))) H1
      rw [if_neg Bool.false_ne_true, inV_strs, decide_eq_true hz]
      exact kk H1 e1

theorem ok_well_formed {fd : FuncData} (F : FnP K "well_formed" "well_formed" s_well_formed (ga K "well_formed") fd) (T : Tx K w mg) (c_kinds_of : Cl P w K mg base CX0 1 (ga K "kinds_of") ["statement"] (spKd K)) (c_fits : Cl P w K mg base CX0 1 (ga K "fits") ["entry", "kind", "names"] (spFits K)) : FnOk P w K mg base CX0 (1 + 1) (ga K "well_formed") fd ["statement", "names"] (spWell K) := by
  obtain ⟨fd_kinds_of, G_kinds_of, b_kinds_of, kp_kinds_of⟩ := c_kinds_of
  obtain ⟨fd_fits, G_fits, b_fits, kp_fits⟩ := c_fits
  refine FunD.ok F sc_well_formed (fun vs H Q E h => ?_) (fun cdv A outer s H vs Q E hr h => ?_)
  · obtain ⟨v, nm, d, cs, rs, fs, rfl, _⟩ := h
    rfl
  · obtain ⟨v, nm, d, cs, rs, fs, rfl, hd, hN, hW, kk⟩ := h
    have g_kinds_of := T.gl "kinds_of" (by decide +kernel)
    have n_len := T.fr "len" (by decide +kernel)
    have n_all := T.fr "all" (by decide +kernel)
    have n_zip := T.fr "zip" (by decide +kernel)
    have g_fits := T.gl "fits" (by decide +kernel)
    refine ⟨_, PSs.nox (pss_cons (ps_set (i := 2) sc_well_formed.nd rfl (Or.inl rfl) (pe_call G_kinds_of (hr.mono (by decide)) (by rfl) g_kinds_of kp_kinds_of b_kinds_of .nil pass0 (pa_cons (pv 0) pa_nil)))
      (pss_cons (ps_if (PW.pt (pw_or (pt_cmpR op_isN (pv 2) pe_non (nomark _)) (pw_or1 (pt_cmpR op_ne (pe_callB call_len_seq (by rfl) n_len (by decide +kernel) (pa_cons (pv 0) pa_nil)) (pe_op op_add pe_int (pe_callB call_len_seq (by rfl) n_len (by decide +kernel) (pa_cons (pv 2) pa_nil))) (nomark _)))))
      (pss_one (ps_ret pe_bl))
      pss_nil)
      (pss_one (ps_ret (pe_callB (cr_all rfl) (by rfl) n_all (by decide +kernel) (pa_cons (pe_lc (own := [("entry", 3), ("kind", 4)]) (g := _) (by rfl) sc_well_formed.nd (RZ.pi_zipA (by rfl) n_zip (pa_cons (pe_slice sl_tup (pv 0) (po_some pe_int) po_none) (pa_cons (pv 2) pa_nil))) (blkOk_by (own := [("entry", 3), ("kind", 4)]) (N := ["statement", "names", "kinds", "entry", "kind"]) (sc := defScope s_well_formed) (by decide +kernel)) (fun _ _ _ _ _ => (pg_tupc (K := K) (n := 2) rfl rfl (pgs_cons (pg_name (i := 3) sc_well_formed.nd rfl (Or.inl rfl)) (pgs_cons (pg_name (i := 4) sc_well_formed.nd rfl (Or.inl rfl)) pgs_nil)))) (fun _ _ _ _ _ => pts_nil) (fun _ _ _ _ _ => (pe_call G_fits (hr.mono (by decide)) (by rfl) g_fits kp_fits b_fits .nil pass0 (pa_cons (pv 3) (pa_cons (pv 4) (pa_cons (pv 1) pa_nil)))))) pa_nil)))))), ?_⟩
    obtain ⟨wd, ks, args, rfl, hk, hl, hf⟩ := hW
    cases hd with
    | @tup a xs _ hx hxs =>
      cases hxs with
      | @cons v0 rest _ _ h0 hr' =>
        cases h0
        have lr := dpAll_len hr'
        refine ⟨.ref a, rfl, a, wd, rest, ks, rfl, hx, hk, fun ak H1 hA e1 => ?_⟩
        dsimp only [gName, List.set]
        have hx1 := ex_t e1 hx
        have k3 := ent3 _ hk
        refine q_when (b := false) (et_or (a := false) (b := false) (et_test fun H2 e2 R q => ⟨.ref ak, rfl, rfl, q H2 (Ex.refl _)⟩) fun _ => et_test (ev_is (ev_op (ev_cb (ea_cons (ev_var rfl) ea_nil) fun H2 e2 R q => ⟨a, _, rfl, .inr (ex_t e2 hx1), q H2 (Ex.refl _)⟩)
          (ev_op ev_c (ev_cb (ea_cons (ev_var rfl) ea_nil) fun H2 e2 R q => ⟨ak, _, rfl, .inr (hA _), q H2 (Ex.refl _)⟩) rv_I0) (rv_ne rfl)) ?_)) (fun hb => nomatch hb) (fun _ H2 e2 => ?_)
        · rw [List.length_map, List.length_cons, lr, hl]
          have z : ((ks.length + 1 : Nat) : Int) = 1 + (ks.length : Int) := by omega
          rw [z]
          simp
        have e12 := e1.trans e2
        refine ⟨.ref a, rfl, 1, rfl, a, _, rfl, ex_t e12 hx, ?_, fun p hp => ⟨.ref ak, rfl, p, ak, _, _, rfl, .inr ⟨st_of upd_same, hA _, fun D hD => ?_⟩⟩⟩
        · intro h
          have h1 := h.1
          rw [show ((1 : Int)) = ((1 : Nat) : Int) from rfl, HT.sIx_nat] at h1
          simp only [List.length_cons] at h1
          omega
        have hcut : cutV (V.str wd :: rest) (some 1) none = rest := by
          rw [show ((1 : Int)) = ((1 : Nat) : Int) from rfl, cut_drop]
          rfl
        rw [hcut] at hD ⊢
        have e3 := e12.trans (Ex.new (o := .tup rest) hp)
        refine lc_it (walk_zipT (xs := rest) (ys := ks.map V.str) rfl) (fun i H' => Ex (upd H2 p (.tup rest)) H' ∧ H' D = some (.lst ((List.replicate i true).map V.bl))) ⟨Ex.new hD, upd_same⟩ (fun i H' _ hI => ?_) (fun i x H3 H4 hi hI hy => ?_) (fun H3 hI => ?_)
        · obtain ⟨f2, f3⟩ := hI
          exact ⟨st_of (f2 _ _ upd_same), hA _⟩
        · obtain ⟨f2, f3⟩ := hI
          obtain ⟨tq, x1, y1, rfl, hT, rfl, p1, p2⟩ := hy
          replace p1 : rest[i]? = some x1 := p1
          replace p2 : (ks.map V.str)[i]? = some y1 := p2
          obtain ⟨di, hdi, hxi⟩ := dpAll_at hr' p1
          rw [List.getElem?_map] at p2
          cases hki : ks[i]? with
          | none =>
            rw [hki] at p2
            cases p2
          | some k =>
            rw [hki] at p2
            cases p2
            have f5 : Ex (upd H2 p (.tup rest)) (upd H3 tq (.tup [x1, .str k])) := f2.trans (Ex.new hT)
            have f6 := e3.trans f5
            have hi3 := (List.getElem?_eq_some_iff.mp hki).1
            refine ⟨tq, [x1, .str k], rfl, st_of upd_same, rfl, x1, [.str k], rfl, .str k, [], rfl, rfl, rfl, yes_go ?_⟩
            refine ⟨x1, rfl, .str k, rfl, .ref nm, rfl, x1, k, nm, di, cs, rs, fs, rfl, dpM f6 _ _ hxi, hN.mono f6, kinds6 _ hk k (List.mem_of_getElem? hki), hf i k di hki hdi, fun H5 e5 => ⟨_, e5 _ _ (Ex.new hT _ _ f3), small1000 ?_, (f5.trans e5).mut hD, ?_⟩⟩
            · simp only [List.length_map, List.length_replicate]
              simp only at k3
              omega
            · rw [upd_same, List.replicate_succ', List.map_append]
              rfl
        · obtain ⟨f2, f3⟩ := hI
          refine ⟨D, _, rfl, sq_of f3, ?_⟩
          rw [show ∀ n : Nat, (List.replicate n true).all id = true from fun n => by simp [List.all_replicate]]
          exact kk H3 (e3.trans f2)

end
end K05
set_option Elab.async false
set_option linter.all false
set_option maxRecDepth 100000
set_option maxHeartbeats 8000000
namespace K05
open PySem PySem.Spec PyProof.Rows L2 He XH XV XR PEN TR Evl


/-! ### x in t, data at any depth -/
def rInDT (K : PySem.W.Frag) : R2 := fun x y H Q => ∃ d ds, Dp K H x d ∧ Dp K H y (.tuple ds) ∧ SeqAt.shaped d = true ∧ SeqAt.shaped (.tuple ds) = true ∧ Q (.bl (ds.any fun z => PyData.eqv z d)) H
theorem op_inDT {X : Cx} (hu : X.A.units + 65 < cLine) : OpR X (compareOp .In) (rInDT X.K) := by
  intro pins s σ H x y v u Q I rx ry h
  obtain ⟨d, ds, hd, he, sd, se, q⟩ := h
  obtain ⟨as, r1⟩ := Dp.reads I d x v hd rx
  obtain ⟨bs, r2⟩ := Dp.reads I (.tuple ds) y u he ry
  exact SeqAt.in_tuple_reads r2 r1 (by have z := SeqAt.canLay_of_shaped se; simpa [PyData.canLay0] using z) (SeqAt.canLay_of_shaped sd) (room_in_shaped sd hu) ⟨.bl _, H, I, rfl, q⟩
/-! ### what stands around a statement -/
def words : List Str := ENT.map (·.1)
def CHG : List Str := ["put", "blank", "give", "push", "pop", "cut"]
def RND : List Str := ["again", "out"]
def blk (p : Str × Nat) : PyData := .tuple [.str p.1, .int (p.2 : Nat)]
theorem words_ok : ∀ z ∈ words, PyData.strOk z = true ∧ z.length ≤ 1000 := by
  have k : ∀ z ∈ words, PyData.strOk z = true ∧ decide (z.length ≤ 1000) = true := by decide +kernel
  exact fun z hz => ⟨(k z hz).1, of_decide_eq_true (k z hz).2⟩
theorem lay_blks : ∀ {ps : List (Str × Nat)}, (∀ p ∈ ps, p.1 ∈ words) → PyData.canLayAll0 (ps.map blk) = true ∧ PyData.depthAll (ps.map blk) ≤ 2
  | [], _ => ⟨by simp [PyData.canLayAll0], by simp [PyData.depthAll]⟩
  | p :: r, h => by
    obtain ⟨k1, k2⟩ := lay_blks (ps := r) fun q hq => h q (List.mem_cons_of_mem _ hq)
    have k3 := (words_ok _ (h p List.mem_cons_self)).1
    refine ⟨by simp [PyData.canLayAll0, PyData.canLay0, blk, k1, k3], ?_⟩
    simp only [List.map_cons, PyData.depthAll, PyData.depth, blk]
    omega
theorem shp_blks {ps : List (Str × Nat)} (h : ∀ p ∈ ps, p.1 ∈ words) : SeqAt.shaped (.tuple (ps.map blk)) = true := by
  obtain ⟨k1, k2⟩ := lay_blks h
  unfold SeqAt.shaped
  rw [Bool.and_eq_true]
  refine ⟨by simp [PyData.canLay0, k1], decide_eq_true ?_⟩
  simp only [PyData.depth]
  omega
def lst1 : PyData := .tuple [.str "lastly", .int 1]
theorem eqv_blk (p : Str × Nat) : PyData.eqv (blk p) lst1 = true → p = (("lastly" : Str), (1 : Nat)) := by
  intro h
  have z : (p.1 == ("lastly" : Str)) = true ∧ (((p.2 : Nat) : Int) == 1) = true := by simpa [blk, lst1, PyData.eqv, PyData.eqvAll] using h
  have z1 := beq_iff_eq.mp z.1
  have z2 := beq_iff_eq.mp z.2
  exact Prod.ext z1 (by omega)
/-- the word may stand there -/
def Placed (w : Str) (ps : List (Str × Nat)) : Prop := (w ∈ RND → ("tries" : Str) ∈ ps.map (·.1)) ∧ ((("lastly" : Str), (1 : Nat)) ∈ ps → w ∈ CHG)
def spMis (K : PySem.W.Frag) : Sp := fun vs H Q _ => ∃ w ar ps, vs = [.str w, .ref ar] ∧ Dp K H (.ref ar) (.tuple (ps.map blk)) ∧ (∀ p ∈ ps, p.1 ∈ words) ∧ ps.length ≤ 10 ∧ Placed w ps ∧ ∀ H', Ex H H' → Q (.bl false) H'
theorem el_words {K : PySem.W.Frag} {te : TE} {σ : L2.St} {H : Hp} {ar : Addr} {ps : List (Str × Nat)} {j : Nat} {vs : List Nat} (ht : Ev te σ H (.ref ar)) (hd : Dp K H (.ref ar) (.tuple (ps.map blk))) (hl : ps.length ≤ 10)
    (hw : ∀ x, wipe ((wipe σ vs).set j (some x)) vs = wipe σ vs) (hj : ∀ x, ((wipe σ vs).set j (some x))[j]? = some (some x)) : EvL (tLc (iTup K te) (gName j) tYes (tOp (rIxT K) (tVar j) (tC (.int 0))) vs) σ H ((ps.map (·.1)).map V.str) := fun H0 e Q q => ht H0 e _ fun H1 e1 => by
  cases dpM (e.trans e1) _ _ hd with
  | @tup _ xs _ hx hxs =>
    have lx := dpAll_len hxs
    refine ⟨ar, rfl, ⟨_, hx⟩, fun D hD => ?_⟩
    refine lc_tup (xs := xs) (fun i H' => Ex H1 H' ∧ H' D = some (.lst (((ps.take i).map (·.1)).map V.str))) ⟨Ex.new hD, upd_same⟩ (fun i H' _ hI => ex_t hI.1 hx) (fun i x H2 hxi hI => ?_) (fun H2 hI => ?_)
    · obtain ⟨e2, h2⟩ := hI
      obtain ⟨di, hdi, hxd⟩ := dpAll_at hxs hxi
      rw [List.getElem?_map] at hdi
      cases p1 : ps[i]? with
      | none =>
        rw [p1] at hdi
        cases hdi
      | some p =>
        rw [p1] at hdi
        cases hdi
        cases hxd with
        | @tup b zs _ hz hzs =>
          cases hzs with
          | cons h1 hr =>
            cases h1
            refine ⟨hw _, yes_go ⟨.ref b, hj _, b, _, 0, .str p.1, rfl, rfl, ex_t e2 hz, atI_nat (j := 0) rfl, _, h2, ?_, e2.mut hD, ?_⟩⟩
            · rw [List.length_map, List.length_map, List.length_take]
              exact small1000 (by omega)
            · rw [upd_same, take_more p1, List.map_append, List.map_append]
              rfl
    · obtain ⟨e2, h2⟩ := hI
      rw [lx, List.length_map, List.take_of_length_le (Nat.le_refl _)] at h2
      exact q D H2 (fresh_back e1 hD) (e1.trans e2) h2

section
variable {P : Program} {w : World} {K : PySem.W.Frag} {mg : Str → Option Value} {base : Heap}

theorem ok_misplaced {fd : FuncData} (F : FnP K "misplaced" "misplaced" s_misplaced (ga K "misplaced") fd) (T : Tx K w mg) : FnOk P w K mg base CX0 (0 + 1) (ga K "misplaced") fd ["word", "around"] (spMis K) := by
  refine FunD.ok F sc_misplaced (fun vs H Q E h => ?_) (fun cdv A outer s H vs Q E hr h => ?_)
  · obtain ⟨wd, ar, ps, rfl, _⟩ := h
    rfl
  · obtain ⟨wd, ar, ps, rfl, hd, hw, hl, ⟨pl1, pl2⟩, kk⟩ := h
    have g_ROUND_WORDS := T.gl "ROUND_WORDS" (by decide +kernel)
    have g_CHANGE_WORDS := T.gl "CHANGE_WORDS" (by decide +kernel)
    refine ⟨_, PSs.nox (pss_cons (ps_if (PW.pt (pw_and (pt_cmpR op_in_seq (pv 0) (pe_glob (v := .ref _) (by rfl) g_ROUND_WORDS rfl) (by rfl)) (pw_and1 (pt_cmpR op_notIn_seq pe_str (pe_lc (own := [("block", 2)]) (g := gName 2) (by rfl) sc_misplaced.nd (pi_tup (pv 1)) (blkOk_by (own := [("block", 2)]) (N := ["word", "around", "block"]) (sc := defScope s_misplaced) (by decide +kernel)) (fun _ _ _ _ _ => (pg_name (i := 2) sc_misplaced.nd rfl (Or.inl rfl))) (fun _ _ _ _ _ => pts_nil) (fun _ _ _ _ _ => (pe_ix (ix_tup : IxR _ (rIxT K)) (pv 2) pe_int (fun _ _ => rfl)))) (by rfl)))))
      (pss_one (ps_ret pe_bl))
      pss_nil)
      (pss_one (ps_ret (pe_and (pe_cmpR (op_inDT (units65 hr)) (pe_tup (pa_cons pe_str (pa_cons pe_int pa_nil))) (pv 1) (by rfl)) (pe_one (pe_cmpR op_notIn_seq (pv 0) (pe_glob (v := .ref _) (by rfl) g_CHANGE_WORDS rfl) (by rfl))))))), ?_⟩
    refine q_when (b := decide (wd ∈ RND) && !decide (("tries" : Str) ∈ ps.map (·.1))) (et_and (et_test (by rw [← inV_strs]; exact ev_op (ev_var rfl) ev_c fun H1 e R q => ⟨_, RND.map V.str, rfl, .inr (T.ro _), rfl, flat_strs _, q H1 (Ex.refl _)⟩)) fun hr => et_test (ev_opL ev_c (el_words (ev_var rfl) hd hl (fun _ => rfl) (fun _ => rfl)) fun q H1 hq e => by
      rw [← inV_strs]
      exact rv_niL (K := K) (sq_of hq) rfl (flat_strs _))) (fun hb H1 e1 => ?_) (fun hb H1 e1 => ?_)
    · rw [Bool.and_eq_true] at hb
      have z := pl1 (of_decide_eq_true hb.1)
      rw [decide_eq_true z] at hb
      cases hb.2
    · refine ⟨(by show 2 ≤ sizeLine; decide), fun p hp => ⟨.ref ar, rfl, lst1, ps.map blk, .tup (st_of upd_same) (.cons (.str _) (.cons (.int _) .nil)), dpM (e1.trans (Ex.new hp)) _ _ hd, by decide +kernel, shp_blks hw, _, rfl, ?_⟩⟩
      refine ite2 (fun ha => ?_) (fun _ => kk _ (e1.trans (Ex.new hp)))
      obtain ⟨z, hz, hz2⟩ := List.any_eq_true.mp ha
      obtain ⟨pp, hpp, rfl⟩ := List.mem_map.mp hz
      have e0 := eqv_blk pp hz2
      rw [e0] at hpp
      have hc := pl2 hpp
      refine ⟨.str wd, rfl, _, _, rfl, .inr (T.ch _), rfl, (flat_strs CHG), ?_⟩
      show Q (.bl (if true = true then !inV (.str wd) (CHG.map V.str) else _)) _
      rw [if_pos rfl, inV_strs, decide_eq_true hc]
      exact kk _ (e1.trans (Ex.new hp))

end
end K05
set_option Elab.async false
set_option linter.all false
set_option maxRecDepth 100000
set_option maxHeartbeats 8000000
namespace K05
open PySem PySem.Spec PyProof.Rows L2 He XH XV XR PEN TR Evl


/-- a body of a code: short enough, each statement holds where it stands -/
def BodV (cs rs os : List Str) (ss : List PyData) : Prop := BodT ss ∧ (nums 4 ss []).length ≤ 14 ∧ ∀ q ∈ nums 4 ss [], Wf cs rs os q.1 ∧ ∃ wd ps, wordOf q.1 = .str wd ∧ q.2 = ps.map blk ∧ (∀ p ∈ ps, p.1 ∈ words) ∧ ps.length ≤ 10 ∧ Placed wd ps ∧ (parts q.1 ≠ [] → ps.length ≤ 2)
def Fns (K : PySem.W.Frag) (H : Hp) (fos : List Addr) (os : List Str) (bds : List (List PyData)) : Prop := fos.length = os.length ∧ bds.length = os.length ∧ ∀ (i : Nat) (f : Addr) (z : Str) (ss : List PyData), fos[i]? = some f → os[i]? = some z → bds[i]? = some ss → Fn K H f z ss
theorem Fns.mono {K : PySem.W.Frag} {H H' : Hp} {fos : List Addr} {os : List Str} {bds : List (List PyData)} (e : Ex H H') (h : Fns K H fos os bds) : Fns K H' fos os bds := ⟨h.1, h.2.1, fun i f z ss h1 h2 h3 => (h.2.2 i f z ss h1 h2 h3).mono e⟩
theorem Fns.at {K : PySem.W.Frag} {H : Hp} {fos : List Addr} {os : List Str} {bds : List (List PyData)} (h : Fns K H fos os bds) {i : Nat} {f : Addr} (p : fos[i]? = some f) : ∃ z ss, os[i]? = some z ∧ bds[i]? = some ss ∧ Fn K H f z ss := by
  have hi := (List.getElem?_eq_some_iff.mp p).1
  have h1 : os[i]? = some (os[i]'(by rw [← h.1]; exact hi)) := List.getElem?_eq_getElem _
  have h2 : bds[i]? = some (bds[i]'(by rw [h.2.1, ← h.1]; exact hi)) := List.getElem?_eq_getElem _
  exact ⟨_, _, h1, h2, h.2.2 i f _ _ p h1 h2⟩
structure Cd (K : PySem.W.Frag) (H : Hp) (a c r f : Addr) (cs rs os : List Str) (st : Str) (fos : List Addr) (bds : List (List PyData)) : Prop where
  ca : H c = some (.tup (cs.map V.str))
  ra : H r = some (.tup (rs.map V.str))
  fa : H f = some (.tup (fos.map V.ref))
  fs : Fns K H fos os bds
  at_ : ∃ dx, H a = some (.ins (ga K "Code") dx [("cells", .ref c), ("rows", .ref r), ("functions", .ref f), ("start", .str st)])
theorem Cd.mono {K : PySem.W.Frag} {H H' : Hp} {a c r f : Addr} {cs rs os : List Str} {st : Str} {fos : List Addr} {bds : List (List PyData)} (e : Ex H H') (h : Cd K H a c r f cs rs os st fos bds) : Cd K H' a c r f cs rs os st fos bds := by
  obtain ⟨h1, h2, h3, h4, ⟨dx, h5⟩⟩ := h
  exact ⟨e _ _ h1, e _ _ h2, e _ _ h3, h4.mono e, ⟨dx, e _ _ h5⟩⟩
/-- names of a code that may be -/
structure Names (cs rs os : List Str) (st : Str) : Prop where
  sz : cs.length ≤ 3 ∧ rs.length ≤ 2 ∧ os.length ≤ 3
  ok : NamesOk (cs ++ rs ++ os)
  st : st ∈ os
theorem Names.sz40 {cs rs os : List Str} {st : Str} (h : Names cs rs os st) : cs.length ≤ 40 ∧ rs.length ≤ 40 ∧ os.length ≤ 40 := by
  have z := h.sz
  omega
theorem el_called {K : PySem.W.Frag} {w : World} {mg : Str → Option Value} {te : TE} {σ : L2.St} {H : Hp} {f : Addr} {fos : List Addr} {os : List Str} {bds : List (List PyData)} {j : Nat} {vs : List Nat} (T : Tx K w mg) (ht : Ev te σ H (.ref f)) (hf : H f = some (.tup (fos.map V.ref))) (hF : Fns K H fos os bds) (hl : os.length ≤ 40)
    (hw : ∀ x, wipe ((wipe σ vs).set j (some x)) vs = wipe σ vs) (hj : ∀ x, ((wipe σ vs).set j (some x))[j]? = some (some x)) : EvL (tLc (iTup K te) (gName j) tYes (tFld K (tVar j) "name") vs) σ H (os.map V.str) := fun H0 e Q q => ht H0 e _ fun H1 e1 => by
  have hf1 := e1 _ _ (e _ _ hf)
  refine ⟨f, rfl, ⟨_, st_of hf1⟩, fun D hD => ?_⟩
  refine lc_tup (xs := fos.map V.ref) (fun i H' => Ex H1 H' ∧ H' D = some (.lst ((os.take i).map V.str))) ⟨Ex.new hD, upd_same⟩ (fun i H' _ hI => st_of (hI.1 _ _ hf1)) (fun i x H2 hx hI => ?_) (fun H2 hI => ?_)
  · obtain ⟨e2, h2⟩ := hI
    rw [List.getElem?_map] at hx
    cases p : fos[i]? with
    | none =>
      rw [p] at hx
      cases hx
    | some t =>
      rw [p] at hx
      cases hx
      have hi := (List.getElem?_eq_some_iff.mp p).1
      obtain ⟨z, ss, ho, _, dx, b, n, g1, g2⟩ := hF.at p
      refine ⟨hw _, yes_go ⟨.ref t, hj _, t, _, dx, _, .str z, rfl, e2 _ _ (e1 _ _ (e _ _ g1)), T.cf, T.nf "name" (by decide +kernel), rfl, _, h2, ?_, e2.mut hD, ?_⟩⟩
      · rw [List.length_map, List.length_take]
        exact small1000 (by omega)
      · rw [upd_same, take_more ho, List.map_append]
        rfl
  · obtain ⟨e2, h2⟩ := hI
    rw [List.length_map, hF.1, List.take_of_length_le (Nat.le_refl _)] at h2
    exact q D H2 (fresh_back e1 hD) (e1.trans e2) h2
def spByKind (K : PySem.W.Frag) : Sp := fun vs H Q _ => ∃ a c r f cs rs os st fos bds, vs = [.ref a] ∧ Cd K H a c r f cs rs os st fos bds ∧ Names cs rs os st ∧ ∀ p H', Ex H H' → Nm K H' p cs rs os → Q (.ref p) H'
def spOk (K : PySem.W.Frag) : Sp := fun vs H Q _ => ∃ a c r f cs rs os st fos bds, vs = [.ref a] ∧ Cd K H a c r f cs rs os st fos bds ∧ Names cs rs os st ∧ ∀ H', Ex H H' → Q .non H'

section
variable {P : Program} {w : World} {K : PySem.W.Frag} {mg : Str → Option Value} {base : Heap}

theorem ok_names_by_kind {fd : FuncData} (F : FnP K "names_by_kind" "names_by_kind" s_names_by_kind (ga K "names_by_kind") fd) (T : Tx K w mg) : FnOk P w K mg base CX0 (0 + 1) (ga K "names_by_kind") fd ["code"] (spByKind K) := by
  refine FunD.ok F sc_names_by_kind (fun vs H Q E h => ?_) (fun cdv A outer s H vs Q E hr h => ?_)
  · obtain ⟨a, c, r, f, cs, rs, os, st, fos, bds, rfl, _⟩ := h
    rfl
  · obtain ⟨a, c, r, f, cs, rs, os, st, fos, bds, rfl, hC, hNm, kk⟩ := h
    have n_tuple := T.fr "tuple" (by decide +kernel)
    have g_FIXED_WORDS := T.gl "FIXED_WORDS" (by decide +kernel)
    refine ⟨_, PSs.nox (pss_cons (ps_set (i := 1) sc_names_by_kind.nd rfl (Or.inl rfl) (pe_callTy call_tuple_of (by rfl) n_tuple (by decide +kernel) (pa_cons (pe_lc (own := [("function", 2)]) (g := gName 2) (by rfl) sc_names_by_kind.nd (pi_tup (pe_fld (pv 0) rfl)) (blkOk_by (own := [("function", 2)]) (N := ["code", "called", "function"]) (sc := defScope s_names_by_kind) (by decide +kernel)) (fun _ _ _ _ _ => (pg_name (i := 2) sc_names_by_kind.nd rfl (Or.inl rfl))) (fun _ _ _ _ _ => pts_nil) (fun _ _ _ _ _ => (pe_fldc (K := K) rfl (pv 2) rfl))) pa_nil)))
      (pss_one (ps_ret (pe_disp (pps_cons pe_str (pe_fld (pv 0) rfl) (pps_cons pe_str (pe_fld (pv 0) rfl) (pps_cons pe_str (pv 1) (pps_cons pe_str (pe_ix ix_kdict (pe_glob (v := .ref _) (by rfl) g_FIXED_WORDS rfl) pe_str (fun _ _ => rfl)) (pps_cons pe_str (pe_ix ix_kdict (pe_glob (v := .ref _) (by rfl) g_FIXED_WORDS rfl) pe_str (fun _ _ => rfl)) pps_nil))))) rfl rfl (by simp) (by decide))))), ?_⟩
    obtain ⟨dx, hA⟩ := hC.at_
    obtain ⟨es, n, a1, a2, D1, ⟨D2, D2'⟩, D3, D3'⟩ := T.fx
    refine q_cb (el_called (te := tFld K (tVar 0) "functions") (σ := L2.start ["code", "called", "function"] [V.ref a]) (j := 2) (vs := [2]) T (ev_fld (ev_var rfl) hA T.cc (T.nc "functions" (by decide +kernel)) rfl) hC.fa hC.fs hNm.sz40.2.2 (fun _ => by rfl) (fun _ => by rfl) H (Ex.refl H) _ fun q H1 hq e1 h1 => ?_)
    refine ⟨q, _, rfl, .inl ⟨sq_of h1, fun u hu => ?_⟩⟩
    dsimp only [gName, List.set]
    intro p hp
    have e2 := e1.trans ((Ex.new (o := .tup (os.map V.str)) hu).trans (Ex.new (o := .dK []) hp))
    have hA2 := e2 _ _ hA
    refine ⟨.ref a, rfl, a, _, dx, _, .ref c, rfl, hA2, T.cc, T.nc "cells" (by decide +kernel), rfl, ?_⟩
    refine ⟨.ref a, rfl, a, _, dx, _, .ref r, rfl, hA2, T.cc, T.nc "rows" (by decide +kernel), rfl, ?_⟩
    refine ⟨.ref u, rfl, ?_⟩
    refine ⟨_, "how", .ref a1, rfl, rfl, ⟨es, n, _, D1.at_, D1.lit, D2, rfl⟩, ?_⟩
    refine ⟨_, "end", .ref a2, rfl, rfl, ⟨es, n, _, D1.at_, D1.lit, D3, rfl⟩, ?_⟩
    have e3 : Ex H (upd (upd (upd H1 u (.tup (os.map V.str))) p (.dK [])) p (.dK (mergeK [] [(Sum.inr "cell", .ref c), (Sum.inr "row", .ref r), (Sum.inr "function", .ref u), (Sum.inr "how", .ref a1), (Sum.inr "end", .ref a2)]))) := e2.mut (fresh_back (e1.trans (Ex.new hu)) hp)
    refine ⟨upd_same, [(Sum.inr "cell", .ref c), (Sum.inr "row", .ref r), (Sum.inr "function", .ref u), (Sum.inr "how", .ref a1), (Sum.inr "end", .ref a2)], rfl, (show 5 ≤ 15 by decide), kk p _ e3 ⟨_, upd_same, fun k hk => ?_⟩⟩
    have hu5 : SqT K (upd (upd (upd H1 u (.tup (os.map V.str))) p (.dK [])) p (.dK (mergeK [] [(Sum.inr "cell", .ref c), (Sum.inr "row", .ref r), (Sum.inr "function", .ref u), (Sum.inr "how", .ref a1), (Sum.inr "end", .ref a2)]))) u (os.map V.str) := by
      have nu : u ≠ p := fun e => by rw [e, upd_same] at hp; cases hp
      exact st_of ((upd_ne nu).trans ((upd_ne nu).trans upd_same))
    unfold five at hk
    simp only [List.mem_cons, List.not_mem_nil, or_false] at hk
    rcases hk with rfl | rfl | rfl | rfl | rfl
    · exact ⟨c, by rfl, st_of (e3 _ _ hC.ca)⟩
    · exact ⟨r, by rfl, st_of (e3 _ _ hC.ra)⟩
    · exact ⟨u, by rfl, hu5⟩
    · exact ⟨a1, by rfl, D2' _⟩
    · exact ⟨a2, by rfl, D3' _⟩

theorem ok_check_bounds {fd : FuncData} (F : FnP K "check_bounds" "check_bounds" s_check_bounds (ga K "check_bounds") fd) (T : Tx K w mg) : FnOk P w K mg base CX0 (0 + 1) (ga K "check_bounds") fd ["code"] (spOk K) := by
  refine FunD.ok F sc_check_bounds (fun vs H Q E h => ?_) (fun cdv A outer s H vs Q E hr h => ?_)
  · obtain ⟨a, c, r, f, cs, rs, os, st, fos, bds, rfl, _⟩ := h
    rfl
  · obtain ⟨a, c, r, f, cs, rs, os, st, fos, bds, rfl, hC, hNm, kk⟩ := h
    have n_len := T.fr "len" (by decide +kernel)
    obtain ⟨tk_MOST_CELLS, g_MOST_CELLS⟩ := T.c_MOST_CELLS
    obtain ⟨tk_MOST_ROWS, g_MOST_ROWS⟩ := T.c_MOST_ROWS
    obtain ⟨tk_MOST_FUNCTIONS, g_MOST_FUNCTIONS⟩ := T.c_MOST_FUNCTIONS
    refine ⟨_, PSs.nox (pss_one (ps_if (PW.pt (pw_or (pt_cmpR op_gt (pe_callB call_len_seq (by rfl) n_len (by decide +kernel) (pa_cons (pe_fld (pv 0) rfl) pa_nil)) (pe_glob (v := .int _) (by rfl) g_MOST_CELLS ⟨_, rfl⟩) (nomark _)) (pw_or (pt_cmpR op_gt (pe_callB call_len_seq (by rfl) n_len (by decide +kernel) (pa_cons (pe_fld (pv 0) rfl) pa_nil)) (pe_glob (v := .int _) (by rfl) g_MOST_ROWS ⟨_, rfl⟩) (nomark _)) (pw_or1 (pt_cmpR op_gt (pe_callB call_len_seq (by rfl) n_len (by decide +kernel) (pa_cons (pe_fld (pv 0) rfl) pa_nil)) (pe_glob (v := .int _) (by rfl) g_MOST_FUNCTIONS ⟨_, rfl⟩) (nomark _))))))
      (pss_one ps_never)
      pss_nil)), ?_⟩
    obtain ⟨dx, hA⟩ := hC.at_
    have z := hNm.sz
    refine s_when (b := false) (et_is (et_or (et_test (ev_op (ev_cb (ea_cons (ev_fld (ev_var rfl) hA T.cc (T.nc "cells" (by decide +kernel)) rfl) ea_nil) fun H2 e2 R q => ⟨c, _, rfl, .inr (st_of (e2 _ _ hC.ca)), q H2 (Ex.refl _)⟩) ev_c (by rw [List.length_map]; exact rv_I0))) fun _ =>
      et_or (et_test (ev_op (ev_cb (ea_cons (ev_fld (ev_var rfl) hA T.cc (T.nc "rows" (by decide +kernel)) rfl) ea_nil) fun H2 e2 R q => ⟨r, _, rfl, .inr (st_of (e2 _ _ hC.ra)), q H2 (Ex.refl _)⟩) ev_c (by rw [List.length_map]; exact rv_I0))) fun _ =>
      et_test (ev_op (ev_cb (ea_cons (ev_fld (ev_var rfl) hA T.cc (T.nc "functions" (by decide +kernel)) rfl) ea_nil) fun H2 e2 R q => ⟨f, _, rfl, .inr (st_of (e2 _ _ hC.fa)), q H2 (Ex.refl _)⟩) ev_c (by rw [List.length_map, hC.fs.1]; exact rv_I0))) ?_) (fun hb => nomatch hb) (fun hb H1 e1 => kk H1 e1)
    rw [decide_eq_false (show ¬ (3 : Int) < (cs.length : Int) by omega), decide_eq_false (show ¬ (2 : Int) < (rs.length : Int) by omega), decide_eq_false (show ¬ (3 : Int) < (os.length : Int) by omega)]
    rfl

end
end K05
set_option Elab.async false
set_option linter.all false
set_option maxRecDepth 100000
set_option maxHeartbeats 8000000
namespace K05
open PySem PySem.Spec PyProof.Rows L2 He XH XV XR PEN TR Evl


theorem alpha_all : ∀ j : Fin 26, (97 + j.1) ∈ alphabet.cps.toList := by decide +kernel
theorem let_good {z : Str} (h : Let z ∧ 1 ≤ z.length ∧ z.length ≤ 12) : goodN z = true := by
  unfold goodN
  rw [decide_eq_true h.2.1, decide_eq_true h.2.2, Bool.true_and, Bool.true_and, List.all_eq_true]
  intro c hc
  obtain ⟨k1, k2⟩ := h.1 c hc
  have z1 := alpha_all ⟨c - 97, by omega⟩
  rw [show 97 + (c - 97) = c by omega] at z1
  exact decide_eq_true z1
theorem nodup_take {l : List Str} (h : l.Nodup) {i : Nat} {z : Str} (hz : l[i]? = some z) : z ∉ l.take i := by
  intro hm
  obtain ⟨j, hj⟩ := List.mem_iff_getElem?.mp hm
  have hji : j < i := by
    have k := (List.getElem?_eq_some_iff.mp hj).1
    rw [List.length_take] at k
    omega
  rw [List.getElem?_take, if_pos hji] at hj
  obtain ⟨a1, a2⟩ := List.getElem?_eq_some_iff.mp hz
  obtain ⟨b1, b2⟩ := List.getElem?_eq_some_iff.mp hj
  exact (List.pairwise_iff_getElem.mp h) j i b1 a1 hji (b2.trans a2.symm)
def spBody (K : PySem.W.Frag) : Sp := fun vs H Q _ => ∃ f nm z ss cs rs os, vs = [.ref f, .ref nm] ∧ Fn K H f z ss ∧ Nm K H nm cs rs os ∧ BodV cs rs os ss ∧ ∀ H', Ex H H' → Q .non H'
theorem prs_at {K : PySem.W.Frag} {H : Hp} : ∀ {prs : List Addr} {l : List (PyData × List PyData)}, Prs K H prs l → ∀ {i : Nat} {pr : Addr}, prs[i]? = some pr → ∃ s as sv av m m2, l[i]? = some (s, as) ∧ H pr = some (.tup [sv, .ref av]) ∧ Dp K H sv s ∧ Dp K H (.ref av) (.tuple as) ∧ Tt m s ∧ Tt m2 (.tuple as)
  | _, _, .nil, i, pr, h => by cases h
  | _, _, .cons h hs ha ts ta r, 0, pr, e => by
    cases e
    exact ⟨_, _, _, _, _, _, rfl, h, hs, ha, ts, ta⟩
  | _, _, .cons h hs ha ts ta r, i + 1, pr, e => prs_at r (i := i) e

section
variable {P : Program} {w : World} {K : PySem.W.Frag} {mg : Str → Option Value} {base : Heap}

theorem ok_check_names {fd : FuncData} (F : FnP K "check_names" "check_names" s_check_names (ga K "check_names") fd) (T : Tx K w mg) (c_is_name : Cl P w K mg base CX0 1 (ga K "is_name") ["word"] spIsName) : FnOk P w K mg base CX0 (1 + 1) (ga K "check_names") fd ["code"] (spOk K) := by
  obtain ⟨fd_is_name, G_is_name, b_is_name, kp_is_name⟩ := c_is_name
  refine FunD.ok F sc_check_names (fun vs H Q E h => ?_) (fun cdv A outer s H vs Q E hr h => ?_)
  · obtain ⟨a, c, r, f, cs, rs, os, st, fos, bds, rfl, _⟩ := h
    rfl
  · obtain ⟨a, c, r, f, cs, rs, os, st, fos, bds, rfl, hC, hNm, kk⟩ := h
    have g_is_name := T.gl "is_name" (by decide +kernel)
    refine ⟨_, PSs.nox (pss_cons (ps_setLc (i := 1) (own := [("function", 4)]) (g := gName 4) (by rfl) sc_check_names.nd rfl rfl (sw_true rfl rfl rfl (by decide +kernel)) (pi_tup (pe_fld (pv 0) rfl)) (blkOk_by (own := [("function", 4)]) (N := ["code", "called", "seen", "name", "function"]) (sc := defScope s_check_names) (by decide +kernel)) (fun _ _ _ _ _ => (pg_name (i := 4) sc_check_names.nd rfl (Or.inl rfl))) (fun _ _ _ _ _ => pts_nil) (fun _ _ _ _ _ => (pe_fldc (K := K) rfl (pv 4) rfl)))
      (pss_cons (ps_set (i := 2) sc_check_names.nd rfl (Or.inl rfl) (pe_lst pa_nil))
      (pss_cons (ps_for PassesOwn.never rfl (pi_list (pe_lst (StX.pa_star (pe_fld (pv 0) rfl) (StX.pa_star (pe_fld (pv 0) rfl) (StX.pa_star (pv 1) pa_nil))))) (pg_name (i := 3) sc_check_names.nd rfl (Or.inl rfl))
      (pss_cons (ps_if (PW.pt (pw_or (pt_not (pt_val (pe_call G_is_name (hr.mono (by decide)) (by rfl) g_is_name kp_is_name b_is_name .nil pass0 (pa_cons (pv 3) pa_nil)))) (pw_or1 (pt_cmpR op_in_seq (pv 3) (pv 2) (by rfl)))))
      (pss_one ps_never)
      pss_nil)
      (pss_one (ps_expr (pe_bm PySem.F.plainAttrs_list PySem.F.slot_list_append PySem.F.type_list_append mt_append (pv 2) (pa_cons (pv 3) pa_nil))))))
      (pss_one (ps_if (pt_cmpR op_notIn_seq (pe_fld (pv 0) rfl) (pv 1) (by rfl))
      (pss_one ps_never)
      pss_nil))))), ?_⟩
    obtain ⟨dx, hA⟩ := hC.at_
    obtain ⟨z1, z2, z3⟩ := hNm.sz
    refine q_asgL (el_called (te := tFld K (tVar 0) "functions") (σ := L2.start ["code", "called", "seen", "name", "function"] [V.ref a]) (j := 4) (vs := [4]) T (ev_fld (ev_var rfl) hA T.cc (T.nc "functions" (by decide +kernel)) rfl) hC.fa hC.fs hNm.sz40.2.2 (fun _ => by rfl) (fun _ => by rfl)) fun q H1 hq e1 g1 => ?_
    refine q_asgL (el_lst ea_nil (by decide)) fun D H2 hD e2 g2 => ?_
    have e3 := e1.trans e2
    have hD0 : H D = none := fresh_back e1 hD
    have gq := e2 _ _ g1
    have hsz : (cs ++ rs ++ os).length ≤ 120 := by
      rw [List.length_append, List.length_append]
      omega
    have en : cs.map V.str ++ (rs.map V.str ++ (os.map V.str ++ [])) = (cs ++ rs ++ os).map V.str := by
      simp
    refine ⟨.ref a, rfl, a, _, dx, _, .ref c, rfl, e3 _ _ hA, T.cc, T.nc "cells" (by decide +kernel), rfl, c, _, rfl, .inl (st_of (e3 _ _ hC.ca)), ?_⟩
    refine ⟨.ref a, rfl, a, _, dx, _, .ref r, rfl, e3 _ _ hA, T.cc, T.nc "rows" (by decide +kernel), rfl, r, _, rfl, .inl (st_of (e3 _ _ hC.ra)), ?_⟩
    refine ⟨.ref q, rfl, q, _, rfl, .inr (sq_of gq), ?_⟩
    show (cs.map V.str ++ (rs.map V.str ++ (os.map V.str ++ []))).length ≤ sizeLine ∧ _
    rw [en]
    refine ⟨by rw [List.length_map, sizeLine_eq]; omega, fun p hp => ⟨p, rfl, ⟨_, sq_of upd_same⟩, ?_⟩⟩
    have e4 := e3.trans (Ex.new (o := .lst ((cs ++ rs ++ os).map V.str)) hp)
    have hpD : p ≠ D := fun e => by rw [e, g2] at hp; cases hp
    refine for_list (xs := (cs ++ rs ++ os).map V.str) (fun i σ' H' => ∃ v3 v4, σ' = [some (.ref a), some (.ref q), some (.ref D), v3, v4] ∧ H' D = some (.lst (((cs ++ rs ++ os).take i).map V.str)) ∧ Ex H H' ∧ H' p = some (.lst ((cs ++ rs ++ os).map V.str)) ∧ H' q = some (.lst (os.map V.str)))
      ⟨_, _, rfl, (upd_ne (Ne.symm hpD)).trans g2, e4, upd_same, Ex.new hp _ _ gq⟩ (fun i σ' H' _ hI => ?_) (fun i x σ' H' hx hI => ?_) (fun σ' H' hI => ?_)
    · obtain ⟨v3, v4, rfl, g3, e5, g4, g5⟩ := hI
      exact sq_of g4
    · obtain ⟨v3, v4, rfl, g3, e5, g4, g5⟩ := hI
      rw [List.getElem?_map] at hx
      cases p1 : (cs ++ rs ++ os)[i]? with
      | none =>
        rw [p1] at hx
        cases hx
      | some z =>
        rw [p1] at hx
        cases hx
        have hi := (List.getElem?_eq_some_iff.mp p1).1
        have hz := hNm.ok.2 z (List.mem_of_getElem? p1)
        have hgood := let_good hz
        have hnot := nodup_take hNm.ok.1 p1
        dsimp only [gName, List.set]
        refine q_when (b := false) (et_is (et_or (a := !goodN z) (b := decide (z ∈ (cs ++ rs ++ os).take i)) (et_not (et_B (ev_call (ea_cons (ev_var rfl) ea_nil) fun H5 e7 R q _ => ⟨z, rfl, by omega, fun H6 e8 => q H6 e8⟩))) fun _ =>
          et_test (ev_op (ev_var rfl) (ev_var rfl) (by rw [← inV_strs]; exact rv_isL (sq_of g3) rfl (flat_strs _)))) (by rw [hgood, decide_eq_false hnot]; rfl)) (fun hb => nomatch hb) (fun hb H5 e7 => ?_)
        refine s_app (e7 _ _ g3) (ev_var rfl) (ev_var rfl) (by rw [List.length_map, List.length_take]; omega) fun H6 e8 => ?_
        have nq : q ≠ D := fun e => by rw [e, hD] at g1; cases g1
        refine ⟨_, _, rfl, ?_, ((e5.trans e7).trans e8).mut hD0, (upd_ne hpD).trans (e8 _ _ (e7 _ _ g4)), (upd_ne nq).trans (e8 _ _ (e7 _ _ g5))⟩
        rw [upd_same, take_more p1, List.map_append]
        rfl
    · obtain ⟨v3, v4, rfl, g3, e5, g4, g5⟩ := hI
      dsimp only
      exact s_when (b := !decide (st ∈ os)) (et_test (ev_op (ev_fld (ev_var rfl) (e5 _ _ hA) T.cc (T.nc "start" (by decide +kernel)) rfl) (ev_var rfl) (by rw [← inV_strs]; exact rv_niL (K := K) (sq_of g5) rfl (flat_strs _)))) (fun hb H5 e7 => by rw [decide_eq_true hNm.st] at hb; cases hb) (fun hb H5 e7 => kk H5 (e5.trans e7))

theorem ok_check_body {fd : FuncData} (F : FnP K "check_body" "check_body" s_check_body (ga K "check_body") fd) (T : Tx K w mg) (c_numbered : Cl P w K mg base CX0 6 (ga K "numbered") ["body", "around"] (spNum K 4)) (c_well_formed : Cl P w K mg base CX0 2 (ga K "well_formed") ["statement", "names"] (spWell K)) (c_misplaced : Cl P w K mg base CX0 1 (ga K "misplaced") ["word", "around"] (spMis K)) (c_parts_of : Cl P w K mg base CX0 2 (ga K "parts_of") ["statement"] (spPt K)) : FnOk P w K mg base CX0 (6 + 1) (ga K "check_body") fd ["function", "names"] (spBody K) := by
  obtain ⟨fd_numbered, G_numbered, b_numbered, kp_numbered⟩ := c_numbered
  obtain ⟨fd_well_formed, G_well_formed, b_well_formed, kp_well_formed⟩ := c_well_formed
  obtain ⟨fd_misplaced, G_misplaced, b_misplaced, kp_misplaced⟩ := c_misplaced
  obtain ⟨fd_parts_of, G_parts_of, b_parts_of, kp_parts_of⟩ := c_parts_of
  refine FunD.ok F sc_check_body (fun vs H Q E h => ?_) (fun cdv A outer s H vs Q E hr h => ?_)
  · obtain ⟨f, nm, z, ss, cs, rs, os, rfl, _⟩ := h
    rfl
  · obtain ⟨f, nm, z, ss, cs, rs, os, rfl, hF, hN, hB, kk⟩ := h
    have n_enumerate := T.fr "enumerate" (by decide +kernel)
    have g_numbered := T.gl "numbered" (by decide +kernel)
    obtain ⟨tk_MOST_STATEMENTS, g_MOST_STATEMENTS⟩ := T.c_MOST_STATEMENTS
    have g_well_formed := T.gl "well_formed" (by decide +kernel)
    have g_misplaced := T.gl "misplaced" (by decide +kernel)
    have g_parts_of := T.gl "parts_of" (by decide +kernel)
    have n_len := T.fr "len" (by decide +kernel)
    obtain ⟨tk_MOST_BLOCKS_AROUND, g_MOST_BLOCKS_AROUND⟩ := T.c_MOST_BLOCKS_AROUND
    refine ⟨_, PSs.nox (pss_one (ps_for PassesOwn.never rfl (pi_enum (by rfl) n_enumerate (pa_cons (pe_call G_numbered (hr.mono (by decide)) (by rfl) g_numbered kp_numbered b_numbered .nil pass0 (pa_cons (pe_fld (pv 0) rfl) (pa_cons (pe_tup pa_nil) pa_nil))) pa_nil)) (pg_tup rfl (pgs_cons (pg_name (i := 2) sc_check_body.nd rfl (Or.inl rfl)) (pgs_cons (pg_tup rfl (pgs_cons (pg_name (i := 3) sc_check_body.nd rfl (Or.inl rfl)) (pgs_cons (pg_name (i := 4) sc_check_body.nd rfl (Or.inl rfl)) pgs_nil))) pgs_nil)))
      (pss_cons (ps_if (pt_cmpR op_eq (pv 2) (pe_glob (v := .int _) (by rfl) g_MOST_STATEMENTS ⟨_, rfl⟩) (nomark _))
      (pss_one ps_never)
      pss_nil)
      (pss_cons (ps_if (PW.pt (pw_or (pt_not (pt_val (pe_call G_well_formed (hr.mono (by decide)) (by rfl) g_well_formed kp_well_formed b_well_formed .nil pass0 (pa_cons (pv 3) (pa_cons (pv 1) pa_nil))))) (pw_or1 (pt_val (pe_call G_misplaced (hr.mono (by decide)) (by rfl) g_misplaced kp_misplaced b_misplaced .nil pass0 (pa_cons (pe_ix ix_tup (pv 3) pe_int (fun _ _ => rfl)) (pa_cons (pv 4) pa_nil)))))))
      (pss_one ps_never)
      pss_nil)
      (pss_one (ps_if (PW.pt (pw_and (pt_truth (pe_call G_parts_of (hr.mono (by decide)) (by rfl) g_parts_of kp_parts_of b_parts_of .nil pass0 (pa_cons (pv 3) pa_nil)) (fun _ => rfl)) (pw_and1 (pt_cmpR op_gt (pe_callB call_len_seq (by rfl) n_len (by decide +kernel) (pa_cons (pv 4) pa_nil)) (pe_glob (v := .int _) (by rfl) g_MOST_BLOCKS_AROUND ⟨_, rfl⟩) (nomark _)))))
      (pss_one ps_never)
      pss_nil)))))), ?_⟩
    obtain ⟨dx, b, n, h1, h2, _⟩ := hF
    obtain ⟨⟨⟨m, hm9, htt⟩, hbod⟩, hcnt, hst⟩ := hB
    have tss : Tts m ss := by
      cases htt with
      | tup _ q => exact q
    refine ⟨.ref f, rfl, f, _, dx, _, .ref b, rfl, h1, T.cf, T.nf "body" (by decide +kernel), rfl, (by show 0 ≤ sizeLine; decide), fun ar har => ?_⟩
    have e1 := Ex.new (o := .tup []) har
    refine ⟨b, ar, ss, [], m, 0, rfl, dpM e1 _ _ h2, .tup (st_of upd_same) .nil, tss, .nil, ⟨by decide, by decide⟩, hbod, fun q prs H1 hq e2 g1 g3 => ?_⟩
    refine ⟨q, prs.map V.ref, rfl, sq_of g1, ?_⟩
    refine for_it (walk_enum (xs := prs.map V.ref)) (fun i σ' H' => ∃ v2 v3 v4, σ' = [some (.ref f), some (.ref nm), v2, v3, v4] ∧ Ex H1 H') ⟨_, _, _, rfl, Ex.refl _⟩ (fun i σ' H' _ hI => ?_) (fun i x σ' H2 H3 hi hI hy => ?_) (fun σ' H' hI => ?_)
    · obtain ⟨v2, v3, v4, rfl, e3⟩ := hI
      exact sq_of (e3 _ _ g1)
    · obtain ⟨v2, v3, v4, rfl, e3⟩ := hI
      obtain ⟨tq, x1, y1, rfl, hT, rfl, p1, p2⟩ := hy
      cases p1
      replace p2 : (prs.map V.ref)[i]? = some y1 := p2
      rw [List.getElem?_map] at p2
      cases p : prs[i]? with
      | none =>
        rw [p] at p2
        cases p2
      | some pr =>
        rw [p] at p2
        cases p2
        have hi2 := (List.getElem?_eq_some_iff.mp p).1
        have lpr := g3.len
        obtain ⟨s, as, sv, av, m1, m2, hq1, t1, t2, t3, tts, tta⟩ := prs_at g3 p
        obtain ⟨hwf, wd, ps, hwd, hps, hpw, hpl, hpp, hdeep⟩ := hst _ (List.mem_of_getElem? hq1)
        simp only at hwf hwd hps hdeep
        have e4 : Ex H1 (upd H2 tq (.tup [.int (i : Nat), .ref pr])) := e3.trans (Ex.new hT)
        have hsh := hwf.sh
        obtain ⟨w0, ks, args, hs0, _, _, _⟩ := id hsh
        have hw0 : w0 = wd := by
          rw [hs0] at hwd
          injection hwd
        subst hw0
        rw [hs0] at t2
        cases t2 with
        | @tup t xs _ hx hxs =>
        cases hxs with
        | @cons v0 rest _ _ hv0 hrest =>
        cases hv0
        have t2' : Dp K H1 (.ref t) s := by
          rw [hs0]
          exact .tup hx (.cons (.str w0) hrest)
        subst hps
        refine ⟨tq, _, rfl, st_of upd_same, rfl, .int (i : Nat), [.ref pr], rfl, .ref pr, [], rfl, pr, [.ref t, .ref av], rfl, st_of (e4 _ _ t1), rfl, .ref t, [.ref av], rfl, .ref av, [], rfl, rfl, rfl, ?_⟩
        dsimp only [gName, List.set]
        refine q_when (b := false) (et_is (et_test (ev_op (ev_var rfl) ev_c (rv_eq rfl))) (decide_eq_false (by intro h; injection h with h; omega))) (fun hb => nomatch hb) (fun _ H4 e5 => ?_)
        have e6 := e4.trans e5
        have e06 := (e1.trans e2).trans e6
        refine q_when (b := false) (et_or (a := false) (b := false) (et_not (a := true) (et_B (ev_call (ea_cons (ev_var rfl) (ea_cons (ev_var rfl) ea_nil)) fun H5 e7 R q _ => ⟨.ref t, nm, s, cs, rs, os, rfl, dpM (e6.trans e7) _ _ t2', hN.mono (e06.trans e7), hwf, fun H6 e8 => q H6 e8⟩))) fun _ =>
          et_B (ev_call (ea_cons (ev_op (ev_var rfl) ev_c (rv_ixT (ex_t e6 hx) (v := .str w0) (atI_nat (j := 0) rfl))) (ea_cons (ev_var rfl) ea_nil)) fun H5 e7 R q _ => ⟨w0, av, ps, rfl, dpM (e6.trans e7) _ _ t3, hpw, hpl, hpp, fun H6 e8 => q H6 e8⟩)) (fun hb => nomatch hb) (fun _ H5 e7 => ?_)
        have e8 := e6.trans e7
        refine ⟨.ref t, rfl, .ref t, s, m1, rfl, dpM e8 _ _ t2', tts, hsh, fun s' ys H6 hs' e9 hS hys => ⟨!ys.isEmpty, (show TruV K (.ref s') H6 _ from Or.inl ⟨ys, sq_of hS, rfl⟩), ite2 (fun hne => ?_) (fun _ => ite_ff ⟨_, _, _, rfl, e8.trans e9⟩)⟩⟩
        have hpne : parts s ≠ [] := by
          intro e
          rw [e] at hys
          cases hys
          cases hne
        have hd2 := hdeep hpne
        refine go_test (b := false) (et_is (et_test (ev_op (ev_cb (ea_cons (ev_var rfl) ea_nil) fun H7 e10 R q => ?_) ev_c (rv_I0 (i := (ps.length : Int))))) (decide_eq_false (by omega))) fun H7 e10 => ite_ff ⟨_, _, _, rfl, (e8.trans e9).trans e10⟩
        cases dpM ((e8.trans e9).trans e10) _ _ t3 with
        | @tup _ zs _ hz hzs =>
          have lz := dpAll_len hzs
          rw [List.length_map] at lz
          exact ⟨av, zs, rfl, .inr hz, by rw [lz]; exact q H7 (Ex.refl _)⟩
    · obtain ⟨v2, v3, v4, rfl, e3⟩ := hI
      exact kk H' ((e1.trans e2).trans e3)

end
end K05
set_option Elab.async false
set_option linter.all false
set_option maxRecDepth 100000
set_option maxHeartbeats 8000000
namespace K05
open PySem PySem.Spec PyProof.Rows L2 He XH XV XR PEN TR Evl


theorem Fn.xa {K : PySem.W.Frag} {H H' : Hp} {f a C dx : Addr} {nm : Str} {ss : List PyData} (k : Xa a H H') (ha : H a = some (.ins C dx [])) (h : Fn K H f nm ss) : Fn K H' f nm ss := by
  obtain ⟨dx2, b, n, h1, h2⟩ := h
  refine ⟨dx2, b, n, k _ _ ?_ h1, dp_xa k ha _ _ h2.1, h2.2⟩
  rintro rfl
  rw [ha] at h1
  cases h1
theorem Fns.xa {K : PySem.W.Frag} {H H' : Hp} {a C dx : Addr} {fos : List Addr} {os : List Str} {bds : List (List PyData)} (k : Xa a H H') (ha : H a = some (.ins C dx [])) (h : Fns K H fos os bds) : Fns K H' fos os bds := ⟨h.1, h.2.1, fun i f z ss h1 h2 h3 => (h.2.2 i f z ss h1 h2 h3).xa k ha⟩
def spCI (K : PySem.W.Frag) : Sp := fun vs H Q _ => ∃ a c r f cs rs os st fos bds dx, vs = [.ref a, .ref c, .ref r, .ref f, .str st] ∧ H a = some (.ins (ga K "Code") dx []) ∧ H c = some (.lst (cs.map V.str)) ∧ H r = some (.lst (rs.map V.str)) ∧ H f = some (.lst (fos.map V.ref)) ∧ Fns K H fos os bds ∧ Names cs rs os st ∧ (∀ ss ∈ bds, BodV cs rs os ss) ∧
  ∀ c r f H', Xa a H H' → Cd K H' a c r f cs rs os st fos bds → Q .non H'

section
variable {P : Program} {w : World} {K : PySem.W.Frag} {mg : Str → Option Value} {base : Heap}

theorem ok_Code_init {fd : FuncData} {f : Addr} (F : FnP K "__init__" "Code.__init__" s_Code_init f fd) (T : Tx K w mg) (c_check_bounds : Cl P w K mg base CX0 1 (ga K "check_bounds") ["code"] (spOk K)) (c_check_names : Cl P w K mg base CX0 2 (ga K "check_names") ["code"] (spOk K)) (c_names_by_kind : Cl P w K mg base CX0 1 (ga K "names_by_kind") ["code"] (spByKind K)) (c_check_body : Cl P w K mg base CX0 7 (ga K "check_body") ["function", "names"] (spBody K)) : FnOk P w K mg base CX0 (7 + 1) f fd ["self", "cells", "rows", "functions", "start"] (spCI K) := by
  obtain ⟨fd_check_bounds, G_check_bounds, b_check_bounds, kp_check_bounds⟩ := c_check_bounds
  obtain ⟨fd_check_names, G_check_names, b_check_names, kp_check_names⟩ := c_check_names
  obtain ⟨fd_names_by_kind, G_names_by_kind, b_names_by_kind, kp_names_by_kind⟩ := c_names_by_kind
  obtain ⟨fd_check_body, G_check_body, b_check_body, kp_check_body⟩ := c_check_body
  refine FunD.ok F sc_Code_init (fun vs H Q E h => ?_) (fun cdv A outer s H vs Q E hr h => ?_)
  · obtain ⟨a, c, r, f, cs, rs, os, st, fos, bds, dx, rfl, _⟩ := h
    rfl
  · obtain ⟨a, c, r, f, cs, rs, os, st, fos, bds, dx, rfl, ha, hc, hr', hf, hF, hNm, hBd, kF⟩ := h
    have n_tuple := T.fr "tuple" (by decide +kernel)
    have g_check_bounds := T.gl "check_bounds" (by decide +kernel)
    have g_check_names := T.gl "check_names" (by decide +kernel)
    have g_names_by_kind := T.gl "names_by_kind" (by decide +kernel)
    have g_check_body := T.gl "check_body" (by decide +kernel)
    refine ⟨_, PSs.nox (pss_cons (ps_fld (pv 0) (pe_callTy call_tuple_of (by rfl) n_tuple (by decide +kernel) (pa_cons (pv 1) pa_nil)) rfl)
      (pss_cons (ps_fld (pv 0) (pe_callTy call_tuple_of (by rfl) n_tuple (by decide +kernel) (pa_cons (pv 2) pa_nil)) rfl)
      (pss_cons (ps_fld (pv 0) (pe_callTy call_tuple_of (by rfl) n_tuple (by decide +kernel) (pa_cons (pv 3) pa_nil)) rfl)
      (pss_cons (ps_fld (pv 0) (pv 4) rfl)
      (pss_cons (ps_expr (pe_call G_check_bounds (hr.mono (by decide)) (by rfl) g_check_bounds kp_check_bounds b_check_bounds .nil pass0 (pa_cons (pv 0) pa_nil)))
      (pss_cons (ps_expr (pe_call G_check_names (hr.mono (by decide)) (by rfl) g_check_names kp_check_names b_check_names .nil pass0 (pa_cons (pv 0) pa_nil)))
      (pss_cons (ps_set (i := 5) sc_Code_init.nd rfl (Or.inl rfl) (pe_call G_names_by_kind (hr.mono (by decide)) (by rfl) g_names_by_kind kp_names_by_kind b_names_by_kind .nil pass0 (pa_cons (pv 0) pa_nil)))
      (pss_one (ps_for PassesOwn.never rfl (pi_tup (pe_fld (pv 0) rfl)) (pg_name (i := 6) sc_Code_init.nd rfl (Or.inl rfl))
      (pss_one (ps_expr (pe_call G_check_body (hr.mono (by decide)) (by rfl) g_check_body kp_check_body b_check_body .nil pass0 (pa_cons (pv 6) (pa_cons (pv 5) pa_nil)))))))))))))), ?_⟩
    have nc : c ≠ a := fun e => by rw [e, ha] at hc; cases hc
    have nr : r ≠ a := fun e => by rw [e, ha] at hr'; cases hr'
    have nf : f ≠ a := fun e => by rw [e, ha] at hf; cases hf
    refine ⟨.ref c, rfl, c, _, rfl, .inl ⟨sq_of hc, fun u1 hu1 => ?_⟩⟩
    have n1 : u1 ≠ a := fun e => by rw [e, ha] at hu1; cases hu1
    refine ⟨.ref a, rfl, a, _, dx, [], rfl, (upd_ne (Ne.symm n1)).trans ha, T.cc, T.nc "cells" (by decide +kernel), by decide, ?_⟩
    have a1 : upd (upd H u1 (.tup (cs.map V.str))) a (.ins (ga K "Code") dx (putF "cells" (.ref u1) [])) a = some (.ins (ga K "Code") dx [("cells", .ref u1)]) := upd_same
    have b1 : upd (upd H u1 (.tup (cs.map V.str))) a (.ins (ga K "Code") dx (putF "cells" (.ref u1) [])) u1 = some (.tup (cs.map V.str)) := (upd_ne n1).trans upd_same
    have x1 : Xa a H (upd (upd H u1 (.tup (cs.map V.str))) a (.ins (ga K "Code") dx (putF "cells" (.ref u1) []))) := (Xa.of (Ex.new hu1)).trans Xa.upd
    generalize upd (upd H u1 (.tup (cs.map V.str))) a (.ins (ga K "Code") dx (putF "cells" (.ref u1) [])) = H1 at a1 b1 x1
    refine ⟨.ref r, rfl, r, _, rfl, .inl ⟨sq_of (x1 _ _ nr hr'), fun u2 hu2 => ?_⟩⟩
    have n2 : u2 ≠ a := fun e => by rw [e, a1] at hu2; cases hu2
    refine ⟨.ref a, rfl, a, _, dx, _, rfl, (upd_ne (Ne.symm n2)).trans a1, T.cc, T.nc "rows" (by decide +kernel), (show 1 < 1000 by decide), ?_⟩
    rw [putF_tail (by decide +kernel)]
    have a2 : upd (upd H1 u2 (.tup (rs.map V.str))) a (.ins (ga K "Code") dx (("cells", .ref u1) :: putF "rows" (.ref u2) [])) a = some (.ins (ga K "Code") dx [("cells", .ref u1), ("rows", .ref u2)]) := upd_same
    have b2 : upd (upd H1 u2 (.tup (rs.map V.str))) a (.ins (ga K "Code") dx (("cells", .ref u1) :: putF "rows" (.ref u2) [])) u2 = some (.tup (rs.map V.str)) := (upd_ne n2).trans upd_same
    have x2 : Xa a H1 (upd (upd H1 u2 (.tup (rs.map V.str))) a (.ins (ga K "Code") dx (("cells", .ref u1) :: putF "rows" (.ref u2) []))) := (Xa.of (Ex.new hu2)).trans Xa.upd
    generalize upd (upd H1 u2 (.tup (rs.map V.str))) a (.ins (ga K "Code") dx (("cells", .ref u1) :: putF "rows" (.ref u2) [])) = H2 at a2 b2 x2
    have b1' := x2 _ _ n1 b1
    refine ⟨.ref f, rfl, f, _, rfl, .inl ⟨sq_of (x2 _ _ nf (x1 _ _ nf hf)), fun u3 hu3 => ?_⟩⟩
    have n3 : u3 ≠ a := fun e => by rw [e, a2] at hu3; cases hu3
    refine ⟨.ref a, rfl, a, _, dx, _, rfl, (upd_ne (Ne.symm n3)).trans a2, T.cc, T.nc "functions" (by decide +kernel), (show 2 < 1000 by decide), ?_⟩
    rw [putF_tail (by decide +kernel), putF_tail (by decide +kernel)]
    have a3 : upd (upd H2 u3 (.tup (fos.map V.ref))) a (.ins (ga K "Code") dx (("cells", .ref u1) :: ("rows", .ref u2) :: putF "functions" (.ref u3) [])) a = some (.ins (ga K "Code") dx [("cells", .ref u1), ("rows", .ref u2), ("functions", .ref u3)]) := upd_same
    have b3 : upd (upd H2 u3 (.tup (fos.map V.ref))) a (.ins (ga K "Code") dx (("cells", .ref u1) :: ("rows", .ref u2) :: putF "functions" (.ref u3) [])) u3 = some (.tup (fos.map V.ref)) := (upd_ne n3).trans upd_same
    have x3 : Xa a H2 (upd (upd H2 u3 (.tup (fos.map V.ref))) a (.ins (ga K "Code") dx (("cells", .ref u1) :: ("rows", .ref u2) :: putF "functions" (.ref u3) []))) := (Xa.of (Ex.new hu3)).trans Xa.upd
    generalize upd (upd H2 u3 (.tup (fos.map V.ref))) a (.ins (ga K "Code") dx (("cells", .ref u1) :: ("rows", .ref u2) :: putF "functions" (.ref u3) [])) = H3 at a3 b3 x3
    refine ⟨.str st, rfl, .ref a, rfl, a, _, dx, _, rfl, a3, T.cc, T.nc "start" (by decide +kernel), (show 3 < 1000 by decide), ?_⟩
    rw [putF_tail (by decide +kernel), putF_tail (by decide +kernel), putF_tail (by decide +kernel)]
    have a4 : upd H3 a (.ins (ga K "Code") dx (("cells", .ref u1) :: ("rows", .ref u2) :: ("functions", .ref u3) :: putF "start" (.str st) [])) a = some (.ins (ga K "Code") dx [("cells", .ref u1), ("rows", .ref u2), ("functions", .ref u3), ("start", .str st)]) := upd_same
    have x4 : Xa a H3 (upd H3 a (.ins (ga K "Code") dx (("cells", .ref u1) :: ("rows", .ref u2) :: ("functions", .ref u3) :: putF "start" (.str st) []))) := Xa.upd
    generalize upd H3 a (.ins (ga K "Code") dx (("cells", .ref u1) :: ("rows", .ref u2) :: ("functions", .ref u3) :: putF "start" (.str st) [])) = H4 at a4 x4
    have xx : Xa a H H4 := ((x1.trans x2).trans x3).trans x4
    have hC : Cd K H4 a u1 u2 u3 cs rs os st fos bds := ⟨x4 _ _ n1 (x3 _ _ n1 b1'), x4 _ _ n2 (x3 _ _ n2 b2), x4 _ _ n3 b3, hF.xa xx ha, ⟨dx, a4⟩⟩
    refine ⟨.ref a, rfl, a, u1, u2, u3, cs, rs, os, st, fos, bds, rfl, hC, hNm, fun H5 e5 => ?_⟩
    refine ⟨.ref a, rfl, a, u1, u2, u3, cs, rs, os, st, fos, bds, rfl, hC.mono e5, hNm, fun H6 e6 => ?_⟩
    have e56 := e5.trans e6
    refine ⟨.ref a, rfl, a, u1, u2, u3, cs, rs, os, st, fos, bds, rfl, hC.mono e56, hNm, fun p H7 e7 hN7 => ?_⟩
    have e57 := e56.trans e7
    have hC7 := hC.mono e57
    obtain ⟨dx', hA7⟩ := hC7.at_
    refine ⟨.ref a, rfl, a, _, dx', _, .ref u3, rfl, hA7, T.cc, T.nc "functions" (by decide +kernel), rfl, u3, rfl, ⟨_, st_of hC7.fa⟩, ?_⟩
    refine for_tup (xs := fos.map V.ref) (fun i σ' H' => ∃ v6, σ' = [some (.ref a), some (.ref c), some (.ref r), some (.ref f), some (.str st), some (.ref p), v6] ∧ Ex H7 H') ⟨_, rfl, Ex.refl _⟩ (fun i σ' H' _ hI => ?_) (fun i x σ' H' hx hI => ?_) (fun σ' H' hI => ?_)
    · obtain ⟨v6, rfl, e8⟩ := hI
      exact st_of (e8 _ _ hC7.fa)
    · obtain ⟨v6, rfl, e8⟩ := hI
      rw [List.getElem?_map] at hx
      cases p1 : fos[i]? with
      | none =>
        rw [p1] at hx
        cases hx
      | some t =>
        rw [p1] at hx
        cases hx
        obtain ⟨z, ss, ho, hb, hFn⟩ := hC7.fs.at p1
        exact ⟨.ref t, rfl, .ref p, rfl, t, p, z, ss, cs, rs, os, rfl, hFn.mono e8, hN7.mono e8, hBd ss (List.mem_of_getElem? hb), fun H9 e9 => ⟨_, rfl, e8.trans e9⟩⟩
    · obtain ⟨v6, rfl, e8⟩ := hI
      exact kF u1 u2 u3 H' (xx.trans (Xa.of (e57.trans e8))) (hC7.mono e8)

end
end K05
set_option Elab.async false
set_option linter.all false
set_option maxRecDepth 100000
set_option maxHeartbeats 8000000
namespace K05
open PySem PySem.Spec PyProof.Rows L2 He XH XV XR PEN TR Evl


/-! ### the drawn codes -/
mutual
theorem dp_px {K : PySem.W.Frag} {H H' : Hp} {p l : Addr} {n : Nat} (hP : Pen p l n H) (k : Px p l H H') : ∀ {m : Nat} {d : PyData} {v : V}, Tt m d → Dp K H v d → Dp K H' v d
  | _, _, _, .str _, h => by
    cases h
    exact .str _
  | _, _, _, .int _, h => by
    cases h
    exact .int _
  | _, _, _, .tup _ hs, h => by
    cases h with
    | @tup a xs _ h1 h2 =>
      refine .tup ?_ (dps_px hP k hs h2)
      obtain ⟨c, ns, e1, e2, _⟩ := hP
      rcases h1 with (h1 | ⟨o, h1⟩) | h1
      · exact .inl (.inl (k.get (fun e => by rw [e, e1] at h1; cases h1) (fun e => by rw [e, e2] at h1; cases h1) h1))
      · exact .inl (.inr ⟨o, k.get (fun e => by rw [e, e1] at h1; cases h1) (fun e => by rw [e, e2] at h1; cases h1) h1⟩)
      · exact .inr h1
theorem dps_px {K : PySem.W.Frag} {H H' : Hp} {p l : Addr} {n : Nat} (hP : Pen p l n H) (k : Px p l H H') : ∀ {m : Nat} {ds : List PyData} {vs : List V}, Tts m ds → DpAll K H vs ds → DpAll K H' vs ds
  | _, _, _, .nil, h => by
    cases h
    exact .nil
  | _, _, _, .cons h1 r1, h => by
    cases h with
    | cons h2 r2 => exact .cons (dp_px hP k h1 h2) (dps_px hP k r1 r2)
end
/-- a plan, as far as the drawing reads it -/
def Pl (K : PySem.W.Frag) (H : Hp) (pl : Addr) (cs rs os : List Str) : Prop := ∃ kvs c r o, H pl = some (.dK kvs) ∧ valV kvs (Sum.inr "cells") = some (.ref c) ∧ valV kvs (Sum.inr "rows") = some (.ref r) ∧ valV kvs (Sum.inr "order") = some (.ref o) ∧ H c = some (.lst (cs.map V.str)) ∧ H r = some (.lst (rs.map V.str)) ∧ H o = some (.lst (os.map V.str))
theorem Pl.px {K : PySem.W.Frag} {H H' : Hp} {p l pl : Addr} {n : Nat} {cs rs os : List Str} (hP : Pen p l n H) (k : Px p l H H') (h : Pl K H pl cs rs os) : Pl K H' pl cs rs os := by
  obtain ⟨kvs, c, r, o, h0, h1, h2, h3, h4, h5, h6⟩ := h
  have n4 := strs_off hP h4
  have n5 := strs_off hP h5
  have n6 := strs_off hP h6
  have n0 : pl ≠ p ∧ pl ≠ l := by
    obtain ⟨c, ns, e1, e2, _⟩ := hP
    exact ⟨(fun e => by rw [e, e1] at h0; cases h0), (fun e => by rw [e, e2] at h0; cases h0)⟩
  exact ⟨kvs, c, r, o, k.get n0.1 n0.2 h0, h1, h2, h3, k.get n4.1 n4.2 h4, k.get n5.1 n5.2 h5, k.get n6.1 n6.2 h6⟩
theorem Pl.mono {K : PySem.W.Frag} {H H' : Hp} {pl : Addr} {cs rs os : List Str} (e : Ex H H') (h : Pl K H pl cs rs os) : Pl K H' pl cs rs os := by
  obtain ⟨kvs, c, r, o, h0, h1, h2, h3, h4, h5, h6⟩ := h
  exact ⟨kvs, c, r, o, e _ _ h0, h1, h2, h3, e _ _ h4, e _ _ h5, e _ _ h6⟩
def two (w z : Str) : PyData := .tuple [.str w, .str z]
def deedsC (z : Str) : List PyData := [two "put" z, two "blank" z, two "give" z, two "put" z]
def deedsR (z : Str) : List PyData := [two "push" z, two "pop" z, two "cut" z, two "push" z]
def deeds (cs rs : List Str) : List PyData := cs.flatMap deedsC ++ rs.flatMap deedsR
def spDeeds (K : PySem.W.Frag) : Sp := fun vs H Q _ => ∃ pl cs rs os, vs = [.ref pl] ∧ Pl K H pl cs rs os ∧ cs.length ≤ 3 ∧ rs.length ≤ 2 ∧ ∀ q ys H', H q = none → Ex H H' → H' q = some (.lst ys) → DpAll K H' ys (deeds cs rs) → Q (.ref q) H'
theorem flat_len {α β : Type} {f : α → List β} {b : Nat} {l : List α} (h : ∀ x, (f x).length = b) : (l.flatMap f).length = l.length * b := by
  induction l with
  | nil => simp
  | cons x r ih => rw [List.flatMap_cons, List.length_append, h, ih, List.length_cons, Nat.succ_mul, Nat.add_comm]

section
variable {P : Program} {w : World} {K : PySem.W.Frag} {mg : Str → Option Value} {base : Heap}

theorem ok_law_deeds {fd : FuncData} (F : FnP K "_law_deeds" "_law_deeds" s_law_deeds (ga K "_law_deeds") fd) (T : Tx K w mg) : FnOk P w K mg base CX0 (0 + 1) (ga K "_law_deeds") fd ["_law_plan_here"] (spDeeds K) := by
  refine FunD.ok F sc_law_deeds (fun vs H Q E h => ?_) (fun cdv A outer s H vs Q E hr h => ?_)
  · obtain ⟨pl, cs, rs, os, rfl, _⟩ := h
    rfl
  · obtain ⟨pl, cs, rs, os, rfl, hP, lc, lr, kk⟩ := h
    refine ⟨_, PSs.nox (pss_cons (ps_set (i := 1) sc_law_deeds.nd rfl (Or.inl rfl) (pe_lst pa_nil))
      (pss_cons (ps_for PassesOwn.never rfl (pi_list (pe_dget (Nat.lt_of_le_of_lt (Nat.add_le_add_left (by decide) _) hr.units) (pv 0) pe_str (fun _ _ => rfl))) (pg_name (i := 2) sc_law_deeds.nd rfl (Or.inl rfl))
      (pss_one (ps_set (i := 1) sc_law_deeds.nd rfl (Or.inl rfl) (pe_op op_cat (pv 1) (pe_lst (pa_cons (pe_tup (pa_cons pe_str (pa_cons (pv 2) pa_nil))) (pa_cons (pe_tup (pa_cons pe_str (pa_cons (pv 2) pa_nil))) (pa_cons (pe_tup (pa_cons pe_str (pa_cons (pv 2) pa_nil))) (pa_cons (pe_tup (pa_cons pe_str (pa_cons (pv 2) pa_nil))) pa_nil)))))))))
      (pss_cons (ps_for PassesOwn.never rfl (pi_list (pe_dget (Nat.lt_of_le_of_lt (Nat.add_le_add_left (by decide) _) hr.units) (pv 0) pe_str (fun _ _ => rfl))) (pg_name (i := 3) sc_law_deeds.nd rfl (Or.inl rfl))
      (pss_one (ps_set (i := 1) sc_law_deeds.nd rfl (Or.inl rfl) (pe_op op_cat (pv 1) (pe_lst (pa_cons (pe_tup (pa_cons pe_str (pa_cons (pv 3) pa_nil))) (pa_cons (pe_tup (pa_cons pe_str (pa_cons (pv 3) pa_nil))) (pa_cons (pe_tup (pa_cons pe_str (pa_cons (pv 3) pa_nil))) (pa_cons (pe_tup (pa_cons pe_str (pa_cons (pv 3) pa_nil))) pa_nil)))))))))
      (pss_one (ps_ret (pv 1)))))), ?_⟩
    obtain ⟨kvs, c, r, o, h0, h1, h2, h3, h4, h5, h6⟩ := hP
    -- four new pairs behind a list
    have four : ∀ {H1 : Hp} {F : Addr} {ys : List V} {ds : List PyData} (z w1 w2 w3 w4 : Str), H1 F = some (.lst ys) → DpAll K H1 ys ds → ∀ t1, H1 t1 = none → ∀ t2, upd H1 t1 (.tup [.str w1, .str z]) t2 = none → ∀ t3, upd (upd H1 t1 (.tup [.str w1, .str z])) t2 (.tup [.str w2, .str z]) t3 = none →
        ∀ t4, upd (upd (upd H1 t1 (.tup [.str w1, .str z])) t2 (.tup [.str w2, .str z])) t3 (.tup [.str w3, .str z]) t4 = none → ∀ H5, H5 = upd (upd (upd (upd H1 t1 (.tup [.str w1, .str z])) t2 (.tup [.str w2, .str z])) t3 (.tup [.str w3, .str z])) t4 (.tup [.str w4, .str z]) → Ex H1 H5 ∧ DpAll K H5 (ys ++ [.ref t1, .ref t2, .ref t3, .ref t4]) (ds ++ [two w1 z, two w2 z, two w3 z, two w4 z]) := by
      intro H1 F ys ds z w1 w2 w3 w4 hF hD t1 k1 t2 k2 t3 k3 t4 k4 H5 e5
      have a1 := Ex.new (o := .tup [.str w1, .str z]) k1
      have a2 := Ex.new (o := .tup [.str w2, .str z]) k2
      have a3 := Ex.new (o := .tup [.str w3, .str z]) k3
      have a4 := Ex.new (o := .tup [.str w4, .str z]) k4
      have aa := ((a1.trans a2).trans a3).trans a4
      rw [e5]
      have pr : ∀ w : Str, DpAll K (upd (upd (upd (upd H1 t1 (.tup [.str w1, .str z])) t2 (.tup [.str w2, .str z])) t3 (.tup [.str w3, .str z])) t4 (.tup [.str w4, .str z])) [.str w, .str z] [.str w, .str z] := fun w => .cons (.str _) (.cons (.str _) .nil)
      exact ⟨aa, dpAll_app (dpMs aa _ _ hD) (.cons (.tup (st_of (a4 _ _ (a3 _ _ (a2 _ _ upd_same)))) (pr w1)) (.cons (.tup (st_of (a4 _ _ (a3 _ _ upd_same))) (pr w2)) (.cons (.tup (st_of (a4 _ _ upd_same)) (pr w3)) (.cons (.tup (st_of upd_same) (pr w4)) .nil))))⟩
    refine q_asgL (el_lst ea_nil (by decide)) fun F0 H1 hF0 e1 g1 => ?_
    dsimp only [gName, List.set]
    refine ⟨.ref pl, rfl, pl, .ref c, rfl, .inl ⟨kvs, Sum.inr "cells", .inl (e1 _ _ h0), rfl, h1.symm⟩, c, rfl, ⟨_, sq_of (e1 _ _ h4)⟩, ?_⟩
    refine for_list (xs := cs.map V.str) (fun i σ' H' => ∃ F ys v2 v3, σ' = [some (.ref pl), some (.ref F), v2, v3] ∧ H F = none ∧ Ex H H' ∧ H' F = some (.lst ys) ∧ DpAll K H' ys ((cs.take i).flatMap deedsC)) ⟨F0, [], _, _, rfl, hF0, e1, g1, .nil⟩ (fun i σ' H' _ hI => ?_) (fun i x σ' H' hx hI => ?_) (fun σ' H' hI => ?_)
    · obtain ⟨F, ys, v2, v3, rfl, f1, f2, f3, f4⟩ := hI
      exact sq_of (f2 _ _ h4)
    · obtain ⟨F, ys, v2, v3, rfl, f1, f2, f3, f4⟩ := hI
      rw [List.getElem?_map] at hx
      cases w1 : cs[i]? with
      | none =>
        rw [w1] at hx
        cases hx
      | some z =>
        rw [w1] at hx
        cases hx
        have ll := dpAll_len f4
        rw [flat_len (b := 4) (fun _ => rfl), List.length_take] at ll
        dsimp only [gName, List.set]
        refine ⟨.ref F, rfl, .str z, rfl, (show 2 ≤ sizeLine by decide), fun t1 k1 => ⟨.str z, rfl, (show 2 ≤ sizeLine by decide), fun t2 k2 => ⟨.str z, rfl, (show 2 ≤ sizeLine by decide), fun t3 k3 => ⟨.str z, rfl, (show 2 ≤ sizeLine by decide), fun t4 k4 => ⟨(show 4 ≤ sizeLine by decide), fun q hq => ?_⟩⟩⟩⟩⟩
        obtain ⟨m1, m2⟩ := four z "put" "blank" "give" "put" f3 f4 t1 k1 t2 k2 t3 k3 t4 k4 _ rfl
        have m3 := Ex.new (o := .lst [.ref t1, .ref t2, .ref t3, .ref t4]) hq
        refine ⟨F, q, ys, _, rfl, rfl, m3 _ _ (m1 _ _ f3), upd_same, fits (by show ys.length + 4 ≤ 1000; omega), fun G hG => ⟨G, _, _, _, rfl, fresh_back ((f2.trans m1).trans m3) hG, ((f2.trans m1).trans m3).trans (Ex.new hG), upd_same, ?_⟩⟩
        rw [flat_more deedsC w1]
        exact dpMs (m3.trans (Ex.new hG)) _ _ m2
    · obtain ⟨F, ys, v2, v3, rfl, f1, f2, f3, f4⟩ := hI
      rw [List.length_map, List.take_of_length_le (Nat.le_refl _)] at f4
      have lcs := dpAll_len f4
      rw [flat_len (b := 4) (fun _ => rfl)] at lcs
      refine ⟨.ref pl, rfl, pl, .ref r, rfl, .inl ⟨kvs, Sum.inr "rows", .inl (f2 _ _ h0), rfl, h2.symm⟩, r, rfl, ⟨_, sq_of (f2 _ _ h5)⟩, ?_⟩
      refine for_list (xs := rs.map V.str) (fun i σ' H' => ∃ F ys v2 v3, σ' = [some (.ref pl), some (.ref F), v2, v3] ∧ H F = none ∧ Ex H H' ∧ H' F = some (.lst ys) ∧ DpAll K H' ys (cs.flatMap deedsC ++ (rs.take i).flatMap deedsR)) ⟨F, ys, _, _, rfl, f1, f2, f3, (by rw [List.take_zero, List.flatMap_nil, List.append_nil]; exact f4)⟩ (fun i σ' H' _ hI => ?_) (fun i x σ' H' hx hI => ?_) (fun σ' H' hI => ?_)
      · obtain ⟨F, ys, v2, v3, rfl, f1, f2, f3, f4⟩ := hI
        exact sq_of (f2 _ _ h5)
      · clear f1 f2 f3 f4 lcs
        obtain ⟨F, ys, v2, v3, rfl, f1, f2, f3, f4⟩ := hI
        rw [List.getElem?_map] at hx
        cases w1 : rs[i]? with
        | none =>
          rw [w1] at hx
          cases hx
        | some z =>
          rw [w1] at hx
          cases hx
          have ll := dpAll_len f4
          rw [List.length_append, flat_len (b := 4) (fun _ => rfl), flat_len (b := 4) (fun _ => rfl), List.length_take] at ll
          dsimp only [gName, List.set]
          refine ⟨.ref F, rfl, .str z, rfl, (show 2 ≤ sizeLine by decide), fun t1 k1 => ⟨.str z, rfl, (show 2 ≤ sizeLine by decide), fun t2 k2 => ⟨.str z, rfl, (show 2 ≤ sizeLine by decide), fun t3 k3 => ⟨.str z, rfl, (show 2 ≤ sizeLine by decide), fun t4 k4 => ⟨(show 4 ≤ sizeLine by decide), fun q hq => ?_⟩⟩⟩⟩⟩
          obtain ⟨m1, m2⟩ := four z "push" "pop" "cut" "push" f3 f4 t1 k1 t2 k2 t3 k3 t4 k4 _ rfl
          have m3 := Ex.new (o := .lst [.ref t1, .ref t2, .ref t3, .ref t4]) hq
          refine ⟨F, q, ys, _, rfl, rfl, m3 _ _ (m1 _ _ f3), upd_same, fits (by show ys.length + 4 ≤ 1000; omega), fun G hG => ⟨G, _, _, _, rfl, fresh_back ((f2.trans m1).trans m3) hG, ((f2.trans m1).trans m3).trans (Ex.new hG), upd_same, ?_⟩⟩
          rw [flat_more deedsR w1, ← List.append_assoc]
          exact dpMs (m3.trans (Ex.new hG)) _ _ m2
      · clear f1 f2 f3 f4 lcs
        obtain ⟨F, ys, v2, v3, rfl, f1, f2, f3, f4⟩ := hI
        rw [List.length_map, List.take_of_length_le (Nat.le_refl _)] at f4
        exact ⟨.ref F, rfl, kk F ys H' f1 f2 f3 f4⟩

end
end K05
set_option Elab.async false
set_option linter.all false
set_option maxRecDepth 100000
set_option maxHeartbeats 8000000
namespace K05
open PySem PySem.Spec PyProof.Rows L2 He XH XV XR PEN TR Evl


/-! ### the number of statements -/
def cnt : Nat → List PyData → Nat
  | 0, _ => 0
  | n + 1, ss => (ss.map fun s => 1 + ((parts s).map fun p => cnt n (bodyOf p)).sum).sum
def Hb : Nat → List PyData → Prop
  | 0, ss => ss = []
  | n + 1, ss => ∀ s ∈ ss, (∃ w args, s = .tuple (w :: args)) ∧ ∀ p ∈ parts s, ∃ ds, p = .tuple ds ∧ Hb n ds
def spCnt (K : PySem.W.Frag) (n : Nat) : Sp := fun vs H Q _ => ∃ b ss m, vs = [.ref b] ∧ Dp K H (.ref b) (.tuple ss) ∧ Tts m ss ∧ Hb n ss ∧ ∀ H', Ex H H' → Q (.int (cnt n ss : Nat)) H'
theorem sum_more {α : Type} {l : List α} {i : Nat} {x : α} (f : α → Nat) (h : l[i]? = some x) : ((l.take (i + 1)).map f).sum = ((l.take i).map f).sum + f x := by
  rw [take_more h, List.map_append, List.sum_append]
  simp
theorem int_sum : ∀ ns : List Nat, (ns.map fun n : Nat => (n : Int)).sum = ((ns.sum : Nat) : Int)
  | [] => rfl
  | n :: r => by
    rw [List.map_cons, List.sum_cons, int_sum r, List.sum_cons]
    omega

section
variable {P : Program} {w : World} {K : PySem.W.Frag} {mg : Str → Option Value} {base : Heap}

theorem ok_law_count0 {fd : FuncData} (F : FnP K "_law_count" "_law_count" s_law_count (ga K "_law_count") fd) (T : Tx K w mg) : FnOk P w K mg base CX0 (0 + 1) (ga K "_law_count") fd ["_law_body"] (spCnt K 0) := by
  refine FunD.ok F sc_law_count (fun vs H Q E h => ?_) (fun cdv A outer s H vs Q E hr h => ?_)
  · obtain ⟨b, ss, m, rfl, _⟩ := h
    rfl
  · obtain ⟨b, ss, m, rfl, hd, hts, hH, kk⟩ := h
    refine ⟨_, PSs.nox (pss_cons (ps_set (i := 1) sc_law_count.nd rfl (Or.inl rfl) pe_int)
      (pss_cons (ps_for PassesOwn.never rfl (pi_tup (pv 0)) (pg_name (i := 2) sc_law_count.nd rfl (Or.inl rfl))
      (pss_one ps_never))
      (pss_one (ps_ret (pv 1))))), ?_⟩
    have e0 : ss = [] := hH
    subst e0
    cases hd with
    | @tup _ xs _ hx hxs =>
      cases hxs
      refine q_asg ev_c fun H1 e1 => ?_
      dsimp only [gName, List.set]
      refine ⟨.ref b, rfl, b, rfl, ⟨_, ex_t e1 hx⟩, ?_⟩
      refine for_tup (xs := []) (fun i σ' H' => σ' = _ ∧ H' = H1) ⟨rfl, rfl⟩ (fun i σ' H' _ hI => by rw [hI.2]; exact ex_t e1 hx) (fun i x σ' H' hx hI => nomatch hx) (fun σ' H' hI => ?_)
      rw [hI.1, hI.2]
      exact ⟨.int 0, rfl, kk H1 e1⟩

theorem ok_law_countS {fd : FuncData} {n k : Nat} (F : FnP K "_law_count" "_law_count" s_law_count (ga K "_law_count") fd) (T : Tx K w mg) (c_law_count : Cl P w K mg base CX0 k (ga K "_law_count") ["_law_body"] (spCnt K n)) : FnOk P w K mg base CX0 (k + 1) (ga K "_law_count") fd ["_law_body"] (spCnt K (n + 1)) := by
  obtain ⟨fd_law_count, G_law_count, b_law_count, kp_law_count⟩ := c_law_count
  refine FunD.ok F sc_law_count (fun vs H Q E h => ?_) (fun cdv A outer s H vs Q E hr h => ?_)
  · obtain ⟨b, ss, m, rfl, _⟩ := h
    rfl
  · obtain ⟨b, ss, m, rfl, hd, hts, hH, kk⟩ := h
    have n_sum := T.fr "sum" (by decide +kernel)
    have n_isinstance := T.fr "isinstance" (by decide +kernel)
    have n_tuple := T.fr "tuple" (by decide +kernel)
    have g_law_count := T.gl "_law_count" (by decide +kernel)
    refine ⟨_, PSs.nox (pss_cons (ps_set (i := 1) sc_law_count.nd rfl (Or.inl rfl) pe_int)
      (pss_cons (ps_for PassesOwn.never rfl (pi_tup (pv 0)) (pg_name (i := 2) sc_law_count.nd rfl (Or.inl rfl))
      (pss_one (ps_set (i := 1) sc_law_count.nd rfl (Or.inl rfl) (pe_op op_add (pe_op op_add (pv 1) pe_int) (pe_callB (cr_sum rfl) (by rfl) n_sum (by decide +kernel) (pa_cons (pe_lc (own := [("_law_part_here", 3)]) (g := gName 3) (by rfl) sc_law_count.nd (pi_tup (pe_slice sl_tup (pv 2) (po_some pe_int) po_none)) (blkOk_by (own := [("_law_part_here", 3)]) (N := ["_law_body", "_law_total", "_law_statement", "_law_part_here"]) (sc := defScope s_law_count) (by decide +kernel)) (fun _ _ _ _ _ => (pg_name (i := 3) sc_law_count.nd rfl (Or.inl rfl))) (fun _ _ _ _ _ => (pts_one (pt_val (pe_callB (call_isi : CallR _ _ (rIsi K)) (by rfl) n_isinstance (by decide +kernel) (pa_cons (pv 3) (pa_cons (pe_bltn (v := .ty "tuple") (by rfl) n_tuple (by decide +kernel) rfl) pa_nil)))))) (fun _ _ _ _ _ => (pe_call G_law_count (hr.mono (Nat.le_refl _)) (by rfl) g_law_count kp_law_count b_law_count .nil pass0 (pa_cons (pv 3) pa_nil)))) pa_nil))))))
      (pss_one (ps_ret (pv 1))))), ?_⟩
    cases hd with
    | @tup _ xs _ hx hxs =>
      have lx := dpAll_len hxs
      refine q_asg ev_c fun H1 e1 => ?_
      dsimp only [gName, List.set]
      refine ⟨.ref b, rfl, b, rfl, ⟨_, ex_t e1 hx⟩, ?_⟩
      refine for_tup (xs := xs) (fun i σ' H' => ∃ v2 v3, σ' = [some (.ref b), some (.int (((ss.take i).map fun s => 1 + ((parts s).map fun p => cnt n (bodyOf p)).sum).sum : Nat)), v2, v3] ∧ Ex H H') ⟨_, _, rfl, e1⟩ (fun i σ' H' _ hI => ?_) (fun i x σ' H' hxi hI => ?_) (fun σ' H' hI => ?_)
      · obtain ⟨v2, v3, rfl, f1⟩ := hI
        exact ex_t f1 hx
      · obtain ⟨v2, v3, rfl, f1⟩ := hI
        obtain ⟨s, hs, hxs'⟩ := dpAll_at hxs hxi
        have hsm := List.mem_of_getElem? hs
        obtain ⟨⟨wd, args, es⟩, hps⟩ := hH s hsm
        have tts := hts.at s hsm
        subst es
        cases hxs' with
        | @tup t rest0 _ ht hrest =>
          cases hrest with
          | @cons v0 rest _ _ hv0 hrest =>
            cases tts with
            | @tup m1 _ hl0 tt2 =>
              cases tt2 with
              | cons _ targs =>
                have lr := dpAll_len hrest
                simp only [List.length_cons] at hl0
                dsimp only [gName, List.set]
                refine ⟨_, rfl, _, 1, rfl, rfl, .ref t, rfl, 1, rfl, t, _, rfl, ex_t f1 ht, ?_, fun p hp => ⟨p, rfl, ⟨_, st_of upd_same⟩, fun D hD => ?_⟩⟩
                · intro h
                  have h1 := h.1
                  rw [show ((1 : Int)) = ((1 : Nat) : Int) from rfl, HT.sIx_nat] at h1
                  simp only [List.length_cons] at h1
                  omega
                have hcut : cutV (v0 :: rest) (some 1) none = rest := by
                  rw [show ((1 : Int)) = ((1 : Nat) : Int) from rfl, cut_drop]
                  rfl
                rw [hcut] at hD ⊢
                have e2 := f1.trans (Ex.new (o := .tup rest) hp)
                refine lc_tup (xs := rest) (fun i H' => Ex (upd H' p (.tup rest)) (upd H' p (.tup rest)) ∧ ∃ ns : List Nat, ns.length ≤ i ∧ Ex H H' ∧ H' p = some (.tup rest) ∧ H' D = some (.lst ((ns.map fun n : Nat => (n : Int)).map V.int)) ∧ ns = ((args.take i).filter isP).map fun q => cnt n (bodyOf q)) ⟨Ex.refl _, [], Nat.le_refl _, e2.trans (Ex.new hD), Ex.new hD _ _ upd_same, upd_same, rfl⟩ (fun j H3 _ hI => ?_) (fun j x H3 hxj hI => ?_) (fun H3 hI => ?_)
                · obtain ⟨_, ns, k1, k2, k3, k4, k5⟩ := hI
                  exact st_of k3
                · obtain ⟨_, ns, k1, k2, k3, k4, k5⟩ := hI
                  obtain ⟨di, hdi, hxd⟩ := dpAll_at hrest hxj
                  have hj := (List.getElem?_eq_some_iff.mp hdi).1
                  have hx3 := dpM k2 _ _ hxd
                  have tdi := targs.at di (List.mem_of_getElem? hdi)
                  have tk : (args.take (j + 1)).filter isP = (args.take j).filter isP ++ (if isP di = true then [di] else []) := by
                    rw [take_more hdi, List.filter_append]
                    cases hq : isP di <;> simp [hq]
                  refine ⟨rfl, go_test (b := isP di) (et_B (ev_cb (ea_cons (ev_var rfl) (ea_cons ev_c ea_nil)) fun H5 e Q2 q2 => ?_)) fun H5 e5 => ?_⟩
                  · cases di with
                    | tuple es =>
                      cases dpM e _ _ hx3 with
                      | @tup bb zs _ hzs _ => exact ⟨.ref bb, .ty "tuple", .type "tuple", .type "tuple", true, rfl, .ty _, tyx_t hzs, kit_ty (by decide +kernel), q2 H5 (Ex.refl _)⟩
                    | str z =>
                      cases hx3
                      exact ⟨.str z, .ty "tuple", .type "str", .type "tuple", false, rfl, .ty _, .base (.str z), kit_ty (by decide +kernel), q2 H5 (Ex.refl _)⟩
                    | int z =>
                      cases hx3
                      exact ⟨.int z, .ty "tuple", .type "int", .type "tuple", false, rfl, .ty _, .base (.int z), kit_ty (by decide +kernel), q2 H5 (Ex.refl _)⟩
                    | none => cases tdi
                    | bool _ => cases tdi
                    | list _ => cases tdi
                    | dict _ => cases tdi
                  · refine ite2 (fun hq => ?_) (fun hq => ?_)
                    · obtain ⟨ds, rfl, hHd⟩ := hps di (List.mem_filter.mpr ⟨List.mem_of_getElem? hdi, hq⟩)
                      cases dpM e5 _ _ hx3 with
                      | @tup bb zs _ hzs hzs2 =>
                      cases tdi with
                      | @tup m2 _ _ tds =>
                      refine ⟨.ref bb, rfl, bb, ds, _, rfl, .tup hzs hzs2, tds, hHd, fun H6 e6 => ⟨_, e6 _ _ (e5 _ _ k4), ?_, Ex.refl _, ns ++ [cnt n ds], ?_, ((k2.trans e5).trans e6).mut (fresh_back e2 hD), ?_, ?_, ?_⟩⟩
                      · rw [List.length_map, List.length_map]
                        exact small1000 (by omega)
                      · rw [List.length_append]
                        show ns.length + 1 ≤ j + 1
                        omega
                      · exact (upd_ne (fun e => by rw [e, k4] at k3; cases k3)).trans (e6 _ _ (e5 _ _ k3))
                      · rw [upd_same, List.map_append, List.map_append]
                        rfl
                      · rw [tk, if_pos hq, List.map_append, ← k5]
                        rfl
                    · refine ⟨Ex.refl _, ns, by omega, k2.trans e5, e5 _ _ k3, e5 _ _ k4, ?_⟩
                      rw [tk, if_neg hq, List.append_nil]
                      exact k5
                · obtain ⟨_, ns, k1, k2, k3, k4, k5⟩ := hI
                  rw [lr, List.take_of_length_le (Nat.le_refl _)] at k5
                  refine ⟨D, _, rfl, sq_of k4, _, _, rfl, rfl, some (.ref t), v3, ?_, k2⟩
                  have z : ((((ss.take i).map fun s => 1 + ((parts s).map fun p => cnt n (bodyOf p)).sum).sum : Nat) : Int) + 1 + (ns.map fun n : Nat => (n : Int)).sum = ((((ss.take (i + 1)).map fun s => 1 + ((parts s).map fun p => cnt n (bodyOf p)).sum).sum : Nat) : Int) := by
                    rw [sum_more _ hs, int_sum, k5]
                    show _ = (((((ss.take i).map fun s => 1 + ((parts s).map fun p => cnt n (bodyOf p)).sum).sum + (1 + ((args.filter isP).map fun p => cnt n (bodyOf p)).sum) : Nat)) : Int)
                    omega
                  show [some (V.ref b), some (V.int (_ + 1 + _)), some (V.ref t), v3] = _
                  rw [z]
      · obtain ⟨v2, v3, rfl, f1⟩ := hI
        rw [List.take_of_length_le (by omega)]
        exact ⟨_, rfl, kk H' f1⟩

end
end K05
set_option Elab.async false
set_option linter.all false
set_option maxRecDepth 100000
set_option maxHeartbeats 8000000
namespace K05
open PySem PySem.Spec PyProof.Rows L2 He XH XV XR PEN TR Evl


/-! ### expressions that give data -/
def ED (K : PySem.W.Frag) (te : TE) (σ : L2.St) (H : Hp) (d : PyData) : Prop := ∀ H1, Ex H H1 → ∀ Q : VK, (∀ v H2, Ex H1 H2 → Dp K H2 v d → Q v H2) → te σ H1 Q
def EDs (K : PySem.W.Frag) (ta : TA) (σ : L2.St) (H : Hp) (ds : List PyData) : Prop := ∀ H1, Ex H H1 → ∀ Q : List V → Hp → Prop, (∀ vs H2, Ex H1 H2 → DpAll K H2 vs ds → Q vs H2) → ta σ H1 Q
def EDL (K : PySem.W.Frag) (te : TE) (σ : L2.St) (H : Hp) (ds : List PyData) : Prop := ∀ H1, Ex H H1 → ∀ Q : VK, (∀ p vs H2, H1 p = none → Ex H1 H2 → H2 p = some (.lst vs) → DpAll K H2 vs ds → Q (.ref p) H2) → te σ H1 Q
section
variable {K : PySem.W.Frag} {σ : L2.St} {H : Hp} {te tb : TE} {ta : TA} {d : PyData} {ds es : List PyData} {i : Nat} {v : V}
theorem ed_s {z : Str} : ED K (tC (.str z)) σ H (.str z) := fun H1 e Q q => q _ H1 (Ex.refl _) (.str z)
theorem ed_var (h : σ[i]? = some (some v)) (hd : Dp K H v d) : ED K (tVar i) σ H d := fun H1 e Q q => ⟨v, h, q v H1 (Ex.refl _) (dpM e _ _ hd)⟩
theorem eds_nil : EDs K tNil σ H [] := fun H1 e Q q => q [] H1 (Ex.refl _) .nil
theorem eds_cons (h : ED K te σ H d) (r : EDs K ta σ H ds) : EDs K (tCons te ta) σ H (d :: ds) := fun H1 e Q q => h H1 e _ fun v H2 e2 d2 => r H2 (e.trans e2) _ fun vs H3 e3 d3 => q (v :: vs) H3 (e2.trans e3) (.cons (dpM e3 _ _ d2) d3)
theorem ed_tup (h : EDs K ta σ H ds) (hl : ds.length ≤ 1000) : ED K (tTup ta) σ H (.tuple ds) := fun H1 e Q q => h H1 e _ fun vs H2 e2 d2 => ⟨by rw [dpAll_len d2]; exact fits hl, fun p hp => q _ _ (e2.trans (Ex.new hp)) (.tup (st_of upd_same) (dpMs (Ex.new hp) _ _ d2))⟩
theorem edl_lst (h : EDs K ta σ H ds) (hl : ds.length ≤ 1000) : EDL K (tLst ta) σ H ds := fun H1 e Q q => h H1 e _ fun vs H2 e2 d2 => ⟨by rw [dpAll_len d2]; exact fits hl, fun p hp => q p vs _ (fresh_back e2 hp) (e2.trans (Ex.new hp)) upd_same (dpMs (Ex.new hp) _ _ d2)⟩
theorem edl_cat (h : EDL K te σ H ds) (h2 : EDL K tb σ H es) (hl : ds.length + es.length ≤ 1000) : EDL K (tOp rCat te tb) σ H (ds ++ es) := fun H1 e Q q => h H1 e _ fun p vs H2 n2 e2 g2 d2 => h2 H2 (e.trans e2) _ fun r ws H3 n3 e3 g3 d3 =>
  ⟨p, r, vs, ws, rfl, rfl, e3 _ _ g2, g3, by rw [dpAll_len d2, dpAll_len d3]; exact fits hl, fun u hu => q u _ _ (fresh_back (e2.trans e3) hu) ((e2.trans e3).trans (Ex.new hu)) upd_same (dpAll_app (dpMs (e3.trans (Ex.new hu)) _ _ d2) (dpMs (Ex.new hu) _ _ d3))⟩
theorem edl_catV {p : Addr} {vs : List V} (hs : σ[i]? = some (some (.ref p))) (g : H p = some (.lst vs)) (d : DpAll K H vs ds) (h2 : EDL K tb σ H es) (hl : ds.length + es.length ≤ 1000) : EDL K (tOp rCat (tVar i) tb) σ H (ds ++ es) := fun H1 e Q q => ⟨.ref p, hs, h2 H1 e _ fun r ws H3 n3 e3 g3 d3 =>
  ⟨p, r, vs, ws, rfl, rfl, e3 _ _ (e _ _ g), g3, by rw [dpAll_len d, dpAll_len d3]; exact fits hl, fun u hu => q u _ _ (fresh_back e3 hu) (e3.trans (Ex.new hu)) upd_same (dpAll_app (dpMs ((e.trans e3).trans (Ex.new hu)) _ _ d) (dpMs (Ex.new hu) _ _ d3))⟩⟩
theorem edl_var {p : Addr} {vs : List V} (h : σ[i]? = some (some (.ref p))) (g : H p = some (.lst vs)) (hd : DpAll K H vs ds) {Q : VK} (k : Q (.ref p) H) : tVar i σ H Q := ⟨_, h, k⟩
theorem q_asgD {tz : TS} {D : Ends} (h : EDL K te σ H ds) (k : ∀ p vs H1, H p = none → Ex H H1 → H1 p = some (.lst vs) → DpAll K H1 vs ds → tz D (σ.set i (some (.ref p))) H1) : tSeq (tAsg te (gName i)) tz D σ H := h H (Ex.refl H) _ k
end
/-! ### simple statements -/
theorem wf1 {cs rs os : List Str} {w : Str} (h : (w, []) ∈ ENT) : Wf cs rs os (.tuple [.str w]) := ⟨w, [], [], rfl, h, rfl, fun i k x h1 _ => by cases h1⟩
theorem wf2 {cs rs os : List Str} {w k z : Str} (h : (w, [k]) ∈ ENT) (hk : ¬ k = "part") (hz : z ∈ nmsOf cs rs os k) : Wf cs rs os (two w z) := by
  refine ⟨w, [k], [.str z], rfl, h, rfl, fun i k' x h1 h2 => ?_⟩
  match i, h1, h2 with
  | 0, h1, h2 =>
    cases h1
    cases h2
    unfold fitsP
    rw [if_neg hk]
    exact ⟨z, rfl, hz⟩
  | i + 1, h1, h2 => cases h1
def wordS : PyData → Str
  | .tuple (.str w :: _) => w
  | _ => ""
/-- a statement without parts; again and out only where one may -/
def SimOk (cs rs os : List Str) (lp : Bool) (s : PyData) : Prop := Wf cs rs os s ∧ parts s = [] ∧ Tt 2 s ∧ (wordS s ∈ RND → lp = true)
def DeedOk (cs rs os : List Str) (s : PyData) : Prop := Wf cs rs os s ∧ parts s = [] ∧ Tt 2 s ∧ wordS s ∈ CHG
theorem DeedOk.sim {cs rs os : List Str} {lp : Bool} {s : PyData} (h : DeedOk cs rs os s) : SimOk cs rs os lp s := ⟨h.1, h.2.1, h.2.2.1, fun k => absurd k ((show ∀ w ∈ CHG, w ∉ RND by decide +kernel) _ h.2.2.2)⟩
theorem tt_two {w z : Str} (h1 : w.length ≤ 1000) (h2 : z.length ≤ 1000) : Tt 2 (two w z) := .tup (show 2 ≤ 100 by decide) (.cons (.str h1) (.cons (.str h2) .nil))
theorem deed_two {cs rs os : List Str} {w k z : Str} (h : (w, [k]) ∈ ENT) (hk : ¬ k = "part") (hz : z ∈ nmsOf cs rs os k) (hl : z.length ≤ 1000) (hw : w ∈ CHG) : DeedOk cs rs os (two w z) := ⟨wf2 h hk hz, rfl, tt_two ((show ∀ w ∈ CHG, w.length ≤ 1000 by decide +kernel) w hw) hl, hw⟩
theorem deeds_ok {cs rs os : List Str} (hl : ∀ z ∈ cs ++ rs ++ os, z.length ≤ 12) : ∀ d ∈ deeds cs rs, DeedOk cs rs os d := by
  intro d hd
  unfold deeds at hd
  rcases List.mem_append.mp hd with h | h
  · obtain ⟨z, hz, h⟩ := List.mem_flatMap.mp h
    have l := hl z (List.mem_append_left _ (List.mem_append_left _ hz))
    unfold deedsC at h
    simp only [List.mem_cons, List.not_mem_nil, or_false] at h
    rcases h with rfl | rfl | rfl | rfl
    · exact deed_two (k := "cell") (by decide +kernel) (by decide +kernel) hz (by omega) (by decide +kernel)
    · exact deed_two (k := "cell") (by decide +kernel) (by decide +kernel) hz (by omega) (by decide +kernel)
    · exact deed_two (k := "cell") (by decide +kernel) (by decide +kernel) hz (by omega) (by decide +kernel)
    · exact deed_two (k := "cell") (by decide +kernel) (by decide +kernel) hz (by omega) (by decide +kernel)
  · obtain ⟨z, hz, h⟩ := List.mem_flatMap.mp h
    have l := hl z (List.mem_append_left _ (List.mem_append_right _ hz))
    have e : nmsOf cs rs os "row" = rs := by
      unfold nmsOf
      rw [if_neg (by decide +kernel), if_pos rfl]
    unfold deedsR at h
    simp only [List.mem_cons, List.not_mem_nil, or_false] at h
    rcases h with rfl | rfl | rfl | rfl
    · exact deed_two (k := "row") (by decide +kernel) (by decide +kernel) (by rw [e]; exact hz) (by omega) (by decide +kernel)
    · exact deed_two (k := "row") (by decide +kernel) (by decide +kernel) (by rw [e]; exact hz) (by omega) (by decide +kernel)
    · exact deed_two (k := "row") (by decide +kernel) (by decide +kernel) (by rw [e]; exact hz) (by omega) (by decide +kernel)
    · exact deed_two (k := "row") (by decide +kernel) (by decide +kernel) (by rw [e]; exact hz) (by omega) (by decide +kernel)
def rare1 : List PyData := [two "stop" "found", two "stop" "none", .tuple [.str "fault"], .tuple [.str "may"], .tuple [.str "may"]]
def rare2 : List PyData := [two "answer" "copy", two "answer" "view"]
def rare3 : List PyData := [.tuple [.str "again"], .tuple [.str "out"]]
theorem sim1 {cs rs os : List Str} {lp : Bool} {w : Str} (h : (w, []) ∈ ENT) (hl : w.length ≤ 1000) (hw : w ∈ RND → lp = true) : SimOk cs rs os lp (.tuple [.str w]) := ⟨wf1 h, rfl, .tup (show 1 ≤ 100 by decide) (.cons (.str hl) .nil), hw⟩
theorem sim2 {cs rs os : List Str} {lp : Bool} {w k z : Str} (h : (w, [k]) ∈ ENT) (hk : ¬ k = "part") (hz : z ∈ nmsOf cs rs os k) (hl : w.length ≤ 1000) (hl2 : z.length ≤ 1000) (hw : w ∉ RND) : SimOk cs rs os lp (two w z) := ⟨wf2 h hk hz, rfl, tt_two hl hl2, fun e => absurd e hw⟩
theorem rare_ok (cs rs os : List Str) (lp : Bool) : ∀ d ∈ rare1 ++ rare2, SimOk cs rs os lp d := by
  intro d hd
  unfold rare1 rare2 at hd
  simp only [List.cons_append, List.nil_append, List.mem_cons, List.not_mem_nil, or_false] at hd
  have e1 : ∀ a b c : List Str, nmsOf a b c "end" = [("found" : Str), "none"] := fun a b c => by
    unfold nmsOf
    rw [if_neg (by decide +kernel), if_neg (by decide +kernel), if_neg (by decide +kernel), if_neg (by decide +kernel), if_pos rfl]
  have e2 : ∀ a b c : List Str, nmsOf a b c "how" = [("copy" : Str), "view"] := fun a b c => by
    unfold nmsOf
    rw [if_neg (by decide +kernel), if_neg (by decide +kernel), if_neg (by decide +kernel), if_pos rfl]
  rcases hd with rfl | rfl | rfl | rfl | rfl | rfl | rfl
  · exact sim2 (k := "end") (by decide +kernel) (by decide +kernel) (by rw [e1]; decide +kernel) (by decide +kernel) (by decide +kernel) (by decide +kernel)
  · exact sim2 (k := "end") (by decide +kernel) (by decide +kernel) (by rw [e1]; decide +kernel) (by decide +kernel) (by decide +kernel) (by decide +kernel)
  · exact sim1 (by decide +kernel) (by decide +kernel) (fun h => absurd h (by decide +kernel))
  · exact sim1 (by decide +kernel) (by decide +kernel) (fun h => absurd h (by decide +kernel))
  · exact sim1 (by decide +kernel) (by decide +kernel) (fun h => absurd h (by decide +kernel))
  · exact sim2 (k := "how") (by decide +kernel) (by decide +kernel) (by rw [e2]; decide +kernel) (by decide +kernel) (by decide +kernel) (by decide +kernel)
  · exact sim2 (k := "how") (by decide +kernel) (by decide +kernel) (by rw [e2]; decide +kernel) (by decide +kernel) (by decide +kernel) (by decide +kernel)
theorem rare3_ok (cs rs os : List Str) : ∀ d ∈ rare3, SimOk cs rs os true d := by
  intro d hd
  unfold rare3 at hd
  simp only [List.mem_cons, List.not_mem_nil, or_false] at hd
  rcases hd with rfl | rfl
  · exact sim1 (by decide +kernel) (by decide +kernel) (fun _ => rfl)
  · exact sim1 (by decide +kernel) (by decide +kernel) (fun _ => rfl)
def Nms (cs rs os : List Str) : Prop := NamesOk (cs ++ rs ++ os) ∧ (cs.length ≤ 3 ∧ rs.length ≤ 2 ∧ os.length ≤ 3) ∧ os ≠ []
def spSim (K : PySem.W.Frag) : Sp := fun vs H Q _ => ∃ p l pl cs rs os lp b, vs = [.ref p, .ref pl, .bl lp] ∧ Pl K H pl cs rs os ∧ Nms cs rs os ∧ Pen p l (b + 2) H ∧ ∀ v s H', Px p l H H' → Pen p l b H' → Dp K H' v s → SimOk cs rs os lp s → Q v H'
/-- what a pick of data gives -/
theorem pick_data {K : PySem.W.Frag} {H H' : Hp} {p l : Addr} {n : Nat} {xs : List V} {ds : List PyData} {v : V} (hP : Pen p l n H) (px : Px p l H H') (hd : DpAll K H xs ds) (ht : ∀ d ∈ ds, ∃ m, Tt m d) (hv : v ∈ xs) : ∃ d ∈ ds, Dp K H' v d := by
  obtain ⟨i, hi⟩ := List.mem_iff_getElem?.mp hv
  obtain ⟨d, h1, h2⟩ := dpAll_at hd hi
  have hm := List.mem_of_getElem? h1
  obtain ⟨m, tm⟩ := ht d hm
  exact ⟨d, hm, dp_px hP px tm h2⟩
theorem lay_deeds {l : List PyData} (h : ∀ d ∈ l, ∃ w z, d = two w z ∧ PyData.strOk w = true ∧ PyData.strOk z = true) : PyData.canLayAll0 l = true ∧ PyData.depthAll l ≤ 2 := by
  induction l with
  | nil => exact ⟨by simp [PyData.canLayAll0], by simp [PyData.depthAll]⟩
  | cons d r ih =>
    obtain ⟨k1, k2⟩ := ih fun x hx => h x (List.mem_cons_of_mem _ hx)
    obtain ⟨w, z, rfl, a1, a2⟩ := h d List.mem_cons_self
    refine ⟨by simp [PyData.canLayAll0, PyData.canLay0, two, k1, a1, a2], ?_⟩
    simp only [PyData.depthAll, PyData.depth, two]
    omega
theorem shp_deeds {cs rs os : List Str} (h : NamesOk (cs ++ rs ++ os)) : SeqAt.shaped (.list (deeds cs rs)) = true := by
  have k : ∀ d ∈ deeds cs rs, ∃ w z, d = two w z ∧ PyData.strOk w = true ∧ PyData.strOk z = true := by
    intro d hd
    unfold deeds at hd
    have wk : ∀ w ∈ CHG, PyData.strOk w = true := by decide +kernel
    rcases List.mem_append.mp hd with g | g
    · obtain ⟨z, hz, g⟩ := List.mem_flatMap.mp g
      have zk := let_ok (h.2 z (List.mem_append_left _ (List.mem_append_left _ hz))).1
      unfold deedsC at g
      simp only [List.mem_cons, List.not_mem_nil, or_false] at g
      rcases g with rfl | rfl | rfl | rfl
      · exact ⟨_, _, rfl, wk _ (by decide +kernel), zk⟩
      · exact ⟨_, _, rfl, wk _ (by decide +kernel), zk⟩
      · exact ⟨_, _, rfl, wk _ (by decide +kernel), zk⟩
      · exact ⟨_, _, rfl, wk _ (by decide +kernel), zk⟩
    · obtain ⟨z, hz, g⟩ := List.mem_flatMap.mp g
      have zk := let_ok (h.2 z (List.mem_append_left _ (List.mem_append_right _ hz))).1
      unfold deedsR at g
      simp only [List.mem_cons, List.not_mem_nil, or_false] at g
      rcases g with rfl | rfl | rfl | rfl
      · exact ⟨_, _, rfl, wk _ (by decide +kernel), zk⟩
      · exact ⟨_, _, rfl, wk _ (by decide +kernel), zk⟩
      · exact ⟨_, _, rfl, wk _ (by decide +kernel), zk⟩
      · exact ⟨_, _, rfl, wk _ (by decide +kernel), zk⟩
  obtain ⟨k1, k2⟩ := lay_deeds k
  unfold SeqAt.shaped
  rw [Bool.and_eq_true]
  refine ⟨by simp [PyData.canLay0, k1], decide_eq_true ?_⟩
  simp only [PyData.depth]
  omega

section
variable {P : Program} {w : World} {K : PySem.W.Frag} {mg : Str → Option Value} {base : Heap}

theorem ok_law_simple {fd : FuncData} (F : FnP K "_law_simple" "_law_simple" s_law_simple (ga K "_law_simple") fd) (T : Tx K w mg) (c_law_deeds : Cl P w K mg base CX0 1 (ga K "_law_deeds") ["_law_plan_here"] (spDeeds K)) (c_law_draw : Cl P w K mg base CX0 1 (ga K "_law_draw") ["_law_pen", "_law_many"] spDraw) (c_law_pick : Cl P w K mg base CX0 2 (ga K "_law_pick") ["_law_pen", "_law_row"] (spPick K)) : FnOk P w K mg base CX0 (2 + 1) (ga K "_law_simple") fd ["_law_pen", "_law_plan_here", "_law_looping"] (spSim K) := by
  obtain ⟨fd_law_deeds, G_law_deeds, b_law_deeds, kp_law_deeds⟩ := c_law_deeds
  obtain ⟨fd_law_draw, G_law_draw, b_law_draw, kp_law_draw⟩ := c_law_draw
  obtain ⟨fd_law_pick, G_law_pick, b_law_pick, kp_law_pick⟩ := c_law_pick
  refine FunD.ok F sc_law_simple (fun vs H Q E h => ?_) (fun cdv A outer s H vs Q E hr h => ?_)
  · obtain ⟨p, l, pl, cs, rs, os, lp, b, rfl, _⟩ := h
    rfl
  · obtain ⟨p, l, pl, cs, rs, os, lp, b, rfl, hPl, hN, hP, kk⟩ := h
    have g_law_deeds := T.gl "_law_deeds" (by decide +kernel)
    have g_law_draw := T.gl "_law_draw" (by decide +kernel)
    have g_law_pick := T.gl "_law_pick" (by decide +kernel)
    refine ⟨_, PSs.nox (pss_cons (ps_set (i := 3) sc_law_simple.nd rfl (Or.inl rfl) (pe_call G_law_deeds (hr.mono (by decide)) (by rfl) g_law_deeds kp_law_deeds b_law_deeds .nil pass0 (pa_cons (pv 1) pa_nil)))
      (pss_cons (ps_set (i := 4) sc_law_simple.nd rfl (Or.inl rfl) (pe_call G_law_draw (hr.mono (by decide)) (by rfl) g_law_draw kp_law_draw b_law_draw .nil pass0 (pa_cons (pv 0) (pa_cons pe_int pa_nil))))
      (pss_cons (ps_if (PW.pt (pw_and (pt_cmpR op_lt (pv 4) pe_int (nomark _)) (pw_and1 (pt_cmpR (op_neD hr.units) (pv 3) (pe_lst pa_nil) (nomark _)))))
      (pss_one (ps_ret (pe_call G_law_pick (hr.mono (by decide)) (by rfl) g_law_pick kp_law_pick b_law_pick .nil pass0 (pa_cons (pv 0) (pa_cons (pv 3) pa_nil)))))
      pss_nil)
      (pss_cons (ps_if (pt_cmpR op_lt (pv 4) pe_int (nomark _))
      (pss_one (ps_ret (pe_tup (pa_cons pe_str (pa_cons (pe_call G_law_pick (hr.mono (by decide)) (by rfl) g_law_pick kp_law_pick b_law_pick .nil pass0 (pa_cons (pv 0) (pa_cons (pe_dget (Nat.lt_of_le_of_lt (Nat.add_le_add_left (by decide) _) hr.units) (pv 1) pe_str (fun _ _ => rfl)) pa_nil))) pa_nil)))))
      pss_nil)
      (pss_cons (ps_set (i := 5) sc_law_simple.nd rfl (Or.inl rfl) (pe_lst (pa_cons (pe_tup (pa_cons pe_str (pa_cons pe_str pa_nil))) (pa_cons (pe_tup (pa_cons pe_str (pa_cons pe_str pa_nil))) (pa_cons (pe_tup (pa_cons pe_str pa_nil)) (pa_cons (pe_tup (pa_cons pe_str pa_nil)) (pa_cons (pe_tup (pa_cons pe_str pa_nil)) pa_nil)))))))
      (pss_cons (ps_set (i := 5) sc_law_simple.nd rfl (Or.inl rfl) (pe_op op_cat (pv 5) (pe_lst (pa_cons (pe_tup (pa_cons pe_str (pa_cons pe_str pa_nil))) (pa_cons (pe_tup (pa_cons pe_str (pa_cons pe_str pa_nil))) pa_nil)))))
      (pss_cons (ps_if (pt_val (pv 2))
      (pss_one (ps_set (i := 5) sc_law_simple.nd rfl (Or.inl rfl) (pe_op op_cat (pv 5) (pe_lst (pa_cons (pe_tup (pa_cons pe_str pa_nil)) (pa_cons (pe_tup (pa_cons pe_str pa_nil)) pa_nil))))))
      pss_nil)
      (pss_one (ps_ret (pe_call G_law_pick (hr.mono (by decide)) (by rfl) g_law_pick kp_law_pick b_law_pick .nil pass0 (pa_cons (pv 0) (pa_cons (pv 5) pa_nil)))))))))))), ?_⟩
    obtain ⟨hok, ⟨z1, z2, z3⟩, hne⟩ := hN
    refine ⟨.ref pl, rfl, pl, cs, rs, os, rfl, hPl, z1, z2, fun q ys H1 hq e1 g1 d1 => ?_⟩
    dsimp only [gName, List.set]
    have nq : q ≠ p ∧ q ≠ l := hP.new hq
    have hl12 : ∀ z ∈ cs ++ rs ++ os, z.length ≤ 12 := fun z hz => (hok.2 z hz).2.2
    have dok := deeds_ok hl12
    refine ⟨.ref p, rfl, p, l, 10, b + 1, rfl, ⟨by decide, by decide⟩, hP.ex e1, fun r H2 hr2 px2 pen2 => ?_⟩
    have px := (Px.of (p := p) (l := l) e1).trans px2
    have g2 := px2.get nq.1 nq.2 g1
    have tds : ∀ d ∈ deeds cs rs, ∃ m, Tt m d := fun d hd => ⟨2, (dok d hd).2.2.1⟩
    have d2 : DpAll K H2 ys (deeds cs rs) := dps_px (hP.ex e1) px2 (Tts.of fun d hd => (dok d hd).2.2.1) d1
    have fin : ∀ {R : Addr} {vs : List V} {ds : List PyData} {H3 : Hp} {σ : L2.St} {D : Ends}, σ[0]? = some (some (.ref p)) → σ[5]? = some (some (.ref R)) → H3 R = some (.lst vs) → DpAll K H3 vs ds → (∀ d ∈ ds, SimOk cs rs os lp d) → ds ≠ [] → ds.length ≤ 100 → (R ≠ p ∧ R ≠ l) → Px p l H H3 → Pen p l (b + 1) H3 → D.rt = Q →
        tRet (tCall (spPick K) [] E0 (tCons (tVar 0) (tCons (tVar 5) tNil))) D σ H3 := by
      intro R vs ds H3 σ D s0 s5 gR dR ok ne len nR pxR penR hD
      have lv := dpAll_len dR
      refine ⟨.ref p, s0, .ref R, s5, p, l, R, vs, b, rfl, sq_of ((cut_at nR.1 nR.2).trans gR), ⟨?_, by omega⟩, penR.less (by omega), fun v H4 hv px4 pen4 => ?_⟩
      · intro e
        rw [e] at lv
        exact ne (List.length_eq_zero_iff.mp lv.symm)
      · obtain ⟨d, hd, dv⟩ := pick_data penR px4 dR (fun d hd => ⟨2, (ok d hd).2.2.1⟩) hv
        rw [hD]
        exact kk v d H4 (pxR.trans px4) pen4 dv (ok d hd)
    dsimp only [gName, List.set]
    refine q_when (b := decide (r < 5) && !PyData.eqv (.list (deeds cs rs)) (.list [])) (et_and (et_test (ev_op (ev_var rfl) ev_c rv_I0)) fun _ => et_test (ev_opL (ev_var rfl) (el_lst ea_nil (by decide)) fun u H3 hu e H4 e4 R k => ⟨.list (deeds cs rs), .list [], .lst (sq_of (e4 _ _ (e _ _ g2))) (dpMs (e.trans e4) _ _ d2), .lst (sq_of (e4 _ _ hu)) .nil, shp_deeds hok, by decide +kernel, k H4 (Ex.refl _)⟩)) (fun hb H3 e3 => ?_) (fun hb H3 e3 => ?_)
    · rw [Bool.and_eq_true] at hb
      have lv := dpAll_len d2
      have ne : deeds cs rs ≠ [] := by
        intro e
        rw [e] at hb
        exact absurd hb.2 (by decide +kernel)
      refine ⟨.ref p, rfl, .ref q, rfl, p, l, q, ys, b, rfl, sq_of ((cut_at nq.1 nq.2).trans (e3 _ _ g2)), ⟨?_, ?_⟩, (pen2.ex e3).less (by omega), fun v H4 hv px4 pen4 => ?_⟩
      · intro e
        rw [e] at lv
        exact ne (List.length_eq_zero_iff.mp lv.symm)
      · rw [lv]
        unfold deeds
        rw [List.length_append, flat_len (b := 4) (fun _ => rfl), flat_len (b := 4) (fun _ => rfl)]
        omega
      · obtain ⟨d, hd, dv⟩ := pick_data (pen2.ex e3) px4 (dpMs e3 _ _ d2) tds hv
        exact kk v d H4 ((px.trans (Px.of e3)).trans px4) pen4 dv (dok d hd).sim
    · have px3 := px.trans (Px.of (p := p) (l := l) e3)
      have pen3 := pen2.ex e3
      refine q_when (b := decide (r < 8)) (et_test (ev_op (ev_var rfl) ev_c rv_I0)) (fun hb H4 e4 => ?_) (fun hb H4 e4 => ?_)
      · have px4 := px3.trans (Px.of (p := p) (l := l) e4)
        obtain ⟨kvs, c, r', o, h0, h1, h2, h3, h4, h5, h6⟩ := hPl.px hP px4
        have no := strs_off (pen3.ex e4) h6
        refine ⟨.ref p, rfl, .ref pl, rfl, pl, .ref o, rfl, .inl ⟨kvs, Sum.inr "order", .inl h0, rfl, h3.symm⟩, p, l, o, _, b, rfl, sq_of ((cut_at no.1 no.2).trans h6), ⟨?_, ?_⟩, (pen3.ex e4).less (by omega), fun v H5 hv px5 pen5 => ⟨(show 2 ≤ sizeLine by decide), fun t ht => ?_⟩⟩
        · intro e
          exact hne (List.map_eq_nil_iff.mp e)
        · rw [List.length_map]
          omega
        · obtain ⟨z, hz, rfl⟩ := List.mem_map.mp hv
          refine kk (.ref t) (two "deeper" z) _ ((px4.trans px5).trans (Px.of (Ex.new ht))) (pen5.ex (Ex.new ht)) (.tup (st_of upd_same) (.cons (.str _) (.cons (.str _) .nil))) (sim2 (k := "function") (by decide +kernel) (by decide +kernel) ?_ (by decide +kernel) ?_ (by decide +kernel))
          · unfold nmsOf
            rw [if_neg (by decide +kernel), if_neg (by decide +kernel), if_pos rfl]
            exact hz
          · have k := hl12 z (List.mem_append_right _ hz)
            omega
      · have px4 := px3.trans (Px.of (p := p) (l := l) e4)
        have pen4 := pen3.ex e4
        refine q_asgD (K := K) (ds := rare1) (edl_lst (eds_cons (ed_tup (eds_cons ed_s (eds_cons ed_s eds_nil)) (show 2 ≤ 1000 by decide)) (eds_cons (ed_tup (eds_cons ed_s (eds_cons ed_s eds_nil)) (show 2 ≤ 1000 by decide)) (eds_cons (ed_tup (eds_cons ed_s eds_nil) (show 1 ≤ 1000 by decide)) (eds_cons (ed_tup (eds_cons ed_s eds_nil) (show 1 ≤ 1000 by decide)) (eds_cons (ed_tup (eds_cons ed_s eds_nil) (show 1 ≤ 1000 by decide)) eds_nil))))) (show 5 ≤ 1000 by decide)) fun R1 vs1 H5 hR1 e5 gR1 dR1 => ?_
        refine q_asgD (K := K) (ds := rare1 ++ rare2) (edl_catV rfl gR1 dR1 (edl_lst (eds_cons (ed_tup (eds_cons ed_s (eds_cons ed_s eds_nil)) (show 2 ≤ 1000 by decide)) (eds_cons (ed_tup (eds_cons ed_s (eds_cons ed_s eds_nil)) (show 2 ≤ 1000 by decide)) eds_nil)) (show 2 ≤ 1000 by decide)) (show 5 + 2 ≤ 1000 by decide)) fun R2 vs2 H6 hR2 e6 gR2 dR2 => ?_
        have px6 := px4.trans (Px.of (p := p) (l := l) (e5.trans e6))
        have pen6 := pen4.ex (e5.trans e6)
        refine q_when (b := lp) (et_B (ev_var rfl)) (fun hb H7 e7 => ?_) (fun hb H7 e7 => ?_)
        · refine (edl_catV (K := K) (ds := rare1 ++ rare2) (es := rare3) rfl (e7 _ _ gR2) (dpMs e7 _ _ dR2) (edl_lst (eds_cons (ed_tup (eds_cons ed_s eds_nil) (show 1 ≤ 1000 by decide)) (eds_cons (ed_tup (eds_cons ed_s eds_nil) (show 1 ≤ 1000 by decide)) eds_nil)) (show 2 ≤ 1000 by decide)) (show 7 + 2 ≤ 1000 by decide)) H7 (Ex.refl _) _ fun R3 vs3 H8 hR3 e8 gR3 dR3 => ?_
          have nR := (pen6.ex e7).new hR3
          refine fin rfl rfl gR3 dR3 (fun d hd => ?_) (by decide +kernel) (show 9 ≤ 100 by decide) nR (px6.trans (Px.of (e7.trans e8))) (((pen6.ex e7).ex e8).less (by omega)) rfl
          rcases List.mem_append.mp hd with h | h
          · exact rare_ok cs rs os lp d h
          · rw [hb]
            exact rare3_ok cs rs os d h
        · have nR := (pen4.ex e5).new hR2
          exact fin rfl rfl (e7 _ _ gR2) (dpMs e7 _ _ dR2) (rare_ok cs rs os lp) (by decide +kernel) (show 7 ≤ 100 by decide) nR (px6.trans (Px.of e7)) ((pen6.ex e7).less (by omega)) rfl

end
end K05
set_option Elab.async false
set_option linter.all false
set_option maxRecDepth 100000
set_option maxHeartbeats 8000000
namespace K05
open PySem PySem.Spec PyProof.Rows L2 He XH XV XR PEN TR Evl


/-! ### parts and blocks as they are drawn -/
def Val (cs rs os : List Str) : Nat → List (Str × Nat) → List PyData → Prop
  | 0, _, ss => ss = []
  | n + 1, ps, ss => ∀ s ∈ ss, Wf cs rs os s ∧ Placed (wordS s) ps ∧ (parts s ≠ [] → ps.length ≤ 2) ∧ ∀ (j : Nat) (p : PyData), (parts s)[j]? = some p → ∃ ds, p = .tuple ds ∧ Val cs rs os n (ps ++ [(wordS s, j)]) ds
def Ctx (lp : Bool) (ps : List (Str × Nat)) : Prop := (lp = true → ("tries" : Str) ∈ ps.map (·.1)) ∧ (("lastly" : Str), (1 : Nat)) ∉ ps ∧ ∀ p ∈ ps, p.1 ∈ words
def Pn : Nat → Nat
  | 0 => 0
  | n + 1 => 1 + 14 * (12 + 2 * Pn n)
theorem Val.hb {cs rs os : List Str} : ∀ {n : Nat} {ps : List (Str × Nat)} {ss : List PyData}, Val cs rs os n ps ss → Hb n ss
  | 0, _, _, h => h
  | n + 1, ps, ss, h => fun s hs => by
    obtain ⟨hw, _, _, hp⟩ := h s hs
    obtain ⟨w, ks, args, e, _⟩ := hw
    refine ⟨⟨_, _, e⟩, fun p hpm => ?_⟩
    obtain ⟨j, hj⟩ := List.mem_iff_getElem?.mp hpm
    obtain ⟨ds, e2, hv⟩ := hp j p hj
    exact ⟨ds, e2, hv.hb⟩
/-- a drawn part -/
structure PartOk (cs rs os : List Str) (n : Nat) (ps : List (Str × Nat)) (room : Nat) (ss : List PyData) : Prop where
  val : Val cs rs os n ps ss
  tt : Tts (2 * n) ss
  few : cnt n ss ≤ room
def spPart (K : PySem.W.Frag) (n : Nat) : Sp := fun vs H Q _ => ∃ p l pl cs rs os room lp d ps b, vs = [.ref p, .ref pl, .int (room : Nat), .bl lp, .int (d : Nat)] ∧ Pl K H pl cs rs os ∧ Nms cs rs os ∧ (room ≤ 14 ∧ n + d = 4 ∧ ps.length = d) ∧ Ctx lp ps ∧ Pen p l (b + Pn n) H ∧
  ∀ a ss H', Px p l H H' → Pen p l b H' → Dp K H' (.ref a) (.tuple ss) → PartOk cs rs os n ps room ss → Q (.ref a) H'
def spBlk (K : PySem.W.Frag) (n : Nat) : Sp := fun vs H Q _ => ∃ p l pl cs rs os left lp d ps b, vs = [.ref p, .ref pl, .int (left : Nat), .bl lp, .int (d : Nat)] ∧ Pl K H pl cs rs os ∧ Nms cs rs os ∧ (1 ≤ left ∧ left ≤ 14 ∧ n + 1 + d = 4 ∧ ps.length = d ∧ 1 ≤ n) ∧ Ctx lp ps ∧ Pen p l (b + (8 + 2 * Pn n)) H ∧
  ∀ a s H', Px p l H H' → Pen p l b H' → Dp K H' (.ref a) s → Val cs rs os (n + 1) ps [s] → Tt (2 * n + 2) s → cnt (n + 1) [s] ≤ left → Q (.ref a) H'
theorem ctx_more {lp lp' : Bool} {ps : List (Str × Nat)} {w : Str} {j : Nat} (h : Ctx lp ps) (hw : w ∈ words) (hl : ¬ (w = "lastly" ∧ j = 1)) (hlp : lp' = true → lp = true ∨ w = "tries") : Ctx lp' (ps ++ [(w, j)]) := by
  obtain ⟨h1, h2, h3⟩ := h
  refine ⟨fun e => ?_, fun hm => ?_, fun p hp => ?_⟩
  · rw [List.map_append]
    rcases hlp e with k | k
    · exact List.mem_append_left _ (h1 k)
    · rw [k]
      exact List.mem_append_right _ List.mem_cons_self
  · rcases List.mem_append.mp hm with k | k
    · exact h2 k
    · have e := List.mem_singleton.mp k
      exact hl ⟨(congrArg Prod.fst e).symm, (congrArg Prod.snd e).symm⟩
  · rcases List.mem_append.mp hp with k | k
    · exact h3 p k
    · rw [List.mem_singleton.mp k]
      exact hw
theorem cnt_one {n : Nat} {s : PyData} : cnt (n + 1) [s] = 1 + ((parts s).map fun p => cnt n (bodyOf p)).sum := by
  show (1 + _) + 0 = _
  omega
theorem placed_blk {w : Str} {lp : Bool} {ps : List (Str × Nat)} (h : Ctx lp ps) (hw : w ∉ RND) : Placed w ps := ⟨fun k => absurd k hw, fun k => absurd k h.2.1⟩
/-- deeds as a second part of a lastly -/
theorem val_deeds {cs rs os : List Str} {n : Nat} {ps : List (Str × Nat)} {l : List PyData} (h : ∀ d ∈ l, DeedOk cs rs os d) (hn : 1 ≤ n) : Val cs rs os n ps l := by
  match n, hn with
  | n + 1, _ =>
    intro s hs
    obtain ⟨a1, a2, a3, a4⟩ := h s hs
    have nr := (show ∀ w ∈ CHG, w ∉ RND by decide +kernel) _ a4
    refine ⟨a1, ⟨fun k => absurd k nr, fun _ => a4⟩, fun k => absurd a2 k, fun j p hp => ?_⟩
    rw [a2] at hp
    cases hp
/-- a block of a word and two parts; of one; of a cell and two parts -/
theorem wf_b2 {cs rs os : List Str} {w : Str} {xs ys : List PyData} (h : (w, [("part" : Str), "part"]) ∈ ENT) : Wf cs rs os (.tuple [.str w, .tuple xs, .tuple ys]) := by
  refine ⟨w, _, [.tuple xs, .tuple ys], rfl, h, rfl, fun i k x h1 h2 => ?_⟩
  match i, h1, h2 with
  | 0, h1, h2 => cases h1; cases h2; unfold fitsP; rw [if_pos rfl]; rfl
  | 1, h1, h2 => cases h1; cases h2; unfold fitsP; rw [if_pos rfl]; rfl
  | i + 2, h1, h2 => cases h1
theorem wf_b1 {cs rs os : List Str} {w : Str} {xs : List PyData} (h : (w, [("part" : Str)]) ∈ ENT) : Wf cs rs os (.tuple [.str w, .tuple xs]) := by
  refine ⟨w, _, [.tuple xs], rfl, h, rfl, fun i k x h1 h2 => ?_⟩
  match i, h1, h2 with
  | 0, h1, h2 => cases h1; cases h2; unfold fitsP; rw [if_pos rfl]; rfl
  | i + 1, h1, h2 => cases h1
theorem wf_b3 {cs rs os : List Str} {z : Str} {xs ys : List PyData} (hz : z ∈ cs) : Wf cs rs os (.tuple [.str "look", .str z, .tuple xs, .tuple ys]) := by
  refine ⟨"look", _, [.str z, .tuple xs, .tuple ys], rfl, (show (("look" : Str), [("cell" : Str), "part", "part"]) ∈ ENT by decide +kernel), rfl, fun i k x h1 h2 => ?_⟩
  match i, h1, h2 with
  | 0, h1, h2 => cases h1; cases h2; unfold fitsP; rw [if_neg (by decide +kernel)]; exact ⟨z, rfl, hz⟩
  | 1, h1, h2 => cases h1; cases h2; unfold fitsP; rw [if_pos rfl]; rfl
  | 2, h1, h2 => cases h1; cases h2; unfold fitsP; rw [if_pos rfl]; rfl
  | i + 3, h1, h2 => cases h1
def bwords : List Str := ["tries", "tries", "either", "told", "look", "guard", "lastly"]
theorem bw_words : ∀ w ∈ bwords, w ∈ words ∧ w ∉ RND ∧ w.length ≤ 1000 := by
  have k : ∀ w ∈ bwords, w ∈ words ∧ w ∉ RND ∧ decide (w.length ≤ 1000) = true := by decide +kernel
  exact fun w h => ⟨(k w h).1, (k w h).2.1, of_decide_eq_true (k w h).2.2⟩


theorem len_cnt {n : Nat} {ss : List PyData} : ss.length ≤ cnt (n + 1) ss := by
  show ss.length ≤ (ss.map _).sum
  induction ss with
  | nil => exact Nat.zero_le _
  | cons x r ih =>
    rw [List.map_cons, List.sum_cons, List.length_cons]
    omega
theorem len_cnt' {n : Nat} {ss : List PyData} (h : 1 ≤ n) : ss.length ≤ cnt n ss := by
  match n, h with
  | n + 1, _ => exact len_cnt
section
variable {cs rs os : List Str} {n d left : Nat} {ps : List (Str × Nat)} {lp : Bool} {w z : Str} {ss1 ss2 : List PyData}
theorem blk1 (hc : Ctx lp ps) (hn : n + 1 + d = 4 ∧ ps.length = d ∧ 1 ≤ n ∧ left ≤ 14) (v1 : Val cs rs os n (ps ++ [(("tries" : Str), (0 : Nat))]) ss1) (t1 : Tts (2 * n) ss1) (c : 1 + cnt n ss1 ≤ left) :
    Val cs rs os (n + 1) ps [.tuple [.str "tries", .tuple ss1]] ∧ Tt (2 * n + 2) (.tuple [.str "tries", .tuple ss1]) ∧ cnt (n + 1) [.tuple [.str "tries", .tuple ss1]] ≤ left := by
  have l1 := len_cnt' (ss := ss1) hn.2.2.1
  refine ⟨fun s hs => ?_, .tup (show 2 ≤ 100 by decide) (.cons (.str (by decide +kernel)) (.cons (.tup (by omega) t1) .nil)), ?_⟩
  · rw [List.mem_singleton.mp hs]
    refine ⟨wf_b1 (by decide +kernel), placed_blk hc (w := "tries") (by decide +kernel), fun _ => by omega, fun j p hj => ?_⟩
    match j, hj with
    | 0, hj => cases hj; exact ⟨ss1, rfl, v1⟩
    | j + 1, hj => cases hj
  · rw [cnt_one]
    show 1 + (cnt n ss1 + 0) ≤ left
    omega
theorem blk2 (hw : w ∈ bwords) (he : (w, [("part" : Str), "part"]) ∈ ENT) (hc : Ctx lp ps) (hn : n + 1 + d = 4 ∧ ps.length = d ∧ 1 ≤ n ∧ left ≤ 14) (v1 : Val cs rs os n (ps ++ [(w, 0)]) ss1) (t1 : Tts (2 * n) ss1) (v2 : Val cs rs os n (ps ++ [(w, 1)]) ss2) (t2 : Tts (2 * n) ss2) (c : 1 + cnt n ss1 + cnt n ss2 ≤ left) :
    Val cs rs os (n + 1) ps [.tuple [.str w, .tuple ss1, .tuple ss2]] ∧ Tt (2 * n + 2) (.tuple [.str w, .tuple ss1, .tuple ss2]) ∧ cnt (n + 1) [.tuple [.str w, .tuple ss1, .tuple ss2]] ≤ left := by
  have l1 := len_cnt' (ss := ss1) hn.2.2.1
  have l2 := len_cnt' (ss := ss2) hn.2.2.1
  obtain ⟨w1, w2, w3⟩ := bw_words w hw
  refine ⟨fun s hs => ?_, .tup (show 3 ≤ 100 by decide) (.cons (.str w3) (.cons (.tup (by omega) t1) (.cons (.tup (by omega) t2) .nil))), ?_⟩
  · rw [List.mem_singleton.mp hs]
    refine ⟨wf_b2 he, placed_blk hc (w := w) w2, fun _ => by omega, fun j p hj => ?_⟩
    match j, hj with
    | 0, hj => cases hj; exact ⟨ss1, rfl, v1⟩
    | 1, hj => cases hj; exact ⟨ss2, rfl, v2⟩
    | j + 2, hj => cases hj
  · rw [cnt_one]
    show 1 + (cnt n ss1 + (cnt n ss2 + 0)) ≤ left
    omega
theorem blk3 (hz : z ∈ cs) (hzl : z.length ≤ 1000) (hc : Ctx lp ps) (hn : n + 1 + d = 4 ∧ ps.length = d ∧ 1 ≤ n ∧ left ≤ 14) (v1 : Val cs rs os n (ps ++ [(("look" : Str), (0 : Nat))]) ss1) (t1 : Tts (2 * n) ss1) (v2 : Val cs rs os n (ps ++ [(("look" : Str), (1 : Nat))]) ss2) (t2 : Tts (2 * n) ss2) (c : 1 + cnt n ss1 + cnt n ss2 ≤ left) :
    Val cs rs os (n + 1) ps [.tuple [.str "look", .str z, .tuple ss1, .tuple ss2]] ∧ Tt (2 * n + 2) (.tuple [.str "look", .str z, .tuple ss1, .tuple ss2]) ∧ cnt (n + 1) [.tuple [.str "look", .str z, .tuple ss1, .tuple ss2]] ≤ left := by
  have l1 := len_cnt' (ss := ss1) hn.2.2.1
  have l2 := len_cnt' (ss := ss2) hn.2.2.1
  refine ⟨fun s hs => ?_, .tup (show 4 ≤ 100 by decide) (.cons (.str (by decide +kernel)) (.cons (.str hzl) (.cons (.tup (by omega) t1) (.cons (.tup (by omega) t2) .nil)))), ?_⟩
  · rw [List.mem_singleton.mp hs]
    refine ⟨wf_b3 hz, placed_blk hc (w := "look") (by decide +kernel), fun _ => by omega, fun j p hj => ?_⟩
    match j, hj with
    | 0, hj => cases hj; exact ⟨ss1, rfl, v1⟩
    | 1, hj => cases hj; exact ⟨ss2, rfl, v2⟩
    | j + 2, hj => cases hj
  · rw [cnt_one]
    show 1 + (cnt n ss1 + (cnt n ss2 + 0)) ≤ left
    omega
end
theorem deeds_cnt {cs rs os : List Str} {n : Nat} : ∀ {l : List PyData}, (∀ d ∈ l, DeedOk cs rs os d) → cnt (n + 1) l = l.length
  | [], _ => rfl
  | x :: r, h => by
    have k := deeds_cnt (n := n) (l := r) fun y hy => h y (List.mem_cons_of_mem _ hy)
    have k2 := (h x List.mem_cons_self).2.1
    show (1 + ((parts x).map _).sum) + cnt (n + 1) r = r.length + 1
    rw [k2, k]
    show 1 + 0 + r.length = _
    omega
theorem ev_dget {σ : L2.St} {H : Hp} {i : Nat} {pl : Addr} {kvs : List (Key × V)} {k : Str} {v : V} (hs : σ[i]? = some (some (.ref pl))) (h0 : H pl = some (.dK kvs)) (h1 : valV kvs (Sum.inr k) = some v) : Ev (tDGet (tVar i) (tC (.str k))) σ H v := fun H1 e Q q =>
  ⟨.ref pl, hs, pl, v, rfl, .inl ⟨kvs, Sum.inr k, .inl (e _ _ h0), rfl, h1.symm⟩, q H1 (Ex.refl _)⟩

theorem bw_two : ∀ w ∈ bwords, w ≠ "tries" → w ≠ "look" → (w, [("part" : Str), "part"]) ∈ ENT := by decide +kernel
section
variable {P : Program} {w : World} {K : PySem.W.Frag} {mg : Str → Option Value} {base : Heap}

theorem ok_law_block {fd : FuncData} {n k : Nat} (hk2 : 2 ≤ k) (F : FnP K "_law_block" "_law_block" s_law_block (ga K "_law_block") fd) (T : Tx K w mg) (c_law_draw : Cl P w K mg base CX0 1 (ga K "_law_draw") ["_law_pen", "_law_many"] spDraw) (c_law_pick : Cl P w K mg base CX0 2 (ga K "_law_pick") ["_law_pen", "_law_row"] (spPick K)) (c_law_deeds : Cl P w K mg base CX0 1 (ga K "_law_deeds") ["_law_plan_here"] (spDeeds K)) (c_law_count : Cl P w K mg base CX0 k (ga K "_law_count") ["_law_body"] (spCnt K n)) (c_law_part : Cl P w K mg base CX0 k (ga K "_law_part") ["_law_pen", "_law_plan_here", "_law_room", "_law_looping", "_law_deep"] (spPart K n)) : FnOk P w K mg base CX0 (k + 1) (ga K "_law_block") fd ["_law_pen", "_law_plan_here", "_law_left", "_law_looping", "_law_deep"] (spBlk K n) := by
  obtain ⟨fd_law_draw, G_law_draw, b_law_draw, kp_law_draw⟩ := c_law_draw
  obtain ⟨fd_law_pick, G_law_pick, b_law_pick, kp_law_pick⟩ := c_law_pick
  obtain ⟨fd_law_deeds, G_law_deeds, b_law_deeds, kp_law_deeds⟩ := c_law_deeds
  obtain ⟨fd_law_count, G_law_count, b_law_count, kp_law_count⟩ := c_law_count
  obtain ⟨fd_law_part, G_law_part, b_law_part, kp_law_part⟩ := c_law_part
  refine FunD.ok F sc_law_block (fun vs H Q E h => ?_) (fun cdv A outer s H vs Q E hr h => ?_)
  · obtain ⟨p, l, pl, cs, rs, os, left, lp, d, ps, b, rfl, _⟩ := h
    rfl
  · obtain ⟨p, l, pl, cs, rs, os, left, lp, d, ps, b, rfl, hPl, hN, ⟨lf1, lf2, hnd, hpd, hn1⟩, hC, hP, kk⟩ := h
    have g_law_pick := T.gl "_law_pick" (by decide +kernel)
    have g_law_part := T.gl "_law_part" (by decide +kernel)
    have g_law_draw := T.gl "_law_draw" (by decide +kernel)
    have g_law_count := T.gl "_law_count" (by decide +kernel)
    have g_law_deeds := T.gl "_law_deeds" (by decide +kernel)
    have n_min := T.fr "min" (by decide +kernel)
    have n_tuple := T.fr "tuple" (by decide +kernel)
    have n_range := T.fr "range" (by decide +kernel)
    refine ⟨_, PSs.nox (pss_cons (ps_set (i := 5) sc_law_block.nd rfl (Or.inl rfl) (pe_call G_law_pick (hr.mono (by omega)) (by rfl) g_law_pick kp_law_pick b_law_pick .nil pass0 (pa_cons (pv 0) (pa_cons (pe_lst (pa_cons pe_str (pa_cons pe_str (pa_cons pe_str (pa_cons pe_str (pa_cons pe_str (pa_cons pe_str (pa_cons pe_str pa_nil)))))))) pa_nil))))
      (pss_cut (ps_if (PW.pt (pw_and (pt_cmpR op_eq (pv 5) pe_str (nomark _)) (pw_and1 (pt_cmpR (op_eqD hr.units) (pe_dget (Nat.lt_of_le_of_lt (Nat.add_le_add_left (by decide) _) hr.units) (pv 1) pe_str (fun _ _ => rfl)) (pe_lst pa_nil) (nomark _)))))
      (pss_one (ps_set (i := 5) sc_law_block.nd rfl (Or.inl rfl) pe_str))
      pss_nil)
      (pss_cons (ps_set (i := 6) sc_law_block.nd rfl (Or.inl rfl) (pe_call G_law_part (hr.mono (by omega)) (by rfl) g_law_part kp_law_part b_law_part .nil pass0 (pa_cons (pv 0) (pa_cons (pv 1) (pa_cons (pe_call G_law_draw (hr.mono (by omega)) (by rfl) g_law_draw kp_law_draw b_law_draw .nil pass0 (pa_cons (pv 0) (pa_cons (pv 2) pa_nil))) (pa_cons (pe_or (pv 3) (pe_one (pe_cmpR op_eq (pv 5) pe_str (nomark _)))) (pa_cons (pe_op op_add (pv 4) pe_int) pa_nil)))))))
      (pss_cons (ps_set (i := 7) sc_law_block.nd rfl (Or.inl rfl) (pe_op op_sub (pe_op op_sub (pv 2) pe_int) (pe_call G_law_count (hr.mono (by omega)) (by rfl) g_law_count kp_law_count b_law_count .nil pass0 (pa_cons (pv 6) pa_nil))))
      (pss_cons (ps_if (pt_cmpR op_eq (pv 5) pe_str (nomark _))
      (pss_one (ps_ret (pe_tup (pa_cons (pv 5) (pa_cons (pv 6) pa_nil)))))
      pss_nil)
      (pss_cons (ps_if (pt_cmpR op_eq (pv 5) pe_str (nomark _)) (pss_cons (ps_set (i := 8) sc_law_block.nd rfl (Or.inr rfl) (pe_call G_law_deeds (hr.mono (by omega)) (by rfl) g_law_deeds kp_law_deeds b_law_deeds .nil pass0 (pa_cons (pv 1) pa_nil))) (pss_cut (ps_set (i := 9) sc_law_block.nd rfl (Or.inl rfl) (pe_ifExp (pt_cmpR (op_neD hr.units) (pv 8) (pe_lst pa_nil) (nomark _)) (pe_call G_law_draw (hr.mono (by omega)) (by rfl) g_law_draw kp_law_draw b_law_draw .nil pass0 (pa_cons (pv 0) (pa_cons (pe_op op_add pe_int (pe_callB (call_min2 rfl) (by rfl) n_min (by decide +kernel) (pa_cons pe_int (pa_cons (pv 7) pa_nil)))) pa_nil))) pe_int)) (pss_one (ps_ret (pe_tup (pa_cons (pv 5) (pa_cons (pv 6) (pa_cons (pe_callTy call_tuple_of (by rfl) n_tuple (by decide +kernel) (pa_cons (pe_lc (own := [("_law_k", 11)]) (g := gName 11) (by rfl) sc_law_block.nd (pi_range1 (by rfl) n_range (pa_cons (pv 9) pa_nil)) (blkOk_by (own := [("_law_k", 11)]) (N := ["_law_pen", "_law_plan_here", "_law_left", "_law_looping", "_law_deep", "_law_word_here", "_law_one", "_law_rest", "_law_deeds_here", "_law_many", "_law_two", "_law_k"]) (sc := defScope s_law_block) (by decide +kernel)) (fun _ _ _ _ _ => (pg_name (i := 11) sc_law_block.nd rfl (Or.inl rfl))) (fun _ _ _ _ _ => pts_nil) (fun _ _ _ _ _ => (pe_call G_law_pick (hr.mono (by omega)) (by rfl) g_law_pick kp_law_pick b_law_pick .nil pass0 (pa_cons (pv 0) (pa_cons (pv 8) pa_nil))))) pa_nil)) pa_nil)))))))) pss_nil)
      (pss_cons (ps_set (i := 10) sc_law_block.nd rfl (Or.inl rfl) (pe_call G_law_part (hr.mono (by omega)) (by rfl) g_law_part kp_law_part b_law_part .nil pass0 (pa_cons (pv 0) (pa_cons (pv 1) (pa_cons (pv 7) (pa_cons (pv 3) (pa_cons (pe_op op_add (pv 4) pe_int) pa_nil)))))))
      (pss_cons (ps_if (pt_cmpR op_eq (pv 5) pe_str (nomark _))
      (pss_one (ps_ret (pe_tup (pa_cons (pv 5) (pa_cons (pe_call G_law_pick (hr.mono (by omega)) (by rfl) g_law_pick kp_law_pick b_law_pick .nil pass0 (pa_cons (pv 0) (pa_cons (pe_dget (Nat.lt_of_le_of_lt (Nat.add_le_add_left (by decide) _) hr.units) (pv 1) pe_str (fun _ _ => rfl)) pa_nil))) (pa_cons (pv 6) (pa_cons (pv 10) pa_nil)))))))
      pss_nil)
      (pss_one (ps_ret (pe_tup (pa_cons (pv 5) (pa_cons (pv 6) (pa_cons (pv 10) pa_nil)))))))))))))), ?_⟩
    have hN' := hN
    obtain ⟨hok, ⟨z1, z2, z3⟩, hne⟩ := hN'
    have hl12 : ∀ z ∈ cs ++ rs ++ os, z.length ≤ 12 := fun z hz => (hok.2 z hz).2.2
    have hnn : n + 1 + d = 4 ∧ ps.length = d ∧ 1 ≤ n ∧ left ≤ 14 := ⟨hnd, hpd, hn1, lf2⟩
    refine ⟨.ref p, rfl, fits (show 7 ≤ 1000 by decide), fun W hW => ⟨p, l, W, bwords.map V.str, b + (7 + 2 * Pn n), rfl, ?_, ⟨by decide +kernel, by decide +kernel⟩, (hP.ex (Ex.new hW)).less (by omega), fun v H2 hv px2 pen2 => ?_⟩⟩
    · have nW := hP.new hW
      exact sq_of ((cut_at nW.1 nW.2).trans upd_same)
    obtain ⟨w0, hw0, rfl⟩ := List.mem_map.mp hv
    have px := (Px.of (p := p) (l := l) (Ex.new (o := .lst (bwords.map V.str)) hW)).trans px2
    dsimp only [gName, List.set]
    refine q_cut (M := fun σ' H' => ∃ w, w ∈ bwords ∧ (w = "look" → cs ≠ []) ∧ σ' = [some (.ref p), some (.ref pl), some (.int (left : Nat)), some (.bl lp), some (.int (d : Nat)), some (.str w), none, none, none, none, none, none] ∧ Px p l H H' ∧ Pen p l (b + (7 + 2 * Pn n)) H') ?_ fun σ3 H3 hM => ?_
    · obtain ⟨kvs, c, r', o, h0, h1, h2, h3, h4, h5, h6⟩ := hPl.px hP px
      have lg : legal cs := fun z hz => let_ok (hok.2 z (List.mem_append_left _ (List.mem_append_left _ hz))).1
      refine s_when (b := decide (V.str w0 = V.str "look") && PyData.eqv (.list (cs.map PyData.str)) (.list [])) (et_and (et_test (ev_op (ev_var rfl) ev_c (rv_eq rfl))) fun _ => et_test (ev_opL (ev_dget rfl h0 h1) (el_lst ea_nil (by decide)) fun u H4 hu e H5 e5 R k => ⟨.list (cs.map PyData.str), .list [], .lst (sq_of (e5 _ _ (e _ _ h4))) (dp_strs _), .lst (sq_of (e5 _ _ hu)) .nil, shp_list cs lg, by decide +kernel, k H5 (Ex.refl _)⟩)) (fun hb H4 e4 => ?_) (fun hb H4 e4 => ?_)
      · exact ⟨"either", by decide +kernel, (fun e => absurd e (by decide +kernel)), rfl, px.trans (Px.of e4), pen2.ex e4⟩
      · refine ⟨w0, hw0, fun e ec => ?_, rfl, px.trans (Px.of e4), pen2.ex e4⟩
        rw [e, ec] at hb
        exact absurd hb (by decide +kernel)
    clear px px2 pen2 hv hw0
    obtain ⟨w, hw, hlook, rfl, px3, pen3⟩ := hM
    obtain ⟨ww, wr, wl⟩ := bw_words w hw
    have hPl3 := hPl.px hP px3
    -- the first part
    refine ⟨.ref p, rfl, .ref pl, rfl, .ref p, rfl, .int (left : Nat), rfl, p, l, (left : Nat), b + (6 + 2 * Pn n), rfl, ⟨by omega, by omega⟩, pen3.less (by omega), fun r H4 hr4 px4 pen4 => ?_⟩
    obtain ⟨r1, rfl, hr1⟩ := nat_of hr4
    refine (ev_orV (a := lp) (b := decide (V.str w = V.str "tries")) (ev_var rfl) fun _ => ev_op (ev_var rfl) ev_c (rv_eq rfl)) H4 (Ex.refl _) _ fun H5 e5 => ?_
    have px5 := (px3.trans px4).trans (Px.of (p := p) (l := l) e5)
    have pen5 := pen4.ex e5
    refine ⟨.int (d : Nat), rfl, (d : Nat), 1, rfl, rfl, p, l, pl, cs, rs, os, r1, (lp || decide (V.str w = V.str "tries")), d + 1, ps ++ [(w, 0)], b + (6 + Pn n), rfl, hPl.px hP px5, hN, ⟨by omega, by omega, by rw [List.length_append, hpd]; rfl⟩, ctx_more hC ww (fun e => by cases e.2) (fun e => ?_), pen5.less (by omega), fun a1 ss1 H6 px6 pen6 d6 ok6 => ?_⟩
    · rw [Bool.or_eq_true] at e
      rcases e with e | e
      · exact .inl e
      · have e2 := of_decide_eq_true e
        injection e2 with e2
        exact .inr e2
    have pxA := px5.trans px6
    -- the rest
    refine ⟨.int (left : Nat), rfl, (left : Nat), 1, rfl, rfl, .ref a1, rfl, a1, ss1, 2 * n, rfl, d6, ok6.tt, ok6.val.hb, fun H7 e7 => ⟨_, _, rfl, rfl, ?_⟩⟩
    have few := ok6.few
    have eR : ((left : Nat) : Int) - 1 - ((cnt n ss1 : Nat) : Int) = ((left - 1 - cnt n ss1 : Nat) : Int) := by omega
    dsimp only [gName, List.set]
    rw [eR]
    have d7 := dpM e7 _ _ d6
    have pxB := pxA.trans (Px.of (p := p) (l := l) e7)
    have pen7 := pen6.ex e7
    refine q_when (b := decide (V.str w = V.str "tries")) (et_test (ev_op (ev_var rfl) ev_c (rv_eq rfl))) (fun hb H8 e8 => ?_) (fun hb H8 e8 => ?_)
    · have e := of_decide_eq_true hb
      injection e with e
      subst e
      refine s_retU (eu_tup (ea_cons (ev_var rfl) (ea_cons (ev_var rfl) ea_nil)) (show 2 ≤ 100000 by decide)) fun q H9 hq e9 g9 => ?_
      obtain ⟨f1, f2, f3⟩ := blk1 hC hnn ok6.val ok6.tt (by omega)
      exact kk q _ H9 (pxB.trans (Px.of (e8.trans e9))) ((pen7.ex (e8.trans e9)).less (by omega)) (.tup (st_of g9) (.cons (.str _) (.cons (dpM (e8.trans e9) _ _ d7) .nil))) f1 f2 f3
    have pxC := pxB.trans (Px.of (p := p) (l := l) e8)
    have pen8 := pen7.ex e8
    have d8 := dpM e8 _ _ d7
    have hnt : w ≠ "tries" := fun e => of_decide_eq_false hb (by rw [e])
    refine q_when (b := decide (V.str w = V.str "lastly")) (et_test (ev_op (ev_var rfl) ev_c (rv_eq rfl))) (fun hb2 H9 e9 => ?_) (fun hb2 H9 e9 => ?_)
    · have e := of_decide_eq_true hb2
      injection e with e
      subst e
      have pxD := pxC.trans (Px.of (p := p) (l := l) e9)
      have pen9 := pen8.ex e9
      have d9 := dpM e9 _ _ d8
      have dok := deeds_ok (os := os) hl12
      refine ⟨.ref pl, rfl, pl, cs, rs, os, rfl, hPl.px hP pxD, z1, z2, fun q ys H10 hq e10 g10 d10 => ?_⟩
      have nq := pen9.new hq
      have pxE := pxD.trans (Px.of (p := p) (l := l) e10)
      have pen10 := pen9.ex e10
      have dA := dpM e10 _ _ d9
      have t1 : Tt (2 * n + 1) (.tuple ss1) := .tup (by have k := len_cnt' (ss := ss1) hn1; omega) ok6.tt
      dsimp only [gName, List.set]
      refine q_cut (M := fun σ' H' => ∃ many : Nat, many ≤ 3 ∧ many ≤ left - 1 - cnt n ss1 ∧ (0 < many → deeds cs rs ≠ []) ∧ σ' = [some (.ref p), some (.ref pl), some (.int (left : Nat)), some (.bl lp), some (.int (d : Nat)), some (.str "lastly"), some (.ref a1), some (.int ((left - 1 - cnt n ss1 : Nat) : Int)), some (.ref q), some (.int (many : Nat)), none, none] ∧ Px p l H10 H' ∧ Pen p l (b + 4) H') ?_ fun σ11 H11 hM => ?_
      · refine go_test (b := !PyData.eqv (.list (deeds cs rs)) (.list [])) (et_test (ev_opL (ev_var rfl) (el_lst ea_nil (by decide)) fun u H4 hu e H5 e5 R k => ⟨.list (deeds cs rs), .list [], .lst (sq_of (e5 _ _ (e _ _ g10))) (dpMs (e.trans e5) _ _ d10), .lst (sq_of (e5 _ _ hu)) .nil, shp_deeds hok, by decide +kernel, k H5 (Ex.refl _)⟩)) fun H11 e11 => ite2 (fun hne2 => ?_) (fun _ => ?_)
        · refine ⟨.ref p, rfl, .int ((left - 1 - cnt n ss1 : Nat) : Int), rfl, 3, ((left - 1 - cnt n ss1 : Nat) : Int), rfl, ?_⟩
          have bd : ∃ m : Nat, (1 : Int) + (if ((left - 1 - cnt n ss1 : Nat) : Int) < 3 then ((left - 1 - cnt n ss1 : Nat) : Int) else 3) = ((m + 1 : Nat) : Int) ∧ m ≤ 3 ∧ m ≤ left - 1 - cnt n ss1 := by
            by_cases h : ((left - 1 - cnt n ss1 : Nat) : Int) < 3
            · rw [if_pos h]
              exact ⟨left - 1 - cnt n ss1, by omega, by omega, by omega⟩
            · rw [if_neg h]
              exact ⟨3, by omega, by omega, by omega⟩
          obtain ⟨m, em, m1, m2⟩ := bd
          refine ⟨1, _, rfl, rfl, p, l, ((m + 1 : Nat) : Int), b + 4, (by rw [← em]; rfl), ⟨by omega, by omega⟩, (pen10.ex e11).less (by omega), fun r H12 hr px12 pen12 => ?_⟩
          obtain ⟨many, rfl, hm⟩ := nat_of hr
          refine ⟨many, by omega, by omega, fun _ e => ?_, rfl, (Px.of e11).trans px12, pen12⟩
          rw [e] at hne2
          exact absurd hne2 (by decide +kernel)
        · exact ⟨0, by omega, by omega, (fun h => absurd h (Nat.lt_irrefl 0)), rfl, Px.of e11, (pen10.ex e11).less (by omega)⟩
      obtain ⟨many, m1, m2, m3, rfl, pxF, penF⟩ := hM
      have gF := pxF.get nq.1 nq.2 g10
      have dF : DpAll K H11 ys (deeds cs rs) := dps_px pen10 pxF (Tts.of fun x hx => (dok x hx).2.2.1) d10
      have dB := dp_px pen10 pxF t1 dA
      refine ⟨.str "lastly", rfl, .ref a1, rfl, .int (many : Nat), rfl, (many : Nat), rfl, by omega, by omega, fun D hD => ?_⟩
      have nD := penF.new hD
      refine lc_range (lo := 0) (n := ((many : Nat) : Int).toNat) (fun j H' => ∃ zs ds, zs.length = j ∧ H' D = some (.lst zs) ∧ DpAll K H' zs ds ∧ (∀ d ∈ ds, DeedOk cs rs os d) ∧ Px p l H11 H' ∧ Pen p l (b + 4 - j) H') ⟨[], [], rfl, upd_same, .nil, (fun d hd => nomatch hd), Px.of (Ex.new hD), penF.ex (Ex.new hD)⟩ (fun j H' hj hJ => ?_) (fun H' hJ => ?_)
      · obtain ⟨vs2, ds, k1, k2, k3, k4, k5, k6⟩ := hJ
        have hj2 : j < many := by omega
        have gq := k5.get nq.1 nq.2 gF
        have dq : DpAll K H' ys (deeds cs rs) := dps_px penF k5 (Tts.of fun x hx => (dok x hx).2.2.1) dF
        have lq := dpAll_len dq
        have lds : (deeds cs rs).length ≤ 1000 := by
          unfold deeds
          rw [List.length_append, flat_len (b := 4) (fun _ => rfl), flat_len (b := 4) (fun _ => rfl)]
          omega
        refine ⟨rfl, yes_go ⟨.ref p, rfl, .ref q, rfl, p, l, q, ys, b + 4 - (j + 1), rfl, sq_of ((cut_at nq.1 nq.2).trans gq), ⟨fun e => ?_, by omega⟩, k6.less (by omega), fun v H5 hv px5 pen5 => ?_⟩⟩
        · rw [e] at lq
          exact m3 (by omega) (List.length_eq_zero_iff.mp lq.symm)
        · obtain ⟨dd, hdd, dv⟩ := pick_data k6 px5 dq (fun x hx => ⟨2, (dok x hx).2.2.1⟩) hv
          have g5 := px5.get nD.1 nD.2 k2
          have dz := dps_px k6 px5 (Tts.of fun x hx => (k4 x hx).2.2.1) k3
          refine ⟨vs2, g5, small1000 (by omega), vs2 ++ [v], ds ++ [dd], by rw [List.length_append, k1]; rfl, upd_same, ?_, fun x hx => ?_, (k5.trans px5).upd (.inr (.inr hD)), pen5.upd nD.1 nD.2⟩
          · exact dpAll_add (dps_off g5 (n := 2) (Tts.of fun x hx => (k4 x hx).2.2.1) dz) (dp_off g5 (dok dd hdd).2.2.1 dv)
          · rcases List.mem_append.mp hx with h | h
            · exact k4 x h
            · rw [List.mem_singleton.mp h]
              exact dok dd hdd
      · obtain ⟨vs2, ds, k1, k2, k3, k4, k5, k6⟩ := hJ
        refine ⟨D, vs2, rfl, .inl ⟨sq_of k2, fun u hu => ⟨(show 3 ≤ sizeLine by decide), fun qq hqq => ?_⟩⟩⟩
        have ez := (Ex.new (o := .tup vs2) hu).trans (Ex.new (o := .tup [.str "lastly", .ref a1, .ref u]) hqq)
        have lz := dpAll_len k3
        have t2n : Tts (2 * n) ds := Tts.of fun x hx => by
          have z := ttUpN (2 * n - 2) (k4 x hx).2.2.1
          rw [show 2 + (2 * n - 2) = 2 * n by omega] at z
          exact z
        have cd : cnt n ds = ds.length := by
          match n, hn1 with
          | n + 1, _ => exact deeds_cnt k4
        obtain ⟨f1, f2, f3⟩ := blk2 (w := "lastly") hw (by decide +kernel) hC hnn ok6.val ok6.tt (val_deeds (ps := ps ++ [(("lastly" : Str), (1 : Nat))]) k4 hn1) t2n (by omega)
        exact kk qq _ _ (((pxE.trans pxF).trans k5).trans (Px.of ez)) ((k6.ex ez).less (by omega)) (.tup (st_of upd_same) (.cons (.str _) (.cons (dpM ez _ _ (dp_px penF k5 t1 dB)) (.cons (dpM (Ex.new hqq) _ _ (.tup (st_of upd_same) (dpMs (Ex.new hu) _ _ k3))) .nil)))) f1 f2 f3
    have pxD := pxC.trans (Px.of (p := p) (l := l) e9)
    have pen9 := pen8.ex e9
    have d9 := dpM e9 _ _ d8
    have hnl : w ≠ "lastly" := fun e => of_decide_eq_false hb2 (by rw [e])
    -- the second part
    refine ⟨.ref p, rfl, .ref pl, rfl, .int _, rfl, .bl lp, rfl, .int (d : Nat), rfl, (d : Nat), 1, rfl, rfl, p, l, pl, cs, rs, os, left - 1 - cnt n ss1, lp, d + 1, ps ++ [(w, 1)], b + 2, rfl, hPl.px hP pxD, hN, ⟨by omega, by omega, by rw [List.length_append, hpd]; rfl⟩, ctx_more hC ww (fun e => hnl e.1) (fun e => .inl e), pen9.less (by omega), fun a2 ss2 H10 px10 pen10 d10 ok10 => ?_⟩
    have few2 := ok10.few
    have px11 := pxD.trans px10
    have d9' : Dp K H10 (.ref a1) (.tuple ss1) := dp_px pen9 px10 (.tup (by have k := len_cnt' (ss := ss1) hn1; omega) ok6.tt) d9
    dsimp only [gName, List.set]
    refine q_when (b := decide (V.str w = V.str "look")) (et_test (ev_op (ev_var rfl) ev_c (rv_eq rfl))) (fun hb3 H11 e11 => ?_) (fun hb3 H11 e11 => ?_)
    · have e := of_decide_eq_true hb3
      injection e with e
      subst e
      have hcs := hlook rfl
      have px12 := px11.trans (Px.of (p := p) (l := l) e11)
      obtain ⟨kvs, c, r', o, h0, h1, h2, h3, h4, h5, h6⟩ := hPl.px hP px12
      have nc := strs_off (pen10.ex e11) h4
      refine ⟨.str "look", rfl, .ref p, rfl, .ref pl, rfl, pl, .ref c, rfl, .inl ⟨kvs, Sum.inr "cells", .inl h0, rfl, h1.symm⟩, p, l, c, _, b + 1, rfl, sq_of ((cut_at nc.1 nc.2).trans h4), ⟨fun e => hcs (List.map_eq_nil_iff.mp e), by rw [List.length_map]; omega⟩, (pen10.ex e11).less (by omega), fun v H12 hv px13 pen13 => ?_⟩
      obtain ⟨z, hz, rfl⟩ := List.mem_map.mp hv
      have t1 : Tt (2 * n + 1) (.tuple ss1) := .tup (by have k := len_cnt' (ss := ss1) hn1; omega) ok6.tt
      have t2 : Tt (2 * n + 1) (.tuple ss2) := .tup (by have k := len_cnt' (ss := ss2) hn1; omega) ok10.tt
      refine ⟨.ref a1, rfl, .ref a2, rfl, (show 4 ≤ sizeLine by decide), fun q hq => ?_⟩
      have zl := hl12 z (List.mem_append_left _ (List.mem_append_left _ hz))
      obtain ⟨f1, f2, f3⟩ := blk3 (rs := rs) (os := os) hz (by omega) hC hnn ok6.val ok6.tt ok10.val ok10.tt (by omega)
      have e13 := Ex.new (o := .tup [.str "look", .str z, .ref a1, .ref a2]) hq
      exact kk q _ _ ((px12.trans px13).trans (Px.of e13)) ((pen13.ex e13).less (by omega)) (.tup (st_of upd_same) (.cons (.str _) (.cons (.str _) (.cons (dpM e13 _ _ (dp_px (pen10.ex e11) px13 t1 (dpM e11 _ _ d9'))) (.cons (dpM e13 _ _ (dp_px (pen10.ex e11) px13 t2 (dpM e11 _ _ d10))) .nil))))) f1 f2 f3
    · have hnk : w ≠ "look" := fun e => of_decide_eq_false hb3 (by rw [e])
      refine s_retU (eu_tup (ea_cons (ev_var rfl) (ea_cons (ev_var rfl) (ea_cons (ev_var rfl) ea_nil))) (show 3 ≤ 100000 by decide)) fun q H12 hq e12 g12 => ?_
      obtain ⟨f1, f2, f3⟩ := blk2 hw (bw_two w hw hnt hnk) hC hnn ok6.val ok6.tt ok10.val ok10.tt (by omega)
      exact kk q _ H12 (px11.trans (Px.of (e11.trans e12))) ((pen10.ex (e11.trans e12)).less (by omega)) (.tup (st_of g12) (.cons (.str _) (.cons (dpM (e11.trans e12) _ _ d9') (.cons (dpM (e11.trans e12) _ _ d10) .nil)))) f1 f2 f3

end
end K05
set_option Elab.async false
set_option linter.all false
set_option maxRecDepth 100000
set_option maxHeartbeats 8000000
namespace K05
open PySem PySem.Spec PyProof.Rows L2 He XH XV XR PEN TR Evl


theorem cnt_app {n : Nat} {ss : List PyData} {s : PyData} : cnt (n + 1) (ss ++ [s]) = cnt (n + 1) ss + cnt (n + 1) [s] := by
  show ((ss ++ [s]).map _).sum = (ss.map _).sum + ([s].map _).sum
  rw [List.map_append, List.sum_append]
theorem val_app {cs rs os : List Str} {n : Nat} {ps : List (Str × Nat)} {ss : List PyData} {s : PyData} (h : Val cs rs os (n + 1) ps ss) (k : Val cs rs os (n + 1) ps [s]) : Val cs rs os (n + 1) ps (ss ++ [s]) := fun x hx => by
  rcases List.mem_append.mp hx with z | z
  · exact h x z
  · exact k x z
theorem sim_val {cs rs os : List Str} {n : Nat} {ps : List (Str × Nat)} {s : PyData} {lp : Bool} (hC : Ctx lp ps) (h : SimOk cs rs os lp s) : Val cs rs os (n + 1) ps [s] ∧ Tt (2 * (n + 1)) s ∧ cnt (n + 1) [s] = 1 := by
  obtain ⟨h1, h2, h3, h4⟩ := h
  refine ⟨fun x hx => ?_, ?_, ?_⟩
  · rw [List.mem_singleton.mp hx]
    refine ⟨h1, ⟨fun k => hC.1 (h4 k), fun k => absurd k hC.2.1⟩, fun k => absurd h2 k, fun j p hp => ?_⟩
    rw [h2] at hp
    cases hp
  · have z := ttUpN (2 * n) h3
    rw [show 2 + 2 * n = 2 * (n + 1) by omega] at z
    exact z
  · rw [cnt_one, h2]
    rfl

section
variable {P : Program} {w : World} {K : PySem.W.Frag} {mg : Str → Option Value} {base : Heap}

theorem ok_law_part1 {fd : FuncData} {m k : Nat} (hk3 : 3 ≤ k) (hm : m = 0) (F : FnP K "_law_part" "_law_part" s_law_part (ga K "_law_part") fd) (T : Tx K w mg) (c_law_draw : Cl P w K mg base CX0 1 (ga K "_law_draw") ["_law_pen", "_law_many"] spDraw) (c_law_count : Cl P w K mg base CX0 k (ga K "_law_count") ["_law_body"] (spCnt K (m + 1))) (c_law_simple : Cl P w K mg base CX0 3 (ga K "_law_simple") ["_law_pen", "_law_plan_here", "_law_looping"] (spSim K)) : FnOk P w K mg base CX0 (k + 1) (ga K "_law_part") fd ["_law_pen", "_law_plan_here", "_law_room", "_law_looping", "_law_deep"] (spPart K (m + 1)) := by
  obtain ⟨fd_law_draw, G_law_draw, b_law_draw, kp_law_draw⟩ := c_law_draw
  obtain ⟨fd_law_count, G_law_count, b_law_count, kp_law_count⟩ := c_law_count
  obtain ⟨fd_law_simple, G_law_simple, b_law_simple, kp_law_simple⟩ := c_law_simple
  refine FunD.ok F sc_law_part (fun vs H Q E h => ?_) (fun cdv A outer s H vs Q E hr h => ?_)
  · obtain ⟨p, l, pl, cs, rs, os, room, lp, d, ps, b, rfl, _⟩ := h
    rfl
  · obtain ⟨p, l, pl, cs, rs, os, room, lp, d, ps, b, rfl, hPl, hN, ⟨rm, hnd, hpd⟩, hC, hP, kk⟩ := h
    have n_range := T.fr "range" (by decide +kernel)
    have g_law_draw := T.gl "_law_draw" (by decide +kernel)
    have g_law_simple := T.gl "_law_simple" (by decide +kernel)
    have g_law_count := T.gl "_law_count" (by decide +kernel)
    have n_tuple := T.fr "tuple" (by decide +kernel)
    refine ⟨_, PSs.nox (pss_cons (ps_set (i := 5) sc_law_part.nd rfl (Or.inl rfl) (pe_lst pa_nil)) (pss_cons (ps_set (i := 6) sc_law_part.nd rfl (Or.inl rfl) (pv 2)) (pss_cons (ps_for PassesOwn.never rfl (pi_range1 (by rfl) n_range (pa_cons (pe_call G_law_draw (hr.mono (by omega)) (by rfl) g_law_draw kp_law_draw b_law_draw .nil pass0 (pa_cons (pv 0) (pa_cons (pe_op op_add (pv 2) pe_int) pa_nil))) pa_nil)) (pg_name (i := 7) sc_law_part.nd rfl (Or.inl rfl)) (pss_one (ps_if (pt_cmpR op_gt (pv 6) pe_int (nomark _)) (pss_cut (ps_if (PW.pt (pw_and (pt_cmpR op_lt (pv 4) pe_int (nomark _)) (pw_and1 (pt_cmpR op_eq (pe_call G_law_draw (hr.mono (by omega)) (by rfl) g_law_draw kp_law_draw b_law_draw .nil pass0 (pa_cons (pv 0) (pa_cons pe_int pa_nil))) pe_int (nomark _))))) (pss_one ps_never) (pss_one (ps_set (i := 8) sc_law_part.nd rfl (Or.inl rfl) (pe_call G_law_simple (hr.mono (by omega)) (by rfl) g_law_simple kp_law_simple b_law_simple .nil pass0 (pa_cons (pv 0) (pa_cons (pv 1) (pa_cons (pv 3) pa_nil))))))) (pss_cons (ps_set (i := 6) sc_law_part.nd rfl (Or.inl rfl) (pe_op op_sub (pv 6) (pe_call G_law_count (hr.mono (by omega)) (by rfl) g_law_count kp_law_count b_law_count .nil pass0 (pa_cons (pe_tup (pa_cons (pv 8) pa_nil)) pa_nil)))) (pss_one (ps_expr (pe_bm PySem.F.plainAttrs_list PySem.F.slot_list_append PySem.F.type_list_append mt_append (pv 5) (pa_cons (pv 8) pa_nil)))))) pss_nil))) (pss_one (ps_ret (pe_callTy call_tuple_of (by rfl) n_tuple (by decide +kernel) (pa_cons (pv 5) pa_nil))))))), ?_⟩
    obtain ⟨hok, ⟨z1, z2, z3⟩, hne⟩ := id hN
    refine q_asgL (el_lst ea_nil (by decide)) fun B H1 hB e1 g1 => ?_
    refine q_asg (ev_var rfl) fun H2 e2 => ?_
    have nB := hP.new hB
    have e12 := e1.trans e2
    refine ⟨.ref p, rfl, .int (room : Nat), rfl, (room : Nat), 1, rfl, rfl, p, l, ((room : Nat) : Int) + 1, b + 14 * (12 + 2 * Pn m), rfl, ⟨by omega, by omega⟩, (hP.ex e12).less (by show b + 14 * (12 + 2 * Pn m) + 1 ≤ b + (1 + 14 * (12 + 2 * Pn m)); omega), fun r H3 hr3 px3 pen3 => ?_⟩
    obtain ⟨rr, rfl, hrr⟩ := nat_of hr3
    refine ⟨(rr : Nat), rfl, by omega, by omega, ?_⟩
    refine for_range (lo := 0) (n := ((rr : Nat) : Int).toNat) (fun i σ' H' => ∃ ss vs left v7 v8, σ' = [some (.ref p), some (.ref pl), some (.int (room : Nat)), some (.bl lp), some (.int (d : Nat)), some (.ref B), some (.int (left : Nat)), v7, v8] ∧ H' B = some (.lst vs) ∧ DpAll K H' vs ss ∧ Tts (2 * (m + 1)) ss ∧ Val cs rs os (m + 1) ps ss ∧ cnt (m + 1) ss + left ≤ room ∧ Px p l H H' ∧ Pen p l (b + (14 - i) * (12 + 2 * Pn m)) H')
      ⟨[], [], room, _, _, rfl, px3.get nB.1 nB.2 (e2 _ _ g1), .nil, .nil, (fun s hs => nomatch hs), (by show 0 + room ≤ room; omega), (Px.of e12).trans px3, pen3⟩ (fun i σ' H4 hi hI => ?_) (fun σ' H' hI => ?_)
    · obtain ⟨ss, vs, left, v7, v8, rfl, gB, dB, tB, vB, cB, pxA, penA⟩ := hI
      have hi2 : i < rr := by omega
      have eqB : (14 - i) * (12 + 2 * Pn m) = (14 - (i + 1)) * (12 + 2 * Pn m) + (12 + 2 * Pn m) := by
        obtain ⟨q, hq⟩ : ∃ q, 14 - i = q + 1 := ⟨14 - i - 1, by omega⟩
        rw [hq, show 14 - (i + 1) = q by omega, Nat.succ_mul]
      rw [eqB] at penA
      rw [show (0 : Int) + (i : Int) = ((i : Nat) : Int) by omega]
      dsimp only [gName, List.set]
      refine s_when (b := decide ((0 : Int) < (left : Nat))) (et_test (ev_op (ev_var rfl) ev_c rv_I0)) (fun hb H5 e6 => ?_) (fun hb H5 e6 => ?_)
      · have hleft := of_decide_eq_true hb
        replace pxA := pxA.trans (Px.of (p := p) (l := l) e6)
        replace penA := penA.ex e6
        have gB' := e6 _ _ gB
        have dB' := dpMs e6 _ _ dB
        refine q_cut (M := fun σ' H' => ∃ v s, σ' = [some (.ref p), some (.ref pl), some (.int (room : Nat)), some (.bl lp), some (.int (d : Nat)), some (.ref B), some (.int (left : Nat)), some (.int (i : Nat)), some v] ∧ Px p l H H' ∧ Pen p l (b + (14 - (i + 1)) * (12 + 2 * Pn m)) H' ∧ Px p l H5 H' ∧ Dp K H' v s ∧ Val cs rs os (m + 1) ps [s] ∧ Tt (2 * (m + 1)) s ∧ cnt (m + 1) [s] ≤ left) ?_ fun σ6 H6 hM => ?_
        · refine go_test (b := false) (et_is (et_and (b := false) (et_test (ev_op (ev_var rfl) ev_c rv_I0)) fun hq => absurd (of_decide_eq_true hq) (by omega)) (by rw [decide_eq_false (by omega)]; rfl)) fun H6' e6 => ite_ff ?_
          have pxq := pxA.trans (Px.of (p := p) (l := l) e6)
          have penq := penA.ex e6
          refine ⟨.ref p, rfl, .ref pl, rfl, .bl lp, rfl, p, l, pl, cs, rs, os, lp, b + (14 - (i + 1)) * (12 + 2 * Pn m), rfl, hPl.px hP pxq, hN, (penq.less (by omega)), fun v s H6 px6 pen6 d6 s6 => ?_⟩
          obtain ⟨y1, y2, y3⟩ := sim_val (n := m) hC s6
          exact ⟨v, s, rfl, pxq.trans px6, pen6, (Px.of e6).trans px6, d6, y1, y2, by omega⟩
        obtain ⟨v, s, rfl, px7, pen7, px8, d7, v7', t7, c7⟩ := hM
        have gB7 := px8.get nB.1 nB.2 gB'
        have dB7 := dps_px penA px8 tB dB'
        have lv := dpAll_len dB7
        have ls := len_cnt (n := m) (ss := ss)
        have h1c : 1 ≤ cnt (m + 1) [s] := len_cnt (n := m) (ss := [s])
        refine ⟨.int (left : Nat), rfl, v, rfl, (show 1 ≤ sizeLine by decide), fun tp htp => ?_⟩
        have e8 := Ex.new (o := .tup [v]) htp
        refine ⟨tp, [s], 2 * (m + 1), rfl, .tup (st_of upd_same) (.cons (dpM e8 _ _ d7) .nil), .cons t7 .nil, v7'.hb, fun H9 e9 => ⟨(left : Nat), _, rfl, rfl, ?_⟩⟩
        have e89 := e8.trans e9
        dsimp only [gName, List.set]
        rw [show ((left : Nat) : Int) - ((cnt (m + 1) [s] : Nat) : Int) = ((left - cnt (m + 1) [s] : Nat) : Int) by omega]
        refine s_app (e89 _ _ gB7) (ev_var rfl) (ev_var rfl) (by omega) fun H10 e10 => ?_
        have eA := e89.trans e10
        have gA := eA _ _ gB7
        refine ⟨ss ++ [s], vs ++ [v], left - cnt (m + 1) [s], _, _, rfl, upd_same, ?_, tB.app (.cons t7 .nil), val_app vB v7', by rw [cnt_app]; omega, (px7.trans (Px.of eA)).upd (.inr (.inr hB)), (pen7.ex eA).upd nB.1 nB.2⟩
        exact dpAll_add (dps_off gA tB (dpMs eA _ _ dB7)) (dp_off gA t7 (dpM eA _ _ d7))
      · exact ⟨ss, vs, left, _, _, rfl, e6 _ _ gB, dpMs e6 _ _ dB, tB, vB, cB, pxA.trans (Px.of e6), (penA.ex e6).less (by omega)⟩
    · obtain ⟨ss, vs, left, v7, v8, rfl, gB, dB, tB, vB, cB, pxA, penA⟩ := hI
      refine ⟨.ref B, rfl, B, vs, rfl, .inl ⟨sq_of gB, fun u hu => ?_⟩⟩
      have eu := Ex.new (o := .tup vs) hu
      exact kk u ss _ (pxA.trans (Px.of eu)) ((penA.ex eu).less (by omega)) (.tup (st_of upd_same) (dpMs eu _ _ dB)) ⟨vB, tB, by omega⟩

theorem ok_law_part2 {fd : FuncData} {m k : Nat} (hk3 : 3 ≤ k) (hm : 1 ≤ m) (F : FnP K "_law_part" "_law_part" s_law_part (ga K "_law_part") fd) (T : Tx K w mg) (c_law_draw : Cl P w K mg base CX0 1 (ga K "_law_draw") ["_law_pen", "_law_many"] spDraw) (c_law_count : Cl P w K mg base CX0 k (ga K "_law_count") ["_law_body"] (spCnt K (m + 1))) (c_law_simple : Cl P w K mg base CX0 3 (ga K "_law_simple") ["_law_pen", "_law_plan_here", "_law_looping"] (spSim K)) (c_law_block : Cl P w K mg base CX0 k (ga K "_law_block") ["_law_pen", "_law_plan_here", "_law_left", "_law_looping", "_law_deep"] (spBlk K m)) : FnOk P w K mg base CX0 (k + 1) (ga K "_law_part") fd ["_law_pen", "_law_plan_here", "_law_room", "_law_looping", "_law_deep"] (spPart K (m + 1)) := by
  obtain ⟨fd_law_draw, G_law_draw, b_law_draw, kp_law_draw⟩ := c_law_draw
  obtain ⟨fd_law_count, G_law_count, b_law_count, kp_law_count⟩ := c_law_count
  obtain ⟨fd_law_simple, G_law_simple, b_law_simple, kp_law_simple⟩ := c_law_simple
  obtain ⟨fd_law_block, G_law_block, b_law_block, kp_law_block⟩ := c_law_block
  refine FunD.ok F sc_law_part (fun vs H Q E h => ?_) (fun cdv A outer s H vs Q E hr h => ?_)
  · obtain ⟨p, l, pl, cs, rs, os, room, lp, d, ps, b, rfl, _⟩ := h
    rfl
  · obtain ⟨p, l, pl, cs, rs, os, room, lp, d, ps, b, rfl, hPl, hN, ⟨rm, hnd, hpd⟩, hC, hP, kk⟩ := h
    have n_range := T.fr "range" (by decide +kernel)
    have g_law_draw := T.gl "_law_draw" (by decide +kernel)
    have g_law_block := T.gl "_law_block" (by decide +kernel)
    have g_law_simple := T.gl "_law_simple" (by decide +kernel)
    have g_law_count := T.gl "_law_count" (by decide +kernel)
    have n_tuple := T.fr "tuple" (by decide +kernel)
    refine ⟨_, PSs.nox (pss_cons (ps_set (i := 5) sc_law_part.nd rfl (Or.inl rfl) (pe_lst pa_nil)) (pss_cons (ps_set (i := 6) sc_law_part.nd rfl (Or.inl rfl) (pv 2)) (pss_cons (ps_for PassesOwn.never rfl (pi_range1 (by rfl) n_range (pa_cons (pe_call G_law_draw (hr.mono (by omega)) (by rfl) g_law_draw kp_law_draw b_law_draw .nil pass0 (pa_cons (pv 0) (pa_cons (pe_op op_add (pv 2) pe_int) pa_nil))) pa_nil)) (pg_name (i := 7) sc_law_part.nd rfl (Or.inl rfl)) (pss_one (ps_if (pt_cmpR op_gt (pv 6) pe_int (nomark _)) (pss_cut (ps_if (PW.pt (pw_and (pt_cmpR op_lt (pv 4) pe_int (nomark _)) (pw_and1 (pt_cmpR op_eq (pe_call G_law_draw (hr.mono (by omega)) (by rfl) g_law_draw kp_law_draw b_law_draw .nil pass0 (pa_cons (pv 0) (pa_cons pe_int pa_nil))) pe_int (nomark _))))) (pss_one (ps_set (i := 8) sc_law_part.nd rfl (Or.inl rfl) (pe_call G_law_block (hr.mono (by omega)) (by rfl) g_law_block kp_law_block b_law_block .nil pass0 (pa_cons (pv 0) (pa_cons (pv 1) (pa_cons (pv 6) (pa_cons (pv 3) (pa_cons (pv 4) pa_nil)))))))) (pss_one (ps_set (i := 8) sc_law_part.nd rfl (Or.inl rfl) (pe_call G_law_simple (hr.mono (by omega)) (by rfl) g_law_simple kp_law_simple b_law_simple .nil pass0 (pa_cons (pv 0) (pa_cons (pv 1) (pa_cons (pv 3) pa_nil))))))) (pss_cons (ps_set (i := 6) sc_law_part.nd rfl (Or.inl rfl) (pe_op op_sub (pv 6) (pe_call G_law_count (hr.mono (by omega)) (by rfl) g_law_count kp_law_count b_law_count .nil pass0 (pa_cons (pe_tup (pa_cons (pv 8) pa_nil)) pa_nil)))) (pss_one (ps_expr (pe_bm PySem.F.plainAttrs_list PySem.F.slot_list_append PySem.F.type_list_append mt_append (pv 5) (pa_cons (pv 8) pa_nil)))))) pss_nil))) (pss_one (ps_ret (pe_callTy call_tuple_of (by rfl) n_tuple (by decide +kernel) (pa_cons (pv 5) pa_nil))))))), ?_⟩
    obtain ⟨hok, ⟨z1, z2, z3⟩, hne⟩ := id hN
    refine q_asgL (el_lst ea_nil (by decide)) fun B H1 hB e1 g1 => ?_
    refine q_asg (ev_var rfl) fun H2 e2 => ?_
    have nB := hP.new hB
    have e12 := e1.trans e2
    refine ⟨.ref p, rfl, .int (room : Nat), rfl, (room : Nat), 1, rfl, rfl, p, l, ((room : Nat) : Int) + 1, b + 14 * (12 + 2 * Pn m), rfl, ⟨by omega, by omega⟩, (hP.ex e12).less (by show b + 14 * (12 + 2 * Pn m) + 1 ≤ b + (1 + 14 * (12 + 2 * Pn m)); omega), fun r H3 hr3 px3 pen3 => ?_⟩
    obtain ⟨rr, rfl, hrr⟩ := nat_of hr3
    refine ⟨(rr : Nat), rfl, by omega, by omega, ?_⟩
    refine for_range (lo := 0) (n := ((rr : Nat) : Int).toNat) (fun i σ' H' => ∃ ss vs left v7 v8, σ' = [some (.ref p), some (.ref pl), some (.int (room : Nat)), some (.bl lp), some (.int (d : Nat)), some (.ref B), some (.int (left : Nat)), v7, v8] ∧ H' B = some (.lst vs) ∧ DpAll K H' vs ss ∧ Tts (2 * (m + 1)) ss ∧ Val cs rs os (m + 1) ps ss ∧ cnt (m + 1) ss + left ≤ room ∧ Px p l H H' ∧ Pen p l (b + (14 - i) * (12 + 2 * Pn m)) H')
      ⟨[], [], room, _, _, rfl, px3.get nB.1 nB.2 (e2 _ _ g1), .nil, .nil, (fun s hs => nomatch hs), (by show 0 + room ≤ room; omega), (Px.of e12).trans px3, pen3⟩ (fun i σ' H4 hi hI => ?_) (fun σ' H' hI => ?_)
    · obtain ⟨ss, vs, left, v7, v8, rfl, gB, dB, tB, vB, cB, pxA, penA⟩ := hI
      have hi2 : i < rr := by omega
      have eqB : (14 - i) * (12 + 2 * Pn m) = (14 - (i + 1)) * (12 + 2 * Pn m) + (12 + 2 * Pn m) := by
        obtain ⟨q, hq⟩ : ∃ q, 14 - i = q + 1 := ⟨14 - i - 1, by omega⟩
        rw [hq, show 14 - (i + 1) = q by omega, Nat.succ_mul]
      rw [eqB] at penA
      rw [show (0 : Int) + (i : Int) = ((i : Nat) : Int) by omega]
      dsimp only [gName, List.set]
      refine s_when (b := decide ((0 : Int) < (left : Nat))) (et_test (ev_op (ev_var rfl) ev_c rv_I0)) (fun hb H5 e6 => ?_) (fun hb H5 e6 => ?_)
      · have hleft := of_decide_eq_true hb
        replace pxA := pxA.trans (Px.of (p := p) (l := l) e6)
        replace penA := penA.ex e6
        have gB' := e6 _ _ gB
        have dB' := dpMs e6 _ _ dB
        refine q_cut (M := fun σ' H' => ∃ v s, σ' = [some (.ref p), some (.ref pl), some (.int (room : Nat)), some (.bl lp), some (.int (d : Nat)), some (.ref B), some (.int (left : Nat)), some (.int (i : Nat)), some v] ∧ Px p l H H' ∧ Pen p l (b + (14 - (i + 1)) * (12 + 2 * Pn m)) H' ∧ Px p l H5 H' ∧ Dp K H' v s ∧ Val cs rs os (m + 1) ps [s] ∧ Tt (2 * (m + 1)) s ∧ cnt (m + 1) [s] ≤ left) ?_ fun σ6 H6 hM => ?_
        · refine ⟨.int (d : Nat), rfl, (d : Nat), 3, rfl, rfl, _, rfl, ite2 (fun _ => ?_) (fun h => absurd (decide_eq_true (by omega)) h)⟩
          refine ⟨.ref p, rfl, p, l, 3, b + (14 - (i + 1)) * (12 + 2 * Pn m) + (11 + 2 * Pn m), rfl, ⟨by decide, by decide⟩, penA.less (by omega), fun r H6' hr6 pxq penq => ⟨rfl, _, rfl, ite2 (fun _ => ?_) (fun _ => ?_)⟩⟩
          · refine ⟨.ref p, rfl, .ref pl, rfl, .int (left : Nat), rfl, .bl lp, rfl, .int (d : Nat), rfl, p, l, pl, cs, rs, os, left, lp, d, ps, b + (14 - (i + 1)) * (12 + 2 * Pn m), rfl, hPl.px hP (pxA.trans pxq), hN, ⟨by omega, by omega, by omega, hpd, hm⟩, hC, penq.less (by omega), fun a s H7 px7 pen7 d7 v7 t7 c7 => ?_⟩
            exact ⟨.ref a, s, rfl, (pxA.trans pxq).trans px7, pen7, pxq.trans px7, d7, v7, t7, c7⟩
          · refine ⟨.ref p, rfl, .ref pl, rfl, .bl lp, rfl, p, l, pl, cs, rs, os, lp, b + (14 - (i + 1)) * (12 + 2 * Pn m), rfl, hPl.px hP (pxA.trans pxq), hN, penq.less (by omega), fun v s H6 px6 pen6 d6 s6 => ?_⟩
            obtain ⟨y1, y2, y3⟩ := sim_val (n := m) hC s6
            exact ⟨v, s, rfl, (pxA.trans pxq).trans px6, pen6, pxq.trans px6, d6, y1, y2, by omega⟩
        obtain ⟨v, s, rfl, px7, pen7, px8, d7, v7', t7, c7⟩ := hM
        have gB7 := px8.get nB.1 nB.2 gB'
        have dB7 := dps_px penA px8 tB dB'
        have lv := dpAll_len dB7
        have ls := len_cnt (n := m) (ss := ss)
        have h1c : 1 ≤ cnt (m + 1) [s] := len_cnt (n := m) (ss := [s])
        refine ⟨.int (left : Nat), rfl, v, rfl, (show 1 ≤ sizeLine by decide), fun tp htp => ?_⟩
        have e8 := Ex.new (o := .tup [v]) htp
        refine ⟨tp, [s], 2 * (m + 1), rfl, .tup (st_of upd_same) (.cons (dpM e8 _ _ d7) .nil), .cons t7 .nil, v7'.hb, fun H9 e9 => ⟨(left : Nat), _, rfl, rfl, ?_⟩⟩
        have e89 := e8.trans e9
        dsimp only [gName, List.set]
        rw [show ((left : Nat) : Int) - ((cnt (m + 1) [s] : Nat) : Int) = ((left - cnt (m + 1) [s] : Nat) : Int) by omega]
        refine s_app (e89 _ _ gB7) (ev_var rfl) (ev_var rfl) (by omega) fun H10 e10 => ?_
        have eA := e89.trans e10
        have gA := eA _ _ gB7
        refine ⟨ss ++ [s], vs ++ [v], left - cnt (m + 1) [s], _, _, rfl, upd_same, ?_, tB.app (.cons t7 .nil), val_app vB v7', by rw [cnt_app]; omega, (px7.trans (Px.of eA)).upd (.inr (.inr hB)), (pen7.ex eA).upd nB.1 nB.2⟩
        exact dpAll_add (dps_off gA tB (dpMs eA _ _ dB7)) (dp_off gA t7 (dpM eA _ _ d7))
      · exact ⟨ss, vs, left, _, _, rfl, e6 _ _ gB, dpMs e6 _ _ dB, tB, vB, cB, pxA.trans (Px.of e6), (penA.ex e6).less (by omega)⟩
    · obtain ⟨ss, vs, left, v7, v8, rfl, gB, dB, tB, vB, cB, pxA, penA⟩ := hI
      refine ⟨.ref B, rfl, B, vs, rfl, .inl ⟨sq_of gB, fun u hu => ?_⟩⟩
      have eu := Ex.new (o := .tup vs) hu
      exact kk u ss _ (pxA.trans (Px.of eu)) ((penA.ex eu).less (by omega)) (.tup (st_of upd_same) (dpMs eu _ _ dB)) ⟨vB, tB, by omega⟩

end
end K05
set_option Elab.async false
set_option linter.all false
set_option maxRecDepth 100000
set_option maxHeartbeats 8000000
namespace K05
open PySem PySem.Spec PyProof.Rows L2 He XH XV XR PEN TR Evl


theorem blk_app (ps : List (Str × Nat)) (w : Str) (j : Nat) : (ps ++ [(w, j)]).map blk = ps.map blk ++ [.tuple [.str w, .int (j : Nat)]] := by
  rw [List.map_append]
  rfl
theorem le_sum : ∀ {l : List Nat} {x : Nat}, x ∈ l → x ≤ l.sum
  | y :: r, x, h => by
    rw [List.sum_cons]
    rcases List.mem_cons.mp h with e | k
    · omega
    · have z := le_sum k
      omega
theorem Val.sh {cs rs os : List Str} : ∀ {n : Nat} {ps : List (Str × Nat)} {ss : List PyData}, Val cs rs os n ps ss → ss.length ≤ 14 → cnt n ss ≤ 14 → Bod n ss
  | 0, _, _, h, _, _ => h
  | n + 1, ps, ss, h, hl, hc => ⟨Nat.le_succ_of_le hl, fun s hs => by
    obtain ⟨hw, _, _, hp⟩ := h s hs
    refine ⟨hw.sh, fun p hpm => ?_⟩
    obtain ⟨j, hj⟩ := List.mem_iff_getElem?.mp hpm
    obtain ⟨ds, e2, hv⟩ := hp j p hj
    have c1 : cnt n ds ≤ 14 := by
      have k1 : 1 + ((parts s).map fun p => cnt n (bodyOf p)).sum ≤ cnt (n + 1) ss := by
        show _ ≤ (ss.map _).sum
        exact le_sum (List.mem_map.mpr ⟨s, hs, rfl⟩)
      have k2 : cnt n (bodyOf p) ≤ ((parts s).map fun p => cnt n (bodyOf p)).sum := le_sum (List.mem_map.mpr ⟨p, hpm, rfl⟩)
      rw [e2] at k2
      have k3 : cnt n ds ≤ ((parts s).map fun p => cnt n (bodyOf p)).sum := k2
      omega
    refine ⟨ds, e2, hv.sh ?_ c1⟩
    match n, hv, c1 with
    | 0, hv, _ => rw [show ds = [] from hv]; decide
    | n + 1, hv, c1 => exact Nat.le_trans len_cnt c1⟩
theorem nums_cnt : ∀ {n : Nat} {ss as : List PyData}, Hb n ss → (nums n ss as).length = cnt n ss
  | 0, _, _, _ => rfl
  | n + 1, ss, as, h => by
    show (ss.flatMap _).length = (ss.map _).sum
    rw [List.length_flatMap]
    congr 1
    refine List.map_congr_left fun s hs => ?_
    obtain ⟨_, hp⟩ := h s hs
    rw [List.length_cons, List.length_flatMap]
    have k : ((parts s).zipIdx.map fun p => (nums n (bodyOf p.1) (as ++ [.tuple [wordOf s, .int (p.2 : Nat)]])).length) = (parts s).map fun p => cnt n (bodyOf p) := by
      refine List.ext_getElem? fun i => ?_
      rw [List.getElem?_map, List.getElem?_map, List.getElem?_zipIdx]
      cases q : (parts s)[i]? with
      | none => rfl
      | some p =>
        obtain ⟨ds, e, hb⟩ := hp p (List.mem_of_getElem? q)
        show some _ = some _
        rw [e]
        exact congrArg some (nums_cnt hb)
    rw [k]
    omega
def Sts (cs rs os : List Str) (q : PyData × List PyData) : Prop := Wf cs rs os q.1 ∧ ∃ wd ps, wordOf q.1 = .str wd ∧ q.2 = ps.map blk ∧ (∀ p ∈ ps, p.1 ∈ words) ∧ ps.length ≤ 10 ∧ Placed wd ps ∧ (parts q.1 ≠ [] → ps.length ≤ 2)
theorem val_nums {cs rs os : List Str} : ∀ {n : Nat} {ps : List (Str × Nat)} {ss : List PyData}, Val cs rs os n ps ss → (∀ p ∈ ps, p.1 ∈ words) → n + ps.length ≤ 10 → ∀ q ∈ nums n ss (ps.map blk), Sts cs rs os q
  | 0, _, _, _, _, _, q, hq => by cases hq
  | n + 1, ps, ss, h, hw, hl, q, hq => by
    obtain ⟨s, hs, hq⟩ := List.mem_flatMap.mp hq
    obtain ⟨hwf, hpl, hdp, hp⟩ := h s hs
    obtain ⟨w, ks, args, es, hk, _⟩ := id hwf
    have ew : wordS s = w := by rw [es]; rfl
    have ew2 : wordOf s = .str w := by rw [es]; rfl
    have ww : w ∈ words := List.mem_map.mpr ⟨_, hk, rfl⟩
    rcases List.mem_cons.mp hq with e | hq
    · rw [e]
      exact ⟨hwf, w, ps, ew2, rfl, hw, by omega, by rw [← ew]; exact hpl, hdp⟩
    · obtain ⟨⟨p, j⟩, hm, hq⟩ := List.mem_flatMap.mp hq
      have hj : (parts s)[j]? = some p := by
        have z := List.mem_zipIdx hm
        obtain ⟨_, z2, z3⟩ := z
        simp only [Nat.sub_zero] at z3
        rw [z3]
        exact List.getElem?_eq_getElem _
      obtain ⟨ds, e, hv⟩ := hp j p hj
      simp only at hq
      rw [e, ew2, ← blk_app] at hq
      rw [ew] at hv
      refine val_nums hv (fun x hx => ?_) (by rw [List.length_append]; show n + (ps.length + 1) ≤ 10; omega) q hq
      rcases List.mem_append.mp hx with k | k
      · exact hw x k
      · rw [List.mem_singleton.mp k]
        exact ww
theorem part_body {cs rs os : List Str} {room : Nat} {ss : List PyData} (h : PartOk cs rs os 4 [] room ss) (hr : room ≤ 14) : BodV cs rs os ss := by
  have hf := h.few
  have hl : ss.length ≤ cnt 4 ss := len_cnt (n := 3) (ss := ss)
  refine ⟨⟨⟨8, by decide, .tup (by omega) h.tt⟩, h.val.sh (by omega) (by omega)⟩, ?_, fun q hq => ?_⟩
  · rw [nums_cnt h.val.hb]
    omega
  · exact val_nums (ps := []) h.val (fun p hp => nomatch hp) (by decide) q hq

end K05
set_option Elab.async false
set_option linter.all false
set_option maxRecDepth 100000
set_option maxHeartbeats 8000000
namespace K05
open PySem PySem.Spec PyProof.Rows L2 He XH XV XR PEN TR Evl


mutual
theorem dp_dk2 {K : PySem.W.Frag} {H : Hp} {D : Addr} {ks : List (Key × V)} {o : HO} (hD : H D = some (.dK ks)) : ∀ {n : Nat} {d : PyData} {v : V}, Tt n d → Dp K H v d → Dp K (upd H D o) v d
  | _, _, _, .str _, h => by
    cases h
    exact .str _
  | _, _, _, .int _, h => by
    cases h
    exact .int _
  | _, _, _, .tup _ hs, h => by
    cases h with
    | @tup a xs _ h1 h2 =>
      refine .tup ?_ (dps_dk2 hD hs h2)
      rcases h1 with (h1 | ⟨ob, h1⟩) | h1
      · exact .inl (.inl ((upd_ne (fun e => by rw [e, hD] at h1; cases h1)).trans h1))
      · exact .inl (.inr ⟨ob, (upd_ne (fun e => by rw [e, hD] at h1; cases h1)).trans h1⟩)
      · exact .inr h1
theorem dps_dk2 {K : PySem.W.Frag} {H : Hp} {D : Addr} {ks : List (Key × V)} {o : HO} (hD : H D = some (.dK ks)) : ∀ {n : Nat} {ds : List PyData} {vs : List V}, Tts n ds → DpAll K H vs ds → DpAll K (upd H D o) vs ds
  | _, _, _, .nil, h => by
    cases h
    exact .nil
  | _, _, _, .cons h1 r1, h => by
    cases h with
    | cons h2 r2 => exact .cons (dp_dk2 hD h1 h2) (dps_dk2 hD r1 r2)
end


theorem cut_mid {xs : List V} {i j : Nat} (h : i + j ≤ xs.length) : cutV xs (some (i : Int)) (some (((i + j : Nat)) : Int)) = (xs.drop i).take j := by
  unfold cutV
  rw [HT.sIx_nat, HT.sIx_nat, Nat.min_eq_left h, Nat.min_eq_left (show i ≤ xs.length by omega), Nat.add_sub_cancel_left]
/-- a whole plan -/
def PlF (K : PySem.W.Frag) (H : Hp) (pl : Addr) (cs rs os : List Str) (st : Str) (bds : List (List PyData)) : Prop := ∃ kvs c r o bd bkvs, H pl = some (.dK kvs) ∧ valV kvs (Sum.inr "cells") = some (.ref c) ∧ valV kvs (Sum.inr "rows") = some (.ref r) ∧ valV kvs (Sum.inr "order") = some (.ref o) ∧ valV kvs (Sum.inr "start") = some (.str st) ∧ valV kvs (Sum.inr "bodies") = some (.ref bd) ∧
  H c = some (.lst (cs.map V.str)) ∧ H r = some (.lst (rs.map V.str)) ∧ H o = some (.lst (os.map V.str)) ∧ H bd = some (.dK bkvs) ∧ bds.length = os.length ∧ (∀ (i : Nat) (z : Str) (ss : List PyData), os[i]? = some z → bds[i]? = some ss → ∃ b, valV bkvs (Sum.inr z) = some (.ref b) ∧ Dp K H (.ref b) (.tuple ss)) ∧ bkvs.length ≤ 3 ∧ bd ≠ pl ∧ kvs.length ≤ 10
def spPlan (K : PySem.W.Frag) : Sp := fun vs H Q _ => ∃ p l c r m room b, vs = [.ref p, .int (c : Nat), .int (r : Nat), .int (m : Nat), .int (room : Nat)] ∧ (c ≤ 3 ∧ r ≤ 2 ∧ 1 ≤ m ∧ m ≤ 3 ∧ room ≤ 14) ∧ Pen p l (b + (200 + 3 * Pn 4)) H ∧
  ∀ pl cs rs os st bds H', Px p l H H' → Pen p l b H' → PlF K H' pl cs rs os st bds → Names cs rs os st → (∀ ss ∈ bds, PartOk cs rs os 4 [] room ss) → Q (.ref pl) H'
theorem dp_dk {K : PySem.W.Frag} {H : Hp} {D : Addr} {ks : List (Key × V)} {o : HO} (hD : H D = some (.dK ks)) : ∀ {n : Nat} {d : PyData} {v : V}, Tt n d → Dp K H v d → Dp K (upd H D o) v d := by
  intro n d v ht hd
  exact dp_dk2 hD ht hd

section
variable {P : Program} {w : World} {K : PySem.W.Frag} {mg : Str → Option Value} {base : Heap}

theorem ok_law_plan {fd : FuncData} (F : FnP K "_law_plan" "_law_plan" s_law_plan (ga K "_law_plan") fd) (T : Tx K w mg) (c_law_names : Cl P w K mg base CX0 3 (ga K "_law_names") ["_law_pen", "_law_many"] (spNames K)) (c_law_pick : Cl P w K mg base CX0 2 (ga K "_law_pick") ["_law_pen", "_law_row"] (spPick K)) (c_law_part : Cl P w K mg base CX0 11 (ga K "_law_part") ["_law_pen", "_law_plan_here", "_law_room", "_law_looping", "_law_deep"] (spPart K 4)) : FnOk P w K mg base CX0 (11 + 1) (ga K "_law_plan") fd ["_law_pen", "_law_cells", "_law_rows", "_law_many", "_law_room"] (spPlan K) := by
  obtain ⟨fd_law_names, G_law_names, b_law_names, kp_law_names⟩ := c_law_names
  obtain ⟨fd_law_pick, G_law_pick, b_law_pick, kp_law_pick⟩ := c_law_pick
  obtain ⟨fd_law_part, G_law_part, b_law_part, kp_law_part⟩ := c_law_part
  refine FunD.ok F sc_law_plan (fun vs H Q E h => ?_) (fun cdv A outer s H vs Q E hr h => ?_)
  · obtain ⟨p, l, c, r, m, room, b, rfl, _⟩ := h
    rfl
  · obtain ⟨p, l, c, r, m, room, b, rfl, ⟨z1, z2, z3, z4, z5⟩, hP, kk⟩ := h
    have g_law_names := T.gl "_law_names" (by decide +kernel)
    have g_law_pick := T.gl "_law_pick" (by decide +kernel)
    have g_law_part := T.gl "_law_part" (by decide +kernel)
    refine ⟨_, PSs.nox (pss_cons (ps_set (i := 5) sc_law_plan.nd rfl (Or.inl rfl) (pe_call G_law_names (hr.mono (by decide)) (by rfl) g_law_names kp_law_names b_law_names .nil pass0 (pa_cons (pv 0) (pa_cons (pe_op op_add (pe_op op_add (pv 1) (pv 2)) (pv 3)) pa_nil))))
      (pss_cons (ps_set (i := 6) sc_law_plan.nd rfl (Or.inl rfl) (pe_disp (pps_cons pe_str (pe_slice sl_list (pv 5) po_none (po_some (pv 1))) (pps_cons pe_str (pe_slice sl_list (pv 5) (po_some (pv 1)) (po_some (pe_op op_add (pv 1) (pv 2)))) (pps_cons pe_str (pe_slice sl_list (pv 5) (po_some (pe_op op_add (pv 1) (pv 2))) po_none) pps_nil))) rfl rfl (by simp) (by decide)))
      (pss_cons (ps_asg (pe_call G_law_pick (hr.mono (by decide)) (by rfl) g_law_pick kp_law_pick b_law_pick .nil pass0 (pa_cons (pv 0) (pa_cons (pe_dget (Nat.lt_of_le_of_lt (Nat.add_le_add_left (by decide) _) hr.units) (pv 6) pe_str (fun _ _ => rfl)) pa_nil))) (pg_sub (pv 6) pe_str (set_dict (Nat.lt_of_le_of_lt (Nat.add_le_add_left (by decide) _) hr.units))))
      (pss_cons (ps_asg pe_dnewK (pg_sub (pv 6) pe_str (set_dict (Nat.lt_of_le_of_lt (Nat.add_le_add_left (by decide) _) hr.units))))
      (pss_cons (ps_for PassesOwn.never rfl (pi_list (pe_dget (Nat.lt_of_le_of_lt (Nat.add_le_add_left (by decide) _) hr.units) (pv 6) pe_str (fun _ _ => rfl))) (pg_name (i := 7) sc_law_plan.nd rfl (Or.inl rfl))
      (pss_one (ps_asg (pe_call G_law_part (hr.mono (by decide)) (by rfl) g_law_part kp_law_part b_law_part .nil pass0 (pa_cons (pv 0) (pa_cons (pv 6) (pa_cons (pv 4) (pa_cons pe_bl (pa_cons pe_int pa_nil)))))) (pg_sub (pe_dget (Nat.lt_of_le_of_lt (Nat.add_le_add_left (by decide) _) hr.units) (pv 6) pe_str (fun _ _ => rfl)) (pv 7) (set_dict (Nat.lt_of_le_of_lt (Nat.add_le_add_left (by decide) _) hr.units))))))
      (pss_one (ps_ret (pv 6)))))))), ?_⟩
    refine ⟨.ref p, rfl, .int (c : Nat), rfl, .int (r : Nat), rfl, (c : Nat), (r : Nat), rfl, rfl, .int (m : Nat), rfl, _, _, rfl, rfl, p, l, c + r + m, b + (20 + 3 * Pn 4), rfl, by omega, hP.less (by omega), fun q ys H1 hq g1 hlen hok px1 pen1 => ?_⟩
    have nq := hP.new hq
    dsimp only [gName, List.set]
    intro pl hpl
    have eP := Ex.new (o := .dK []) hpl
    refine ⟨.ref q, rfl, .int (c : Nat), rfl, (c : Nat), rfl, q, _, rfl, sq_of (eP _ _ g1), fun c1 hc1 => ?_⟩
    have e1 := Ex.new (o := .lst (cutV (ys.map V.str) none (some (c : Nat)))) hc1
    refine ⟨.ref q, rfl, .int (c : Nat), rfl, (c : Nat), rfl, .int (c : Nat), rfl, .int (r : Nat), rfl, (c : Nat), (r : Nat), rfl, rfl, ((c + r : Nat) : Int), rfl, q, _, rfl, sq_of (e1 _ _ (eP _ _ g1)), fun r1 hr1 => ?_⟩
    have e2 := Ex.new (o := .lst (cutV (ys.map V.str) (some (c : Nat)) (some ((c + r : Nat) : Int)))) hr1
    refine ⟨.ref q, rfl, .int (c : Nat), rfl, .int (r : Nat), rfl, (c : Nat), (r : Nat), rfl, rfl, ((c + r : Nat) : Int), rfl, q, _, rfl, sq_of (e2 _ _ (e1 _ _ (eP _ _ g1))), fun o1 ho1 => ?_⟩
    have e3 := Ex.new (o := .lst (cutV (ys.map V.str) (some ((c + r : Nat) : Int)) none)) ho1
    refine ⟨e3 _ _ (e2 _ _ (e1 _ _ upd_same)), [(Sum.inr "cells", .ref c1), (Sum.inr "rows", .ref r1), (Sum.inr "order", .ref o1)], rfl, (show 3 ≤ 15 by decide), ?_⟩
    have lys : (ys.map V.str).length = c + r + m := by rw [List.length_map, hlen]
    rw [cut_take, cut_mid (by omega), cut_drop, ← List.map_take, ← List.map_drop, ← List.map_drop, ← List.map_take] at *
    have eA := ((eP.trans e1).trans e2).trans e3
    have k0 : ∀ a, H1 a = none → a ≠ p ∧ a ≠ l := fun a h => pen1.new h
    have h3pl : upd (upd (upd (upd H1 pl (.dK [])) c1 (.lst ((ys.take c).map V.str))) r1 (.lst (((ys.drop c).take r).map V.str))) o1 (.lst ((ys.drop (c + r)).map V.str)) pl = some (.dK []) := e3 _ _ (e2 _ _ (e1 _ _ upd_same))
    have h3c : upd (upd (upd (upd H1 pl (.dK [])) c1 (.lst ((ys.take c).map V.str))) r1 (.lst (((ys.drop c).take r).map V.str))) o1 (.lst ((ys.drop (c + r)).map V.str)) c1 = some (.lst ((ys.take c).map V.str)) := e3 _ _ (e2 _ _ upd_same)
    have h3r : upd (upd (upd (upd H1 pl (.dK [])) c1 (.lst ((ys.take c).map V.str))) r1 (.lst (((ys.drop c).take r).map V.str))) o1 (.lst ((ys.drop (c + r)).map V.str)) r1 = some (.lst (((ys.drop c).take r).map V.str)) := e3 _ _ upd_same
    have h3o : upd (upd (upd (upd H1 pl (.dK [])) c1 (.lst ((ys.take c).map V.str))) r1 (.lst (((ys.drop c).take r).map V.str))) o1 (.lst ((ys.drop (c + r)).map V.str)) o1 = some (.lst ((ys.drop (c + r)).map V.str)) := upd_same
    have hpl0 : H pl = none := px1.fresh (k0 pl hpl).1 (k0 pl hpl).2 hpl
    have npl := k0 pl hpl
    generalize upd (upd (upd (upd H1 pl (.dK [])) c1 (.lst ((ys.take c).map V.str))) r1 (.lst (((ys.drop c).take r).map V.str))) o1 (.lst ((ys.drop (c + r)).map V.str)) = H3 at eA h3pl h3c h3r h3o
    clear e1 e2 e3 eP hc1 hr1 ho1
    have kv0 : ∃ kv, mergeK [] [((Sum.inr "cells" : Key), V.ref c1), (Sum.inr "rows", .ref r1), (Sum.inr "order", .ref o1)] = kv ∧ kv.length = 3 ∧ valV kv (Sum.inr "cells") = some (.ref c1) ∧ valV kv (Sum.inr "rows") = some (.ref r1) ∧ valV kv (Sum.inr "order") = some (.ref o1) := ⟨_, rfl, by rfl, by rfl, by rfl, by rfl⟩
    obtain ⟨kv, ekv, lkv, v1, v2, v3⟩ := kv0
    have ek : mergeK [] [((Sum.inr (Str.ofString "cells") : Key), V.ref c1), (Sum.inr (Str.ofString "rows"), V.ref r1), (Sum.inr (Str.ofString "order"), V.ref o1)] = kv := ekv
    rw [ek]
    have nD : ∀ {a : Addr} {zs : List Str}, H3 a = some (.lst (zs.map V.str)) → a ≠ pl := fun h e => by rw [e, h3pl] at h; cases h
    have g4 : upd H3 pl (.dK kv) pl = some (.dK kv) := upd_same
    have g4c := (upd_ne (o := .dK kv) (nD h3c)).trans h3c
    have g4r := (upd_ne (o := .dK kv) (nD h3r)).trans h3r
    have g4o := (upd_ne (o := .dK kv) (nD h3o)).trans h3o
    have px4 : Px p l H (upd H3 pl (.dK kv)) := (px1.trans (Px.of eA)).upd (.inr (.inr hpl0))
    have pen4 : Pen p l (b + (20 + 3 * Pn 4)) (upd H3 pl (.dK kv)) := (pen1.ex eA).upd npl.1 npl.2
    generalize upd H3 pl (.dK kv) = H4 at g4 g4c g4r g4o px4 pen4
    clear nD h3pl h3c h3r h3o
    have eall : ys.take c ++ (ys.drop c).take r ++ ys.drop (c + r) = ys := by
      rw [List.append_assoc, ← List.drop_drop, List.take_append_drop, List.take_append_drop]
    have hN : Nms (ys.take c) ((ys.drop c).take r) (ys.drop (c + r)) := by
      refine ⟨by rw [eall]; exact hok, ⟨?_, ?_, ?_⟩, fun e => ?_⟩
      · rw [List.length_take]; omega
      · rw [List.length_take, List.length_drop]; omega
      · rw [List.length_drop]; omega
      · have z := congrArg List.length e
        rw [List.length_drop] at z
        simp only [List.length_nil] at z
        omega
    generalize ys.take c = cs at *
    generalize (ys.drop c).take r = rs at *
    generalize ys.drop (c + r) = os at *
    dsimp only [gName, List.set]
    have no := strs_off pen4 g4o
    obtain ⟨hok2, hsz2, hne2⟩ := id hN
    -- the start
    refine ⟨.ref p, rfl, .ref pl, rfl, pl, .ref o1, rfl, .inl ⟨kv, Sum.inr "order", .inl g4, rfl, v3.symm⟩, p, l, o1, _, b + (10 + 3 * Pn 4), rfl, sq_of ((cut_at no.1 no.2).trans g4o), ⟨fun e => hne2 (List.map_eq_nil_iff.mp e), by rw [List.length_map]; omega⟩, pen4.less (by omega), fun v H5 hv px5 pen5 => ?_⟩
    obtain ⟨st, hst, rfl⟩ := List.mem_map.mp hv
    have nc := strs_off pen4 g4c
    have nr := strs_off pen4 g4r
    have g5 := px5.get npl.1 npl.2 g4
    have g5c := px5.get nc.1 nc.2 g4c
    have g5r := px5.get nr.1 nr.2 g4r
    have g5o := px5.get no.1 no.2 g4o
    refine ⟨.ref pl, rfl, pl, _, rfl, .inl ⟨kv, Sum.inr "start", g5, rfl, small1000 (by omega), rfl⟩, ?_⟩
    have nD : ∀ {a : Addr} {zs : List Str}, H5 a = some (.lst (zs.map V.str)) → a ≠ pl := fun h e => by rw [e, g5] at h; cases h
    have w1 : valV (putK kv (Sum.inr "start") (V.str st)) (Sum.inr "cells") = some (.ref c1) := by rw [valV_put, if_neg (by decide +kernel)]; exact v1
    have w2 : valV (putK kv (Sum.inr "start") (V.str st)) (Sum.inr "rows") = some (.ref r1) := by rw [valV_put, if_neg (by decide +kernel)]; exact v2
    have w3 : valV (putK kv (Sum.inr "start") (V.str st)) (Sum.inr "order") = some (.ref o1) := by rw [valV_put, if_neg (by decide +kernel)]; exact v3
    have w4 : valV (putK kv (Sum.inr "start") (V.str st)) (Sum.inr "start") = some (.str st) := by rw [valV_put, if_pos rfl]
    have lw := length_putK kv (Sum.inr "start") (V.str st)
    generalize putK kv (Sum.inr "start") (V.str st) = kw at w1 w2 w3 w4 lw ⊢
    have g6 : upd H5 pl (.dK kw) pl = some (.dK kw) := upd_same
    have g6c := (upd_ne (o := .dK kw) (nD g5c)).trans g5c
    have g6r := (upd_ne (o := .dK kw) (nD g5r)).trans g5r
    have g6o := (upd_ne (o := .dK kw) (nD g5o)).trans g5o
    have px6 : Px p l H (upd H5 pl (.dK kw)) := (px4.trans px5).upd (.inr (.inr hpl0))
    have pen6 : Pen p l (b + (10 + 3 * Pn 4)) (upd H5 pl (.dK kw)) := pen5.upd npl.1 npl.2
    generalize upd H5 pl (.dK kw) = H6 at g6 g6c g6r g6o px6 pen6
    clear nD
    -- the bodies
    intro bd hbd
    have nbd : bd ≠ p ∧ bd ≠ l := pen6.new hbd
    have eb := Ex.new (o := .dK []) hbd
    refine ⟨.ref pl, rfl, pl, _, rfl, .inl ⟨kw, Sum.inr "bodies", eb _ _ g6, rfl, small1000 (by omega), rfl⟩, ?_⟩
    have hbd0 : H bd = none := px6.fresh nbd.1 nbd.2 hbd
    have npb : bd ≠ pl := fun e => by rw [e, g6] at hbd; cases hbd
    have nD : ∀ {a : Addr} {zs : List Str}, H6 a = some (.lst (zs.map V.str)) → a ≠ pl := fun h e => by rw [e, g6] at h; cases h
    have x1 : valV (putK kw (Sum.inr "bodies") (V.ref bd)) (Sum.inr "cells") = some (.ref c1) := by rw [valV_put, if_neg (by decide +kernel)]; exact w1
    have x2 : valV (putK kw (Sum.inr "bodies") (V.ref bd)) (Sum.inr "rows") = some (.ref r1) := by rw [valV_put, if_neg (by decide +kernel)]; exact w2
    have x3 : valV (putK kw (Sum.inr "bodies") (V.ref bd)) (Sum.inr "order") = some (.ref o1) := by rw [valV_put, if_neg (by decide +kernel)]; exact w3
    have x4 : valV (putK kw (Sum.inr "bodies") (V.ref bd)) (Sum.inr "start") = some (.str st) := by rw [valV_put, if_neg (by decide +kernel)]; exact w4
    have x5 : valV (putK kw (Sum.inr "bodies") (V.ref bd)) (Sum.inr "bodies") = some (.ref bd) := by rw [valV_put, if_pos rfl]
    have lx := length_putK kw (Sum.inr "bodies") (V.ref bd)
    generalize putK kw (Sum.inr "bodies") (V.ref bd) = kx at x1 x2 x3 x4 x5 lx ⊢
    have g7 : upd (upd H6 bd (.dK [])) pl (.dK kx) pl = some (.dK kx) := upd_same
    have g7b : upd (upd H6 bd (.dK [])) pl (.dK kx) bd = some (.dK []) := (upd_ne npb).trans upd_same
    have g7c := (upd_ne (o := .dK kx) (nD g6c)).trans (eb _ _ g6c)
    have g7r := (upd_ne (o := .dK kx) (nD g6r)).trans (eb _ _ g6r)
    have g7o := (upd_ne (o := .dK kx) (nD g6o)).trans (eb _ _ g6o)
    have px7 : Px p l H (upd (upd H6 bd (.dK [])) pl (.dK kx)) := (px6.trans (Px.of eb)).upd (.inr (.inr hpl0))
    have pen7 : Pen p l (b + (10 + 3 * Pn 4)) (upd (upd H6 bd (.dK [])) pl (.dK kx)) := (pen6.ex eb).upd npl.1 npl.2
    generalize upd (upd H6 bd (.dK [])) pl (.dK kx) = H7 at g7 g7b g7c g7r g7o px7 pen7
    refine ⟨.ref pl, rfl, pl, .ref o1, rfl, .inl ⟨kx, Sum.inr "order", .inl g7, rfl, x3.symm⟩, o1, rfl, ⟨_, sq_of g7o⟩, ?_⟩
    have hok3 : NamesOk os := ⟨(List.nodup_append.mp hok2.1).2.1, fun y hy => hok2.2 y (List.mem_append_right _ hy)⟩
    refine for_list (xs := os.map V.str) (fun i σ' H' => ∃ bk bds v7, σ' = [some (.ref p), some (.int (c : Nat)), some (.int (r : Nat)), some (.int (m : Nat)), some (.int (room : Nat)), some (.ref q), some (.ref pl), v7] ∧ H' pl = some (.dK kx) ∧ H' bd = some (.dK bk) ∧ (H' c1 = some (.lst (cs.map V.str)) ∧ H' r1 = some (.lst (rs.map V.str)) ∧ H' o1 = some (.lst (os.map V.str))) ∧ bds.length = i ∧ bk.length ≤ i ∧
        (∀ (j : Nat) (z : Str) (ss : List PyData), os[j]? = some z → bds[j]? = some ss → ∃ a, valV bk (Sum.inr z) = some (.ref a) ∧ Dp K H' (.ref a) (.tuple ss)) ∧ (∀ ss ∈ bds, PartOk cs rs os 4 [] room ss) ∧ Px p l H H' ∧ Pen p l (b + (3 - i) * Pn 4) H')
      ⟨[], [], _, rfl, g7, g7b, ⟨g7c, g7r, g7o⟩, rfl, Nat.le_refl _, (fun j z ss _ h => nomatch h), (fun ss h => nomatch h), px7, pen7.less (by omega)⟩ (fun i σ' H' _ hI => ?_) (fun i x σ' H' hx hI => ?_) (fun σ' H' hI => ?_)
    · obtain ⟨bk, bds, v7, rfl, k1, k2, ⟨k3, k4, k5⟩, k6, k7, k8, k9, k10, k11⟩ := hI
      exact sq_of k5
    · obtain ⟨bk, bds, v7, rfl, k1, k2, ⟨k3, k4, k5⟩, k6, k7, k8, k9, k10, k11⟩ := hI
      rw [List.getElem?_map] at hx
      cases q1 : os[i]? with
      | none =>
        rw [q1] at hx
        cases hx
      | some z =>
        rw [q1] at hx
        cases hx
        have hi := (List.getElem?_eq_some_iff.mp q1).1
        have eqB : (3 - i) * Pn 4 = (3 - (i + 1)) * Pn 4 + Pn 4 := by
          obtain ⟨t, ht⟩ : ∃ t, 3 - i = t + 1 := ⟨3 - i - 1, by omega⟩
          rw [ht, show 3 - (i + 1) = t by omega, Nat.succ_mul]
        rw [eqB] at k11
        dsimp only [gName, List.set]
        refine ⟨.ref p, rfl, .ref pl, rfl, .int (room : Nat), rfl, p, l, pl, cs, rs, os, room, false, 0, [], b + (3 - (i + 1)) * Pn 4, rfl, ⟨kx, c1, r1, o1, k1, x1, x2, x3, k3, k4, k5⟩, hN, ⟨z5, by decide, rfl⟩, ⟨(fun h => nomatch h), (fun h => nomatch h), fun x h => nomatch h⟩, k11.less (by omega), fun a ss H8 px8 pen8 d8 ok8 => ?_⟩
        have n1 := strs_off k11 k3
        have n2 := strs_off k11 k4
        have n3 := strs_off k11 k5
        have m1 := px8.get npl.1 npl.2 k1
        have m2 := px8.get nbd.1 nbd.2 k2
        have m3 := px8.get n1.1 n1.2 k3
        have m4 := px8.get n2.1 n2.2 k4
        have m5 := px8.get n3.1 n3.2 k5
        have nE : ∀ {a : Addr} {zs : List Str}, H8 a = some (.lst (zs.map V.str)) → a ≠ bd := fun h e => by rw [e, m2] at h; cases h
        have ln := len_cnt' (n := 4) (ss := ss) (by decide)
        have fw := ok8.few
        have t8 : Tt 9 (.tuple ss) := .tup (by omega) ok8.tt
        refine ⟨.ref pl, rfl, pl, .ref bd, rfl, .inl ⟨kx, Sum.inr "bodies", .inl m1, rfl, x5.symm⟩, .str z, rfl, bd, _, rfl, .inl ⟨bk, Sum.inr z, m2, rfl, small1000 (by omega), rfl⟩, ?_⟩
        have lk := length_putK bk (Sum.inr z) (V.ref a)
        refine ⟨putK bk (Sum.inr z) (V.ref a), bds ++ [ss], _, rfl, (upd_ne (Ne.symm npb)).trans m1, upd_same, ⟨(upd_ne (nE m3)).trans m3, (upd_ne (nE m4)).trans m4, (upd_ne (nE m5)).trans m5⟩, by rw [List.length_append, k6]; rfl, by omega, fun j z' ss' hj hb => ?_, fun x hx => ?_, (k10.trans px8).upd (.inr (.inr hbd0)), pen8.upd nbd.1 nbd.2⟩
        · rcases Nat.lt_or_ge j bds.length with h | h
          · rw [List.getElem?_append_left h] at hb
            obtain ⟨a', ha', da'⟩ := k8 j z' ss' hj hb
            have hz : z' ≠ z := by
              intro e
              subst e
              obtain ⟨b1, b2⟩ := List.getElem?_eq_some_iff.mp hj
              obtain ⟨b3, b4⟩ := List.getElem?_eq_some_iff.mp q1
              exact (List.pairwise_iff_getElem.mp hok3.1) j i b1 b3 (by omega) (b2.trans b4.symm)
            refine ⟨a', ?_, ?_⟩
            · rw [valV_put, if_neg (fun e => hz (Sum.inr.inj e))]
              exact ha'
            · have hm := List.mem_of_getElem? hb
              have ok' := k9 ss' hm
              have ln' := len_cnt' (n := 4) (ss := ss') (by decide)
              have fw' := ok'.few
              exact dp_dk m2 (n := 9) (.tup (by omega) ok'.tt) (dp_px k11 px8 (m := 9) (.tup (by omega) ok'.tt) da')
          · rw [List.getElem?_append_right h] at hb
            have j0 : j - bds.length = 0 := by
              rcases Nat.eq_zero_or_pos (j - bds.length) with y | y
              · exact y
              · rw [List.getElem?_eq_none (show [ss].length ≤ j - bds.length from y)] at hb
                cases hb
            rw [j0] at hb
            cases hb
            have ji : j = i := by omega
            subst ji
            rw [q1] at hj
            cases hj
            exact ⟨a, by rw [valV_put, if_pos rfl], dp_dk m2 t8 d8⟩
        · rcases List.mem_append.mp hx with h | h
          · exact k9 x h
          · rw [List.mem_singleton.mp h]
            exact ok8
    · obtain ⟨bk, bds, v7, rfl, k1, k2, ⟨k3, k4, k5⟩, k6, k7, k8, k9, k10, k11⟩ := hI
      rw [List.length_map] at k6
      exact ⟨.ref pl, rfl, kk pl cs rs os st bds H' k10 (k11.less (by omega)) ⟨kx, c1, r1, o1, bd, bk, k1, x1, x2, x3, x4, x5, k3, k4, k5, k2, k6, k8, by rw [List.length_map] at k7; omega, npb, by omega⟩ ⟨hsz2, hok2, hst⟩ k9⟩

end
end K05
set_option Elab.async false
set_option linter.all false
set_option maxRecDepth 100000
set_option maxHeartbeats 8000000
namespace K05
open PySem PySem.Spec PyProof.Rows L2 He XH XV XR PEN TR Evl


def spDrawn (K : PySem.W.Frag) : Sp := fun vs H Q _ => ∃ p l room b, vs = [.ref p, .int (room : Nat)] ∧ room ≤ 14 ∧ Pen p l (b + (203 + 3 * Pn 4)) H ∧ ∀ pl cs rs os st bds H', Px p l H H' → Pen p l b H' → PlF K H' pl cs rs os st bds → Names cs rs os st → (∀ ss ∈ bds, BodV cs rs os ss) → Q (.ref pl) H'
def spCode (K : PySem.W.Frag) : Sp := fun vs H Q _ => ∃ pl cs rs os st bds, vs = [.ref pl] ∧ PlF K H pl cs rs os st bds ∧ Names cs rs os st ∧ (∀ ss ∈ bds, BodV cs rs os ss) ∧ ∀ a c r f fos H', Ex H H' → Cd K H' a c r f cs rs os st fos bds → (∀ p ∈ fos, H p = none) → Q (.ref a) H'
theorem PlF.mono {K : PySem.W.Frag} {H H' : Hp} {pl : Addr} {cs rs os : List Str} {st : Str} {bds : List (List PyData)} (e : Ex H H') (h : PlF K H pl cs rs os st bds) : PlF K H' pl cs rs os st bds := by
  obtain ⟨kvs, c, r, o, bd, bk, k1, k2, k3, k4, k5, k6, k7, k8, k9, k10, k11, k12⟩ := h
  refine ⟨kvs, c, r, o, bd, bk, e _ _ k1, k2, k3, k4, k5, k6, e _ _ k7, e _ _ k8, e _ _ k9, e _ _ k10, k11, fun i z ss h1 h2 => ?_, k12.2⟩
  obtain ⟨b, h3, h4⟩ := k12.1 i z ss h1 h2
  exact ⟨b, h3, dpM e _ _ h4⟩

section
variable {P : Program} {w : World} {K : PySem.W.Frag} {mg : Str → Option Value} {base : Heap}

theorem ok_law_drawn {fd : FuncData} (F : FnP K "_law_drawn" "_law_drawn" s_law_drawn (ga K "_law_drawn") fd) (T : Tx K w mg) (c_law_draw : Cl P w K mg base CX0 1 (ga K "_law_draw") ["_law_pen", "_law_many"] spDraw) (c_law_plan : Cl P w K mg base CX0 12 (ga K "_law_plan") ["_law_pen", "_law_cells", "_law_rows", "_law_many", "_law_room"] (spPlan K)) : FnOk P w K mg base CX0 (12 + 1) (ga K "_law_drawn") fd ["_law_pen", "_law_room"] (spDrawn K) := by
  obtain ⟨fd_law_draw, G_law_draw, b_law_draw, kp_law_draw⟩ := c_law_draw
  obtain ⟨fd_law_plan, G_law_plan, b_law_plan, kp_law_plan⟩ := c_law_plan
  refine FunD.ok F sc_law_drawn (fun vs H Q E h => ?_) (fun cdv A outer s H vs Q E hr h => ?_)
  · obtain ⟨p, l, room, b, rfl, _⟩ := h
    rfl
  · obtain ⟨p, l, room, b, rfl, hr5, hP, kk⟩ := h
    have g_law_plan := T.gl "_law_plan" (by decide +kernel)
    have g_law_draw := T.gl "_law_draw" (by decide +kernel)
    refine ⟨_, PSs.nox (pss_one (ps_ret (pe_call G_law_plan (hr.mono (by decide)) (by rfl) g_law_plan kp_law_plan b_law_plan .nil pass0 (pa_cons (pv 0) (pa_cons (pe_call G_law_draw (hr.mono (by decide)) (by rfl) g_law_draw kp_law_draw b_law_draw .nil pass0 (pa_cons (pv 0) (pa_cons pe_int pa_nil))) (pa_cons (pe_call G_law_draw (hr.mono (by decide)) (by rfl) g_law_draw kp_law_draw b_law_draw .nil pass0 (pa_cons (pv 0) (pa_cons pe_int pa_nil))) (pa_cons (pe_op op_add pe_int (pe_call G_law_draw (hr.mono (by decide)) (by rfl) g_law_draw kp_law_draw b_law_draw .nil pass0 (pa_cons (pv 0) (pa_cons pe_int pa_nil)))) (pa_cons (pv 1) pa_nil)))))))), ?_⟩
    refine ⟨.ref p, rfl, .ref p, rfl, p, l, 4, b + (202 + 3 * Pn 4), rfl, ⟨by decide, by decide⟩, hP, fun r1 H1 q1 px1 pen1 => ?_⟩
    refine ⟨.ref p, rfl, p, l, 3, b + (201 + 3 * Pn 4), rfl, ⟨by decide, by decide⟩, pen1, fun r2 H2 q2 px2 pen2 => ?_⟩
    refine ⟨.ref p, rfl, p, l, 3, b + (200 + 3 * Pn 4), rfl, ⟨by decide, by decide⟩, pen2, fun r3 H3 q3 px3 pen3 => ⟨1, r3, rfl, rfl, ?_⟩⟩
    obtain ⟨n1, rfl, l1⟩ := nat_of q1
    obtain ⟨n2, rfl, l2⟩ := nat_of q2
    obtain ⟨n3, rfl, l3⟩ := nat_of q3
    refine ⟨.int (room : Nat), rfl, p, l, n1, n2, 1 + n3, room, b, (by rw [show (((1 + n3 : Nat)) : Int) = 1 + (n3 : Int) by omega]; rfl), ⟨by omega, by omega, by omega, by omega, hr5⟩, pen3, fun pl cs rs os st bds H4 px4 pen4 hF hN hB => ?_⟩
    exact kk pl cs rs os st bds H4 (((px1.trans px2).trans px3).trans px4) pen4 hF hN fun ss hs => part_body (hB ss hs) hr5

theorem ok_law_code {fd : FuncData} (F : FnP K "_law_code" "_law_code" s_law_code (ga K "_law_code") fd) (T : Tx K w mg) (c_Function_init : Cl P w K mg base CX0 12 (ma K (ga K "Function") "__init__") ["self", "name", "body"] (spFI K)) (c_Code_init : Cl P w K mg base CX0 8 (ma K (ga K "Code") "__init__") ["self", "cells", "rows", "functions", "start"] (spCI K)) : FnOk P w K mg base CX0 (13 + 1) (ga K "_law_code") fd ["_law_plan_here"] (spCode K) := by
  obtain ⟨fd_Function_init, G_Function_init, b_Function_init, kp_Function_init⟩ := c_Function_init
  obtain ⟨fd_Code_init, G_Code_init, b_Code_init, kp_Code_init⟩ := c_Code_init
  refine FunD.ok F sc_law_code (fun vs H Q E h => ?_) (fun cdv A outer s H vs Q E hr h => ?_)
  · obtain ⟨pl, cs, rs, os, st, bds, rfl, _⟩ := h
    rfl
  · obtain ⟨pl, cs, rs, os, st, bds, rfl, hF, hN, hB, kk⟩ := h
    have g_Function := T.gl "Function" (by decide +kernel)
    have g_Code := T.gl "Code" (by decide +kernel)
    have n_list := T.fr "list" (by decide +kernel)
    refine ⟨_, PSs.nox (pss_cons (ps_setLc (i := 1) (own := [("_law_name", 2)]) (g := gName 2) (by rfl) sc_law_code.nd rfl rfl (sw_true rfl rfl rfl (by decide +kernel)) (pi_list (pe_dget (Nat.lt_of_le_of_lt (Nat.add_le_add_left (by decide) _) hr.units) (pv 0) pe_str (fun _ _ => rfl))) (blkOk_by (own := [("_law_name", 2)]) (N := ["_law_plan_here", "_law_functions", "_law_name"]) (sc := defScope s_law_code) (by decide +kernel)) (fun _ _ _ _ _ => (pg_name (i := 2) sc_law_code.nd rfl (Or.inl rfl))) (fun _ _ _ _ _ => pts_nil) (fun _ _ _ _ _ => (pe_make T.mf G_Function_init (hr.mono (by decide)) (by rfl) g_Function b_Function_init .nil pass0 (pa_cons (pv 2) (pa_cons (pe_dget (Nat.lt_of_le_of_lt (Nat.add_le_add_left (by decide) _) hr.units) (pe_dget (Nat.lt_of_le_of_lt (Nat.add_le_add_left (by decide) _) hr.units) (pv 0) pe_str (fun _ _ => rfl)) (pv 2) (fun _ _ => rfl)) pa_nil)))))
      (pss_one (ps_ret (pe_make T.mc G_Code_init (hr.mono (by decide)) (by rfl) g_Code b_Code_init .nil pass0 (pa_cons (pe_callTy call_list_of (by rfl) n_list (by decide +kernel) (pa_cons (pe_dget (Nat.lt_of_le_of_lt (Nat.add_le_add_left (by decide) _) hr.units) (pv 0) pe_str (fun _ _ => rfl)) pa_nil)) (pa_cons (pe_callTy call_list_of (by rfl) n_list (by decide +kernel) (pa_cons (pe_dget (Nat.lt_of_le_of_lt (Nat.add_le_add_left (by decide) _) hr.units) (pv 0) pe_str (fun _ _ => rfl)) pa_nil)) (pa_cons (pv 1) (pa_cons (pe_dget (Nat.lt_of_le_of_lt (Nat.add_le_add_left (by decide) _) hr.units) (pv 0) pe_str (fun _ _ => rfl)) pa_nil)))))))), ?_⟩
    obtain ⟨kvs, c, r, o, bd, bk, k1, k2, k3, k4, k5, k6, k7, k8, k9, k10, k11, k12⟩ := id hF
    have z := hN.sz
    refine ⟨.ref pl, rfl, pl, .ref o, rfl, .inl ⟨kvs, Sum.inr "order", .inl k1, rfl, k4.symm⟩, o, rfl, ⟨_, sq_of k9⟩, fun D hD => ?_⟩
    refine lc_list (xs := os.map V.str) (fun j H' => ∃ fos : List Addr, fos.length = j ∧ (∀ (k : Nat) (f : Addr) (z : Str) (ss : List PyData), fos[k]? = some f → os[k]? = some z → bds[k]? = some ss → Fn K H' f z ss) ∧ H' D = some (.lst (fos.map V.ref)) ∧ Ex H H' ∧ ∀ p ∈ fos, H p = none)
      ⟨[], rfl, (fun k f z ss h => nomatch h), upd_same, Ex.new hD, fun p hp => nomatch hp⟩ (fun j H' _ hJ => ?_) (fun j x H' hx hJ => ?_) (fun HC hJ => ?_)
    · obtain ⟨fos, e1, e2, e3, e4, efr⟩ := hJ
      exact sq_of (e4 _ _ k9)
    · obtain ⟨fos, e1, e2, e3, e4, efr⟩ := hJ
      rw [List.getElem?_map] at hx
      cases w1 : os[j]? with
      | none =>
        rw [w1] at hx
        cases hx
      | some y =>
        rw [w1] at hx
        cases hx
        have hj := (List.getElem?_eq_some_iff.mp w1).1
        have w2 : bds[j]? = some (bds[j]'(by rw [k11]; exact hj)) := List.getElem?_eq_getElem _
        generalize bds[j]'(by rw [k11]; exact hj) = ssj at w2
        obtain ⟨ba, hba, dba⟩ := k12.1 j y ssj w1 w2
        refine ⟨rfl, yes_go ⟨.str y, rfl, .ref pl, rfl, pl, .ref bd, rfl, .inl ⟨kvs, Sum.inr "bodies", .inl (e4 _ _ k1), rfl, k6.symm⟩, .str y, rfl, bd, .ref ba, rfl, .inl ⟨bk, Sum.inr y, .inl (e4 _ _ k10), rfl, hba.symm⟩, fun x dx hx hdx hne => ?_⟩⟩
        have hx2 : upd H' dx (.own x) x = none := (upd_ne (Ne.symm hne)).trans hx
        have e5 : Ex H' (upd (upd H' dx (.own x)) x (.ins (ga K "Function") dx [])) := (Ex.new hdx).trans (Ex.new hx2)
        have e6 := e4.trans e5
        refine ⟨x, y, ba, ssj, dx, .tuple ssj, rfl, upd_same, dpM e6 _ _ dba, (by
          obtain ⟨⟨m, hm9, tt⟩, _⟩ := (hB ssj (List.mem_of_getElem? w2)).1
          exact tt_tl (ttUp hm9 tt)), (hB ssj (List.mem_of_getElem? w2)).1, fun H2 x2 hFn => ⟨rfl, ?_⟩⟩
        have e7 : Ex H' H2 := Xa.new e5 hx x2
        have hDl := e7 _ _ e3
        have fnu : ∀ {f : Addr} {z : Str} {ss : List PyData}, ss ∈ bds → Fn K H2 f z ss → Fn K (upd H2 D (.lst (fos.map V.ref ++ [.ref x]))) f z ss := by
          intro f z ss hm hf
          obtain ⟨dx2, b, n, g1, g2⟩ := hf
          obtain ⟨m, _, tt⟩ := (hB ss hm).1.1
          refine ⟨dx2, b, n, (upd_ne ?_).trans g1, dp_off hDl tt g2.1, g2.2⟩
          rintro rfl
          rw [hDl] at g1
          cases g1
        refine ⟨_, hDl, ?_, fos ++ [x], ?_, ?_, ?_, (e4.trans e7).mut hD, fun p hp => ?_⟩
        · rw [List.length_map]
          exact small1000 (by omega)
        · rw [List.length_append, e1]
          rfl
        · intro k f z ss hk hz hb
          rcases Nat.lt_or_ge k fos.length with h | h
          · rw [List.getElem?_append_left h] at hk
            exact fnu (List.mem_of_getElem? hb) ((e2 k f z ss hk hz hb).mono e7)
          · rw [List.getElem?_append_right h] at hk
            have j0 : k - fos.length = 0 := by
              rcases Nat.eq_zero_or_pos (k - fos.length) with y0 | y0
              · exact y0
              · rw [List.getElem?_eq_none (show [x].length ≤ k - fos.length from y0)] at hk
                cases hk
            rw [j0] at hk
            cases hk
            have kj : k = j := by omega
            subst kj
            rw [w1] at hz
            rw [w2] at hb
            cases hz
            cases hb
            exact fnu (List.mem_of_getElem? w2) hFn
        · rw [upd_same, List.map_append]
          rfl
        · rcases List.mem_append.mp hp with h | h
          · exact efr p h
          · rw [List.mem_singleton.mp h]
            exact fresh_back e4 hx
    obtain ⟨fos, e1, e2, e3, e4, efr⟩ := hJ
    rw [List.length_map] at e1
    have hFs : Fns K HC fos os bds := ⟨e1, k11, e2⟩
    refine ⟨.ref pl, rfl, pl, .ref c, rfl, .inl ⟨kvs, Sum.inr "cells", .inl (e4 _ _ k1), rfl, k2.symm⟩, c, _, rfl, .inl (sq_of (e4 _ _ k7)), fun c2 hc2 => ?_⟩
    have a1 := Ex.new (o := .lst (cs.map V.str)) hc2
    refine ⟨.ref pl, rfl, pl, .ref r, rfl, .inl ⟨kvs, Sum.inr "rows", .inl (a1 _ _ (e4 _ _ k1)), rfl, k3.symm⟩, r, _, rfl, .inl (sq_of (a1 _ _ (e4 _ _ k8))), fun r2 hr2 => ?_⟩
    have a2 := a1.trans (Ex.new (o := .lst (rs.map V.str)) hr2)
    refine ⟨.ref D, rfl, .ref pl, rfl, pl, .str st, rfl, .inl ⟨kvs, Sum.inr "start", .inl (a2 _ _ (e4 _ _ k1)), rfl, k5.symm⟩, fun x dx hx hdx hne => ?_⟩
    have hx2 : upd (upd (upd HC c2 (.lst (cs.map V.str))) r2 (.lst (rs.map V.str))) dx (.own x) x = none := (upd_ne (Ne.symm hne)).trans hx
    have a3 := (Ex.new (o := .own x) hdx).trans (Ex.new (o := .ins (ga K "Code") dx []) hx2)
    have a4 := a2.trans a3
    refine ⟨x, c2, r2, D, cs, rs, os, st, fos, bds, dx, rfl, upd_same, a3 _ _ (Ex.new hr2 _ _ upd_same), a3 _ _ upd_same, a4 _ _ e3, hFs.mono a4, hN, hB, fun u1 u2 u3 H2 x2 hC => ⟨rfl, ?_⟩⟩
    exact kk x u1 u2 u3 fos H2 ((e4.trans a2).trans (Xa.new a3 hx x2)) hC efr

end
end K05
set_option Elab.async false
set_option linter.all false
set_option maxRecDepth 100000
set_option maxHeartbeats 8000000
namespace K05
open PySem PySem.Spec PyProof.Rows L2 He XH XV XR PEN TR Evl


mutual
theorem tt_plain : ∀ {n : Nat} {d : PyData}, Tt n d → d.plain = true
  | _, _, .str _ => rfl
  | _, _, .int _ => rfl
  | _, _, .tup _ h => by
    simp only [PyData.plain]
    exact tts_plain h
theorem tts_plain : ∀ {n : Nat} {ds : List PyData}, Tts n ds → PyData.plainAll ds = true
  | _, _, .nil => rfl
  | _, _, .cons h r => by
    simp only [PyData.plainAll, tt_plain h, tts_plain r, Bool.and_self]
end
/-- != of lists of data, one of them short -/
def rNeP (K : PySem.W.Frag) : R2 := fun x y H Q => ∃ d e, Dp K H x d ∧ Dp K H y e ∧ d.plain = true ∧ e.plain = true ∧ min d.depth e.depth ≤ 64 ∧ Q (.bl (!PyData.eqv d e)) H
theorem op_neP {X : Cx} (hu : X.A.units + 64 < cLine) : OpR X (compareOp .NotEq) (rNeP X.K) := by
  intro pins s σ H x y v u Q I rx ry h
  obtain ⟨d, e, hd, he, sd, se, hm, q⟩ := h
  obtain ⟨as, r1⟩ := Dp.reads I d x v hd rx
  obtain ⟨bs, r2⟩ := Dp.reads I e y u he ry
  exact SeqAt.ne_plain r1 r2 sd se (by omega) ⟨.bl _, H, I, rfl, q⟩
theorem eqv_nil (ds : List PyData) : PyData.eqv (.list ds) (.list []) = ds.isEmpty := by
  cases ds <;> rfl
theorem ev_neN {K : PySem.W.Frag} {σ : L2.St} {H : Hp} {te : TE} {ds : List PyData} {m : Nat} {p : Addr} {vs : List V} (h : Ev te σ H (.ref p)) (hp : H p = some (.lst vs)) (hd : DpAll K H vs ds) (ht : Tts m ds) : Ev (tOp (rNeP K) te (tLst tNil)) σ H (.bl (!ds.isEmpty)) := fun H1 e Q q =>
  h H1 e _ fun H2 e2 => ⟨(show 0 ≤ sizeLine by decide), fun r hr => by
    have e3 := Ex.new (o := .lst []) hr
    refine ⟨.list ds, .list [], .lst (sq_of (e3 _ _ (e2 _ _ (e _ _ hp)))) (dpMs ((e.trans e2).trans e3) _ _ hd), .lst (sq_of upd_same) .nil, ?_, rfl, ?_, ?_⟩
    · simp only [PyData.plain]
      exact tts_plain ht
    · refine Nat.le_trans (Nat.min_le_right _ _) ?_
      simp [PyData.depth, PyData.depthAll]
    · rw [eqv_nil]
      exact q _ (e2.trans e3)⟩


/-- == of data, one of them shallow -/
def rEqP (K : PySem.W.Frag) : R2 := fun x y H Q => ∃ d e, Dp K H x d ∧ Dp K H y e ∧ d.plain = true ∧ e.plain = true ∧ min d.depth e.depth ≤ 64 ∧ Q (.bl (PyData.eqv d e)) H
theorem op_eqP {X : Cx} (hu : X.A.units + 64 < cLine) : OpR X (compareOp .Eq) (rEqP X.K) := by
  intro pins s σ H x y v u Q I rx ry h
  obtain ⟨d, e, hd, he, sd, se, hm, q⟩ := h
  obtain ⟨as, r1⟩ := Dp.reads I d x v hd rx
  obtain ⟨bs, r2⟩ := Dp.reads I e y u he ry
  exact SeqAt.eq_plain r1 r2 sd se (by omega) ⟨.bl _, H, I, rfl, q⟩
theorem rv_eqP {K : PySem.W.Frag} {H : Hp} {x y : V} {d e : PyData} (hd : Dp K H x d) (he : Dp K H y e) (sd : d.plain = true) (se : e.plain = true) (hm : min d.depth e.depth ≤ 64) : RV (rEqP K) x y H (.bl (PyData.eqv d e)) := fun H1 a Q q => ⟨d, e, dpM a _ _ hd, dpM a _ _ he, sd, se, hm, q H1 (Ex.refl _)⟩
theorem rv_neP {K : PySem.W.Frag} {H : Hp} {x y : V} {d e : PyData} (hd : Dp K H x d) (he : Dp K H y e) (sd : d.plain = true) (se : e.plain = true) (hm : min d.depth e.depth ≤ 64) : RV (rNeP K) x y H (.bl (!PyData.eqv d e)) := fun H1 a Q q => ⟨d, e, dpM a _ _ hd, dpM a _ _ he, sd, se, hm, q H1 (Ex.refl _)⟩
mutual
theorem tt_depth : ∀ {n : Nat} {d : PyData}, Tt n d → d.depth ≤ n + 1
  | _, _, .str _ => by simp [PyData.depth]
  | _, _, .int _ => by simp [PyData.depth]
  | n + 1, .tuple ds, .tup _ h => by
    have := tts_depth h
    simp only [PyData.depth]
    omega
theorem tts_depth : ∀ {n : Nat} {ds : List PyData}, Tts n ds → PyData.depthAll ds ≤ n + 1
  | _, _, .nil => by simp [PyData.depthAll]
  | _, _, .cons h r => by
    have := tt_depth h
    have := tts_depth r
    simp only [PyData.depthAll]
    omega
end
theorem tt_strs {zs : List Str} (hl : zs.length ≤ 100) (h : ∀ z ∈ zs, z.length ≤ 1000) : Tt 1 (.tuple (zs.map PyData.str)) :=
  .tup (by rw [List.length_map]; exact hl) (Tts.of fun d hd => by
    obtain ⟨z, hz, rfl⟩ := List.mem_map.mp hd
    exact .str (h z hz))
theorem eqv_strs : ∀ (a b : List Str), PyData.eqvAll (a.map PyData.str) (b.map PyData.str) = decide (a = b)
  | [], [] => by simp [PyData.eqvAll]
  | [], _ :: _ => by simp [PyData.eqvAll]
  | _ :: _, [] => by simp [PyData.eqvAll]
  | x :: a, y :: b => by
    have ih := eqv_strs a b
    show (PyData.eqv (.str x) (.str y) && PyData.eqvAll (a.map PyData.str) (b.map PyData.str)) = _
    rw [ih]
    show ((x == y) && decide (a = b)) = decide (x :: a = y :: b)
    by_cases h1 : x = y <;> by_cases h2 : a = b <;> simp [h1, h2]
theorem eqv_tup (a b : List Str) : PyData.eqv (.tuple (a.map PyData.str)) (.tuple (b.map PyData.str)) = decide (a = b) := eqv_strs a b
structure Te (K : PySem.W.Frag) (w : World) (mg : Str → Option Value) : Prop extends Tx K w mg where
  fef : PySem.W.findIn K (.ref (ga K "Function")) "__eq__" = some (some (.ref (ma K (ga K "Function") "__eq__")))
  fen : PySem.W.isFn K (.ref (ma K (ga K "Function") "__eq__")) = true
  ffa : PySem.W.findIn K (.ref (ga K "Function")) "__class__" = some (some (.builtin "object.__class__"))
  ffm : PySem.W.mroIn K (ga K "Function") (.type "object") = some true
  ffk : PySem.W.kitOne K (.ref (ga K "Function")) (.ref (ga K "Function")) = some true
  ffs : PySem.W.kitOne K (.type "str") (.ref (ga K "Function")) = some false
  ffn : PySem.W.notFirst K (ga K "Function") (.type "str") = true
  cef : PySem.W.findIn K (.ref (ga K "Code")) "__eq__" = some (some (.ref (ma K (ga K "Code") "__eq__")))
  cen : PySem.W.isFn K (.ref (ma K (ga K "Code") "__eq__")) = true
  cfa : PySem.W.findIn K (.ref (ga K "Code")) "__class__" = some (some (.builtin "object.__class__"))
  cfm : PySem.W.mroIn K (ga K "Code") (.type "object") = some true
  cfk : PySem.W.kitOne K (.ref (ga K "Code")) (.ref (ga K "Code")) = some true
  cfs : PySem.W.kitOne K (.type "str") (.ref (ga K "Code")) = some false
  cfn : PySem.W.notFirst K (ga K "Code") (.type "str") = true
  oig : PySem.W.specialIn K (.builtin "object.__class__") "__get__" = some (some (.builtin "getset_descriptor.__get__"))
  oit : PySem.W.takesIn K (.builtin "object.__class__") = some true
theorem Te.tf {K : PySem.W.Frag} {w : World} {mg : Str → Option Value} (T : Te K w mg) {H : Hp} {a dx : Addr} {fs : List (Str × V)} (h : H a = some (.ins (ga K "Function") dx fs)) : TyX K H (.ref a) (.ref (ga K "Function")) := .base (.ins h T.cf T.ffa T.oig T.oit T.ffm)
theorem Te.tc {K : PySem.W.Frag} {w : World} {mg : Str → Option Value} (T : Te K w mg) {H : Hp} {a dx : Addr} {fs : List (Str × V)} (h : H a = some (.ins (ga K "Code") dx fs)) : TyX K H (.ref a) (.ref (ga K "Code")) := .base (.ins h T.cc T.cfa T.oig T.oit T.cfm)
theorem self_first {K : PySem.W.Frag} {C : Addr} : PySem.W.notFirst K C (.ref C) = true := by
  unfold PySem.W.notFirst
  simp
def fEq (z : Str) (ss : List PyData) (z' : Str) (ss' : List PyData) : Bool := decide (z = z') && PyData.eqv (.tuple ss) (.tuple ss')
/-- one function is another; or it is a text -/
def spFEq (K : PySem.W.Frag) : Sp := fun vs H Q _ => ∃ a y z ss, vs = [.ref a, y] ∧ Fn K H a z ss ∧ Tt 20 (.tuple ss) ∧ ((∃ b z' ss', y = .ref b ∧ Fn K H b z' ss' ∧ Tt 20 (.tuple ss') ∧ ∀ H', Ex H H' → Q (.bl (fEq z ss z' ss')) H') ∨ (∃ x, y = .str x ∧ ∀ H', Ex H H' → Q (.bl false) H'))
def fnsEq (os : List Str) (bds : List (List PyData)) (os' : List Str) (bds' : List (List PyData)) : Bool := (List.range (min os.length os'.length)).all (fun j => fEq (os.getD j "") (bds.getD j []) (os'.getD j "") (bds'.getD j [])) && os.length == os'.length
def cEq (cs rs os : List Str) (st : Str) (bds : List (List PyData)) (cs' rs' os' : List Str) (st' : Str) (bds' : List (List PyData)) : Bool := decide (cs = cs') && (decide (rs = rs') && (fnsEq os bds os' bds' && decide (st = st')))
structure Lens (cs rs os : List Str) (st : Str) (bds : List (List PyData)) : Prop where
  c : cs.length ≤ 100 ∧ ∀ z ∈ cs, z.length ≤ 1000
  r : rs.length ≤ 100 ∧ ∀ z ∈ rs, z.length ≤ 1000
  b : ∀ ss ∈ bds, Tt 20 (.tuple ss)
def spCEq (K : PySem.W.Frag) : Sp := fun vs H Q _ => ∃ a y c r f cs rs os st fos bds, vs = [.ref a, y] ∧ Cd K H a c r f cs rs os st fos bds ∧ Lens cs rs os st bds ∧ ((∃ b c' r' f' cs' rs' os' st' fos' bds', y = .ref b ∧ Cd K H b c' r' f' cs' rs' os' st' fos' bds' ∧ Lens cs' rs' os' st' bds' ∧ (∀ p ∈ fos, p ∉ fos') ∧ ∀ H', Ex H H' → Q (.bl (cEq cs rs os st bds cs' rs' os' st' bds')) H') ∨ (∃ x, y = .str x ∧ ∀ H', Ex H H' → Q (.bl false) H'))
theorem ev_isF {K : PySem.W.Frag} {σ : L2.St} {H : Hp} {y : V} {C : Addr} {t : Value} {b : Bool} (s1 : σ[1]? = some (some y)) (hy : ∀ H1, Ex H H1 → TyX K H1 y t) (hk : PySem.W.kitOne K t (.ref C) = some b) : Ev (tCB (rIsi K) (tCons (tVar 1) (tCons (tC (.ref C)) tNil))) σ H (.bl b) :=
  ev_cb (ea_cons (ev_var s1) (ea_cons ev_c ea_nil)) fun H1 e Q q => ⟨y, .ref C, t, .ref C, b, rfl, .own _, hy H1 e, hk, q H1 (Ex.refl _)⟩
theorem e_str {w z : Str} : decide (V.str w = V.str z) = decide (w = z) := by
  rw [decide_eq_decide]
  exact ⟨fun h => by injection h, fun h => by rw [h]⟩
theorem rv_eqS {H : Hp} {w z : Str} : RV rEq (.str w) (.str z) H (.bl (decide (w = z))) := by
  rw [← e_str]
  exact rv_eq rfl

section
variable {P : Program} {w : World} {K : PySem.W.Frag} {mg : Str → Option Value} {base : Heap}

theorem ok_Function___eq__ {fd : FuncData} {f : Addr} (F : FnP K "__eq__" "Function.__eq__" s_Function___eq__ f fd) (T : Te K w mg) : FnOk P w K mg base CX0 (0 + 1) f fd ["self", "other"] (spFEq K) := by
  refine FunD.ok F sc_Function___eq__ (fun vs H Q E h => ?_) (fun cdv A outer s H vs Q E hr h => ?_)
  · obtain ⟨a, y, z, ss, rfl, _⟩ := h
    rfl
  · obtain ⟨a, y, z, ss, rfl, hF, ht, hy⟩ := h
    have n_isinstance := T.fr "isinstance" (by decide +kernel)
    have g_Function := T.gl "Function" (by decide +kernel)
    refine ⟨_, PSs.nox (pss_one (ps_ret (pe_and (pe_callB (call_isi : CallR _ _ (rIsi K)) (by rfl) n_isinstance (by decide +kernel) (pa_cons (pv 1) (pa_cons (pe_glob (v := .ref _) (by rfl) g_Function rfl) pa_nil))) (pe_and (pe_cmpR op_eq (pe_fldc (K := K) rfl (pv 0) rfl) (pe_fldc (K := K) rfl (pv 1) rfl) (nomark _)) (pe_one (pe_cmpR (op_eqP hr.units) (pe_fldc (K := K) rfl (pv 0) rfl) (pe_fldc (K := K) rfl (pv 1) rfl) (nomark _))))))), ?_⟩
    obtain ⟨dx, b, n, g1, g2, _⟩ := id hF
    rcases hy with ⟨b', z', ss', rfl, hF', ht', kk⟩ | ⟨x, rfl, kk⟩
    · obtain ⟨dx', b2, n', g1', g2', _⟩ := id hF'
      have d1 := tt_depth ht
      refine s_ret (v := .bl (true && (decide (z = z') && PyData.eqv (.tuple ss) (.tuple ss')))) (ev_andV (ev_isF rfl (fun H1 e => T.tf (e _ _ g1')) T.ffk) fun _ => ev_andV (ev_op (ev_fld (ev_var rfl) g1 T.cf (T.nf "name" (by decide +kernel)) rfl) (ev_fld (ev_var rfl) g1' T.cf (T.nf "name" (by decide +kernel)) rfl) rv_eqS) fun _ => ev_op (ev_fld (ev_var rfl) g1 T.cf (T.nf "body" (by decide +kernel)) rfl) (ev_fld (ev_var rfl) g1' T.cf (T.nf "body" (by decide +kernel)) rfl) (rv_eqP g2 g2' (tt_plain ht) (tt_plain ht') (by omega))) fun H1 e => kk H1 e
    · exact s_ret (v := .bl (false && (false && false))) (ev_andV (ev_isF rfl (fun H1 e => .base (.str x)) T.ffs) fun h => nomatch h) fun H1 e => kk H1 e

theorem ok_Code___eq__ {fd : FuncData} {f : Addr} (F : FnP K "__eq__" "Code.__eq__" s_Code___eq__ f fd) (T : Te K w mg) (c_Function___eq__ : Cl P w K mg base CX0 1 (ma K (ga K "Function") "__eq__") ["self", "other"] (spFEq K)) : FnOk P w K mg base CX0 (2 + 1) f fd ["self", "other"] (spCEq K) := by
  obtain ⟨fd_Function___eq__, G_Function___eq__, b_Function___eq__, kp_Function___eq__⟩ := c_Function___eq__
  refine FunD.ok F sc_Code___eq__ (fun vs H Q E h => ?_) (fun cdv A outer s H vs Q E hr h => ?_)
  · obtain ⟨a, y, c, r, f, cs, rs, os, st, fos, bds, rfl, _⟩ := h
    rfl
  · obtain ⟨a, y, c, r, f, cs, rs, os, st, fos, bds, rfl, hC, hL, hy⟩ := h
    have n_isinstance := T.fr "isinstance" (by decide +kernel)
    have g_Code := T.gl "Code" (by decide +kernel)
    refine ⟨_, PSs.nox (pss_one (ps_ret (pe_and (pe_callB (call_isi : CallR _ _ (rIsi K)) (by rfl) n_isinstance (by decide +kernel) (pa_cons (pv 1) (pa_cons (pe_glob (v := .ref _) (by rfl) g_Code rfl) pa_nil))) (pe_and (pe_cmpR (op_eqP hr.units) (pe_fldc (K := K) rfl (pv 0) rfl) (pe_fldc (K := K) rfl (pv 1) rfl) (nomark _)) (pe_and (pe_cmpR (op_eqP hr.units) (pe_fldc (K := K) rfl (pv 0) rfl) (pe_fldc (K := K) rfl (pv 1) rfl) (nomark _)) (pe_and (pe_cmpR (OQ.op_ownT G_Function___eq__ T.fef T.fen b_Function___eq__ self_first (hr.mono (by decide))) (pe_fldc (K := K) rfl (pv 0) rfl) (pe_fldc (K := K) rfl (pv 1) rfl) (nomark _)) (pe_one (pe_cmpR op_eq (pe_fldc (K := K) rfl (pv 0) rfl) (pe_fldc (K := K) rfl (pv 1) rfl) (nomark _))))))))), ?_⟩
    obtain ⟨dx, hA⟩ := hC.at_
    rcases hy with ⟨b', c', r', f', cs', rs', os', st', fos', bds', rfl, hC', hL', hne, kk⟩ | ⟨x, rfl, kk⟩
    · obtain ⟨dx', hA'⟩ := hC'.at_
      have lc := tt_strs hL.c.1 hL.c.2
      have lc' := tt_strs hL'.c.1 hL'.c.2
      have lr := tt_strs hL.r.1 hL.r.2
      have lr' := tt_strs hL'.r.1 hL'.r.2
      have dc := tt_depth lc
      have dr := tt_depth lr
      have ec := eqv_tup cs cs'
      have er := eqv_tup rs rs'
      refine s_ret (v := .bl (true && (decide (cs = cs') && (decide (rs = rs') && (fnsEq os bds os' bds' && decide (st = st')))))) (ev_andV (ev_isF rfl (fun H1 e => T.tc (e _ _ hA')) T.cfk) fun _ => ev_andV ?_ fun _ => ev_andV ?_ fun _ => ev_andV ?_ fun _ => ?_) fun H1 e => kk H1 e
      · rw [← ec]
        exact ev_op (ev_fld (ev_var rfl) hA T.cc (T.nc "cells" (by decide +kernel)) rfl) (ev_fld (ev_var rfl) hA' T.cc (T.nc "cells" (by decide +kernel)) rfl) (rv_eqP (.tup (st_of hC.ca) (dp_strs cs)) (.tup (st_of hC'.ca) (dp_strs cs')) (tt_plain lc) (tt_plain lc') (by omega))
      · rw [← er]
        exact ev_op (ev_fld (ev_var rfl) hA T.cc (T.nc "rows" (by decide +kernel)) rfl) (ev_fld (ev_var rfl) hA' T.cc (T.nc "rows" (by decide +kernel)) rfl) (rv_eqP (.tup (st_of hC.ra) (dp_strs rs)) (.tup (st_of hC'.ra) (dp_strs rs')) (tt_plain lr) (tt_plain lr') (by omega))
      · refine ev_op (ev_fld (ev_var rfl) hA T.cc (T.nc "functions" (by decide +kernel)) rfl) (ev_fld (ev_var rfl) hA' T.cc (T.nc "functions" (by decide +kernel)) rfl) fun H1 e1 Q q => ?_
        refine ⟨f, f', fos, fos', (fun j => fEq (os.getD j "") (bds.getD j []) (os'.getD j "") (bds'.getD j [])), rfl, rfl, st_of (e1 _ _ hC.fa), st_of (e1 _ _ hC'.fa), fun j p1 p2 h1 h2 => ?_, fun H2 e2 => ?_⟩
        · have m1 := List.mem_of_getElem? h1
          have m2 := List.mem_of_getElem? h2
          have ne : p1 ≠ p2 := fun e => hne p1 m1 (e ▸ m2)
          obtain ⟨z1, s1, o1, b1, F1⟩ := hC.fs.at h1
          obtain ⟨z2, s2, o2, b2, F2⟩ := hC'.fs.at h2
          refine ⟨fun e => absurd e ne, fun _ => ?_⟩
          have F1' := F1.mono e1
          have F2' := F2.mono e1
          obtain ⟨dx1, u1, n1, i1, _⟩ := id F1'
          obtain ⟨dx2, u2, n2, i2, _⟩ := id F2'
          refine ⟨⟨dx1, _, i1⟩, fun H2 e2 => T.tf (e2 _ _ i2), fun H2 e2 Q' q' => ?_⟩
          refine ⟨p1, .ref p2, z1, s1, rfl, F1'.mono e2, hL.b s1 (List.mem_of_getElem? b1), .inl ⟨p2, z2, s2, rfl, F2'.mono e2, hL'.b s2 (List.mem_of_getElem? b2), fun H3 e3 => ?_⟩⟩
          have g1 : os.getD j "" = z1 := by rw [List.getD_eq_getElem?_getD, o1]; rfl
          have g2 : bds.getD j [] = s1 := by rw [List.getD_eq_getElem?_getD, b1]; rfl
          have g3 : os'.getD j "" = z2 := by rw [List.getD_eq_getElem?_getD, o2]; rfl
          have g4 : bds'.getD j [] = s2 := by rw [List.getD_eq_getElem?_getD, b2]; rfl
          have z : Q' (.bl (fEq (os.getD j "") (bds.getD j []) (os'.getD j "") (bds'.getD j []))) H3 := q' H3 e3
          rw [g1, g2, g3, g4] at z
          exact z
        · have z := q H2 e2
          unfold fnsEq at z
          rw [← hC.fs.1, ← hC'.fs.1] at z
          exact z
      · exact ev_op (ev_fld (ev_var rfl) hA T.cc (T.nc "start" (by decide +kernel)) rfl) (ev_fld (ev_var rfl) hA' T.cc (T.nc "start" (by decide +kernel)) rfl) rv_eqS
    · exact s_ret (v := .bl (false && (false && (false && (false && false))))) (ev_andV (ev_isF rfl (fun H1 e => .base (.str x)) T.cfs) fun h => nomatch h) fun H1 e => kk H1 e

end
end K05
set_option Elab.async false
set_option linter.all false
set_option maxRecDepth 100000
set_option maxHeartbeats 8000000
namespace K05
open PySem PySem.Spec PyProof.Rows L2 He XH XV XR PEN TR Evl


def spKept (K : PySem.W.Frag) : Sp := fun vs H Q _ => ∃ a pl c r f cs rs os st fos bds, vs = [.ref a, .ref pl] ∧ Cd K H a c r f cs rs os st fos bds ∧ PlF K H pl cs rs os st bds ∧ Names cs rs os st ∧ (∀ ss ∈ bds, BodV cs rs os ss) ∧ ∀ H', Ex H H' → Q (.bl true) H'
theorem rv_neS {H : Hp} {z : Str} : RV rNe (.str z) (.str z) H (.bl false) := by
  have e : (!decide (V.str z = V.str z)) = false := by simp
  rw [← e]
  exact rv_ne rfl
theorem rv_neI {H : Hp} {i : Int} : RV rNe (.int i) (.int i) H (.bl false) := by
  have e : (!decide (V.int i = V.int i)) = false := by simp
  rw [← e]
  exact rv_ne rfl
theorem ed_of {K : PySem.W.Frag} {σ : L2.St} {H : Hp} {te : TE} {v : V} {d : PyData} (h : Ev te σ H v) (hd : Dp K H v d) : ED K te σ H d := fun H1 e Q q => h H1 e Q fun H2 e2 => q v H2 e2 (dpM (e.trans e2) _ _ hd)
theorem ev_neED {K : PySem.W.Frag} {σ : L2.St} {H : Hp} {ta tb : TE} {d : PyData} (h1 : ED K ta σ H d) (h2 : ED K tb σ H d) (hp : d.plain = true) (hd : d.depth ≤ 64) : Ev (tOp (rNeP K) ta tb) σ H (.bl false) := fun H1 e Q q =>
  h1 H1 e _ fun v H2 e2 dv => h2 H2 (e.trans e2) _ fun u H3 e3 du => ⟨d, d, dpM e3 _ _ dv, du, hp, hp, Nat.le_trans (Nat.min_le_left _ _) hd, by
    rw [SeqAt.eqv_refl_plain _ hp]
    exact q H3 (e2.trans e3)⟩
theorem ed_tupOf {K : PySem.W.Frag} {σ : L2.St} {H : Hp} {te : TE} {c : Addr} {cs : List Str} (h : Ev te σ H (.ref c)) (g : H c = some (.lst (cs.map V.str))) :
    ED K (tCB (fun xs H Q => ∃ p ys, xs = [.ref p] ∧ ((SqL K H p ys ∧ ∀ l, H l = none → Q (.ref l) (upd H l (.tup ys))) ∨ (SqT K H p ys ∧ Q (.ref p) H))) (tCons te tNil)) σ H (.tuple (cs.map PyData.str)) := fun H1 e Q q =>
  h H1 e _ fun H2 e2 => ⟨c, _, rfl, .inl ⟨sq_of (e2 _ _ (e _ _ g)), fun l hl => q _ _ (e2.trans (Ex.new hl)) (.tup (st_of upd_same) (dp_strs cs))⟩⟩
theorem bod_hb : ∀ {n : Nat} {ss : List PyData}, Bod n ss → Hb n ss
  | 0, _, h => h
  | n + 1, ss, h => fun s hs => by
    obtain ⟨hs1, hs2⟩ := h.2 s hs
    obtain ⟨w, ks, args, e, _⟩ := hs1
    refine ⟨⟨_, args, e⟩, fun p hp => ?_⟩
    obtain ⟨ds, e2, hb⟩ := hs2 p hp
    exact ⟨ds, e2, bod_hb hb⟩
theorem Names.l12 {cs rs os : List Str} {st : Str} (h : Names cs rs os st) : ∀ z ∈ cs ++ rs ++ os, z.length ≤ 12 := fun z hz => (h.ok.2 z hz).2.2
theorem bodv_tt {cs rs os : List Str} {ss : List PyData} (h : BodV cs rs os ss) : Tt 10 (.tuple ss) := by
  obtain ⟨⟨⟨m, hm, tt⟩, _⟩, _⟩ := h
  exact ttUp hm tt


theorem ev_dgetV {σ : L2.St} {H : Hp} {td ty : TE} {bd : Addr} {bk : List (Key × V)} {z : Str} {v : V} (h : Ev td σ H (.ref bd)) (h2 : Ev ty σ H (.str z)) (hb : H bd = some (.dK bk)) (hv : valV bk (Sum.inr z) = some v) : Ev (tDGet td ty) σ H v := fun H1 e Q q =>
  h H1 e _ fun H2 e2 => h2 H2 (e.trans e2) _ fun H3 e3 => ⟨bd, v, rfl, .inl ⟨bk, Sum.inr z, .inl (e3 _ _ (e2 _ _ (e _ _ hb))), rfl, hv.symm⟩, q H3 (e2.trans e3)⟩

section
variable {P : Program} {w : World} {K : PySem.W.Frag} {mg : Str → Option Value} {base : Heap}

theorem ok_law_kept {fd : FuncData} (F : FnP K "_law_kept" "_law_kept" s_law_kept (ga K "_law_kept") fd) (T : Te K w mg) (c_law_count : Cl P w K mg base CX0 5 (ga K "_law_count") ["_law_body"] (spCnt K 4)) : FnOk P w K mg base CX0 (5 + 1) (ga K "_law_kept") fd ["_law_code_here", "_law_plan_here"] (spKept K) := by
  obtain ⟨fd_law_count, G_law_count, b_law_count, kp_law_count⟩ := c_law_count
  refine FunD.ok F sc_law_kept (fun vs H Q E h => ?_) (fun cdv A outer s H vs Q E hr h => ?_)
  · obtain ⟨a, pl, c, r, f, cs, rs, os, st, fos, bds, rfl, _⟩ := h
    rfl
  · obtain ⟨a, pl, c, r, f, cs, rs, os, st, fos, bds, rfl, hC, hF, hN, hB, kk⟩ := h
    have n_tuple := T.fr "tuple" (by decide +kernel)
    have n_isinstance := T.fr "isinstance" (by decide +kernel)
    have n_len := T.fr "len" (by decide +kernel)
    have n_range := T.fr "range" (by decide +kernel)
    have g_law_count := T.gl "_law_count" (by decide +kernel)
    have n_int := T.fr "int" (by decide +kernel)
    refine ⟨_, PSs.nox (pss_cons (ps_if (PW.pt (pw_or (pt_cmpR (op_neP hr.units) (pe_fldc (K := K) rfl (pv 0) rfl) (pe_callTy (call_tuple_of : CallR _ _ (fun xs H Q => ∃ p ys, xs = [.ref p] ∧ ((SqL K H p ys ∧ ∀ l, H l = none → Q (.ref l) (upd H l (.tup ys))) ∨ (SqT K H p ys ∧ Q (.ref p) H)))) (by rfl) n_tuple (by decide +kernel) (pa_cons (pe_dget (Nat.lt_of_le_of_lt (Nat.add_le_add_left (by decide) _) hr.units) (pv 1) pe_str (fun _ _ => rfl)) pa_nil)) (nomark _)) (pw_or (pt_cmpR (op_neP hr.units) (pe_fldc (K := K) rfl (pv 0) rfl) (pe_callTy (call_tuple_of : CallR _ _ (fun xs H Q => ∃ p ys, xs = [.ref p] ∧ ((SqL K H p ys ∧ ∀ l, H l = none → Q (.ref l) (upd H l (.tup ys))) ∨ (SqT K H p ys ∧ Q (.ref p) H)))) (by rfl) n_tuple (by decide +kernel) (pa_cons (pe_dget (Nat.lt_of_le_of_lt (Nat.add_le_add_left (by decide) _) hr.units) (pv 1) pe_str (fun _ _ => rfl)) pa_nil)) (nomark _)) (pw_or1 (pt_cmpR op_ne (pe_fldc (K := K) rfl (pv 0) rfl) (pe_dget (Nat.lt_of_le_of_lt (Nat.add_le_add_left (by decide) _) hr.units) (pv 1) pe_str (fun _ _ => rfl)) (nomark _))))))
      (pss_one (ps_ret pe_bl))
      pss_nil)
      (pss_cons (ps_if (PW.pt (pw_or (pt_not (pt_val (pe_callB (call_isi : CallR _ _ (rIsi K)) (by rfl) n_isinstance (by decide +kernel) (pa_cons (pe_fldc (K := K) rfl (pv 0) rfl) (pa_cons (pe_bltn (v := .ty "tuple") (by rfl) n_tuple (by decide +kernel) rfl) pa_nil))))) (pw_or1 (pt_cmpR op_ne (pe_callB call_len_seq (by rfl) n_len (by decide +kernel) (pa_cons (pe_fldc (K := K) rfl (pv 0) rfl) pa_nil)) (pe_callB call_len_seq (by rfl) n_len (by decide +kernel) (pa_cons (pe_dget (Nat.lt_of_le_of_lt (Nat.add_le_add_left (by decide) _) hr.units) (pv 1) pe_str (fun _ _ => rfl)) pa_nil)) (nomark _)))))
      (pss_one (ps_ret pe_bl))
      pss_nil)
      (pss_cons (ps_for PassesOwn.never rfl (pi_range1 (by rfl) n_range (pa_cons (pe_callB call_len_seq (by rfl) n_len (by decide +kernel) (pa_cons (pe_dget (Nat.lt_of_le_of_lt (Nat.add_le_add_left (by decide) _) hr.units) (pv 1) pe_str (fun _ _ => rfl)) pa_nil)) pa_nil)) (pg_name (i := 2) sc_law_kept.nd rfl (Or.inl rfl))
      (pss_cons (ps_set (i := 3) sc_law_kept.nd rfl (Or.inl rfl) (pe_ix ix_tup (pe_fldc (K := K) rfl (pv 0) rfl) (pv 2) (fun _ _ => rfl)))
      (pss_cons (ps_set (i := 4) sc_law_kept.nd rfl (Or.inl rfl) (pe_dget (Nat.lt_of_le_of_lt (Nat.add_le_add_left (by decide) _) hr.units) (pe_dget (Nat.lt_of_le_of_lt (Nat.add_le_add_left (by decide) _) hr.units) (pv 1) pe_str (fun _ _ => rfl)) (pe_ix ix_list (pe_dget (Nat.lt_of_le_of_lt (Nat.add_le_add_left (by decide) _) hr.units) (pv 1) pe_str (fun _ _ => rfl)) (pv 2) (fun _ _ => rfl)) (fun _ _ => rfl)))
      (pss_cons (ps_if (PW.pt (pw_or (pt_cmpR op_ne (pe_fldc (K := K) rfl (pv 3) rfl) (pe_ix ix_list (pe_dget (Nat.lt_of_le_of_lt (Nat.add_le_add_left (by decide) _) hr.units) (pv 1) pe_str (fun _ _ => rfl)) (pv 2) (fun _ _ => rfl)) (nomark _)) (pw_or1 (pt_cmpR (op_neP hr.units) (pe_fldc (K := K) rfl (pv 3) rfl) (pv 4) (nomark _)))))
      (pss_one (ps_ret pe_bl))
      pss_nil)
      (pss_one (ps_if (PW.pt (pw_or (pt_cmpR op_ne (pe_fldc (K := K) rfl (pv 3) rfl) (pe_call G_law_count (hr.mono (by decide)) (by rfl) g_law_count kp_law_count b_law_count .nil pass0 (pa_cons (pv 4) pa_nil)) (nomark _)) (pw_or1 (pt_not (pt_val (pe_callB (call_isi : CallR _ _ (rIsi K)) (by rfl) n_isinstance (by decide +kernel) (pa_cons (pe_fldc (K := K) rfl (pv 3) rfl) (pa_cons (pe_bltn (v := .ty "int") (by rfl) n_int (by decide +kernel) rfl) pa_nil))))))))
      (pss_one (ps_ret pe_bl))
      pss_nil))))))
      (pss_one (ps_ret pe_bl))))), ?_⟩
    obtain ⟨dx, hA⟩ := hC.at_
    obtain ⟨kvs, pc, pr, po, bd, bk, k1, k2, k3, k4, k5, k6, k7, k8, k9, k10, k11, k12, k13, k14, k15⟩ := id hF
    have l12 := hN.l12
    have sz := hN.sz
    have tc := tt_strs (zs := cs) (by omega) (fun z hz => Nat.le_trans (l12 z (List.mem_append_left _ (List.mem_append_left _ hz))) (by decide))
    have tr := tt_strs (zs := rs) (by omega) (fun z hz => Nat.le_trans (l12 z (List.mem_append_left _ (List.mem_append_right _ hz))) (by decide))
    have dc := tt_depth tc
    have dr := tt_depth tr
    refine q_when (b := false) (et_is (et_or (a := false) (b := false) (et_test (ev_neED (ed_of (ev_fld (ev_var rfl) hA T.cc (T.nc "cells" (by decide +kernel)) rfl) (.tup (st_of hC.ca) (dp_strs cs))) (ed_tupOf (ev_dget rfl k1 k2) k7) (tt_plain tc) (by omega))) fun _ => et_is (et_or (a := false) (b := false) (et_test (ev_neED (ed_of (ev_fld (ev_var rfl) hA T.cc (T.nc "rows" (by decide +kernel)) rfl) (.tup (st_of hC.ra) (dp_strs rs))) (ed_tupOf (ev_dget rfl k1 k3) k8) (tt_plain tr) (by omega))) fun _ => et_test (ev_op (ev_fld (ev_var rfl) hA T.cc (T.nc "start" (by decide +kernel)) rfl) (ev_dget rfl k1 k5) rv_neS)) rfl) rfl) (fun h => nomatch h) (fun _ H1 e1 => ?_)
    have hof : os.length = fos.length := hC.fs.1.symm
    refine q_when (b := false) (et_is (et_or (a := !true) (b := false) (et_not (et_B (ev_cb (ea_cons (ev_fld (ev_var rfl) (e1 _ _ hA) T.cc (T.nc "functions" (by decide +kernel)) rfl) (ea_cons ev_c ea_nil)) fun H2 e2 Q q => ⟨.ref f, .ty "tuple", .type "tuple", .type "tuple", true, rfl, .ty _, tyx_t (st_of (e2 _ _ (e1 _ _ hC.fa))), kit_ty (by decide +kernel), q H2 (Ex.refl _)⟩))) fun _ => et_test (ev_op (x := .int (os.length : Nat)) (y := .int (os.length : Nat)) (fun H2 e2 Q q => ev_fld (ev_var rfl) (e1 _ _ hA) T.cc (T.nc "functions" (by decide +kernel)) rfl H2 e2 _ fun H3 e3 => ⟨f, fos.map V.ref, rfl, .inr (st_of (e3 _ _ (e2 _ _ (e1 _ _ hC.fa)))), by
      rw [List.length_map, ← hof]
      exact q H3 e3⟩) (fun H2 e2 Q q => ev_dget rfl (e1 _ _ k1) k4 H2 e2 _ fun H3 e3 => ⟨po, os.map V.str, rfl, .inl (sq_of (e3 _ _ (e2 _ _ (e1 _ _ k9)))), by
      rw [List.length_map]
      exact q H3 e3⟩) rv_neI)) rfl) (fun h => nomatch h) (fun _ H2 e2 => ?_)
    have e12 := e1.trans e2
    refine ⟨.ref pl, rfl, pl, .ref po, rfl, .inl ⟨kvs, Sum.inr "order", .inl (e12 _ _ k1), rfl, k4.symm⟩, po, os.map V.str, rfl, .inl (sq_of (e12 _ _ k9)), ((os.map V.str).length : Nat), rfl, by omega, by rw [List.length_map]; omega, ?_⟩
    refine for_range (lo := 0) (n := (((os.map V.str).length : Nat) : Int).toNat) (fun i σ' H' => ∃ v2 v3 v4, σ' = [some (.ref a), some (.ref pl), v2, v3, v4] ∧ Ex H H') ⟨_, _, _, rfl, e12⟩ (fun i σ' H3 hi hI => ?_) (fun σ' H3 hI => ?_)
    · obtain ⟨v2, v3, v4, rfl, e3⟩ := hI
      have hi2 : i < os.length := by rw [List.length_map] at hi; omega
      obtain ⟨z, hz⟩ : ∃ z, os[i]? = some z := ⟨_, List.getElem?_eq_getElem hi2⟩
      obtain ⟨p, hp⟩ : ∃ p, fos[i]? = some p := ⟨_, List.getElem?_eq_getElem (by omega)⟩
      obtain ⟨z', ss, ho, hb, hFn⟩ := hC.fs.at hp
      rw [hz] at ho
      cases ho
      have hV := hB ss (List.mem_of_getElem? hb)
      have tt := bodv_tt hV
      have td := tt_depth tt
      obtain ⟨ba, hba, dba⟩ := k12 i z ss hz hb
      obtain ⟨dx2, b2, n2, g1, g2, hn⟩ := hFn.mono e3
      rw [show (0 : Int) + (i : Int) = ((i : Nat) : Int) by omega]
      try dsimp only [gName, List.set]
      have fix : ∀ {H4 : Hp}, Ex H H4 → (fos.map V.ref)[i]? = some (.ref p) := fun _ => by rw [List.getElem?_map, hp]; rfl
      have oix : (os.map V.str)[i]? = some (.str z) := by rw [List.getElem?_map, hz]; rfl
      refine q_asg (v := .ref p) (ev_op (ev_fld (ev_var rfl) (e3 _ _ hA) T.cc (T.nc "functions" (by decide +kernel)) rfl) (ev_var rfl) (rv_ixT (st_of (e3 _ _ hC.fa)) (atI_nat (fix e3)))) fun H4 e4 => ?_
      have e34 := e3.trans e4
      try dsimp only [gName, List.set]
      refine q_asg (v := .ref ba) (ev_dgetV (ev_dget rfl (e34 _ _ k1) k6) (ev_op (ev_dget rfl (e34 _ _ k1) k4) (ev_var rfl) (rv_ixL (sq_of (e34 _ _ k9)) (atI_nat oix))) (e34 _ _ k10) hba) fun H5 e5 => ?_
      have e35 := e34.trans e5
      have e45 := e4.trans e5
      try dsimp only [gName, List.set]
      refine q_when (b := false) (et_is (et_or (a := false) (b := false) (et_test (ev_op (ev_fld (ev_var rfl) (e45 _ _ g1) T.cf (T.nf "name" (by decide +kernel)) rfl) (ev_op (ev_dget rfl (e35 _ _ k1) k4) (ev_var rfl) (rv_ixL (sq_of (e35 _ _ k9)) (atI_nat oix))) rv_neS)) fun _ => et_test (ev_neED (ed_of (ev_fld (ev_var rfl) (e45 _ _ g1) T.cf (T.nf "body" (by decide +kernel)) rfl) (dpM e45 _ _ g2)) (ed_of (ev_var rfl) (dpM e35 _ _ dba)) (tt_plain tt) (by omega))) rfl) (fun h => nomatch h) (fun _ H6 e6 => ?_)
      have e36 := e35.trans e6
      have e46 := e45.trans e6
      obtain ⟨mt, tts⟩ : ∃ m, Tts m ss := by
        cases tt with
        | tup _ h => exact ⟨_, h⟩
      have hHb := bod_hb hV.1.2
      have hcn : n2 = ((cnt 4 ss : Nat) : Int) := by rw [hn, nums_cnt hHb]
      subst hcn
      refine s_when (b := false) (et_is (et_or (a := false) (b := !true) (et_test (ev_op (ev_fld (ev_var rfl) (e46 _ _ g1) T.cf (T.nf "many" (by decide +kernel)) rfl) (ev_call (z := .int (cnt 4 ss : Nat)) (ea_cons (ev_var rfl) ea_nil) fun H7 e7 R q _ => ⟨ba, ss, mt, rfl, dpM (e36.trans e7) _ _ dba, tts, hHb, fun H8 e8 => q H8 e8⟩) rv_neI)) fun _ => et_not (et_B (ev_cb (ea_cons (ev_fld (ev_var rfl) (e46 _ _ g1) T.cf (T.nf "many" (by decide +kernel)) rfl) (ea_cons ev_c ea_nil)) fun H7 e7 Q q => ⟨_, .ty "int", .type "int", .type "int", true, rfl, .ty _, .base (.int _), kit_ty (by decide +kernel), q H7 (Ex.refl _)⟩))) rfl) (fun h => nomatch h) (fun _ H7 e7 => ?_)
      exact ⟨_, _, _, rfl, e36.trans e7⟩
    · obtain ⟨v2, v3, v4, rfl, e3⟩ := hI
      exact kk H3 e3

end
end K05
set_option Elab.async false
set_option linter.all false
set_option maxRecDepth 100000
set_option maxHeartbeats 8000000
namespace K05
open PySem PySem.Spec PyProof.Rows L2 He XH XV XR PEN TR Evl


theorem nms_mono {cs rs os cs' rs' os' : List Str} (h1 : ∀ z ∈ cs, z ∈ cs') (h2 : ∀ z ∈ rs, z ∈ rs') (h3 : ∀ z ∈ os, z ∈ os') {k z : Str} (h : z ∈ nmsOf cs rs os k) : z ∈ nmsOf cs' rs' os' k := by
  unfold nmsOf at h ⊢
  split at h
  · rw [if_pos (by assumption)]
    exact h1 z h
  · rw [if_neg (by assumption)]
    split at h
    · rw [if_pos (by assumption)]
      exact h2 z h
    · rw [if_neg (by assumption)]
      split at h
      · rw [if_pos (by assumption)]
        exact h3 z h
      · rw [if_neg (by assumption)]
        exact h
theorem wf_mono {cs rs os cs' rs' os' : List Str} (h1 : ∀ z ∈ cs, z ∈ cs') (h2 : ∀ z ∈ rs, z ∈ rs') (h3 : ∀ z ∈ os, z ∈ os') {d : PyData} (h : Wf cs rs os d) : Wf cs' rs' os' d := by
  obtain ⟨w, ks, args, e, hk, hl, hf⟩ := h
  refine ⟨w, ks, args, e, hk, hl, fun i k x a b => ?_⟩
  have z := hf i k x a b
  unfold fitsP at z ⊢
  split at z
  · rw [if_pos (by assumption)]
    exact z
  · rw [if_neg (by assumption)]
    obtain ⟨y, e, hy⟩ := z
    exact ⟨y, e, nms_mono h1 h2 h3 hy⟩
theorem bodv_mono {cs rs os cs' rs' os' : List Str} (h1 : ∀ z ∈ cs, z ∈ cs') (h2 : ∀ z ∈ rs, z ∈ rs') (h3 : ∀ z ∈ os, z ∈ os') {ss : List PyData} (h : BodV cs rs os ss) : BodV cs' rs' os' ss := by
  obtain ⟨a, b, c⟩ := h
  exact ⟨a, b, fun q hq => ⟨wf_mono h1 h2 h3 (c q hq).1, (c q hq).2⟩⟩
theorem nok_perm {ys zs : List Str} (h : NamesOk ys) (p : ys.Perm zs) : NamesOk zs := ⟨p.nodup_iff.mp h.1, fun y hy => h.2 y (p.mem_iff.mpr hy)⟩
theorem nok_cons {ys : List Str} {z : Str} (h : NamesOk ys) (hz : z ∉ ys) (g : Let z ∧ 1 ≤ z.length ∧ z.length ≤ 12) : NamesOk (z :: ys) := ⟨List.nodup_cons.mpr ⟨hz, h.1⟩, fun y hy => by
  rcases List.mem_cons.mp hy with rfl | hy
  · exact g
  · exact h.2 y hy⟩
theorem rot_perm {α : Type} (l : List α) : l.Perm (l.drop 1 ++ l.take 1) := by
  have h : (l.take 1 ++ l.drop 1).Perm (l.drop 1 ++ l.take 1) := List.perm_append_comm
  rw [List.take_append_drop] at h
  exact h
theorem rot_mem {α : Type} {l : List α} {x : α} : x ∈ l ↔ x ∈ l.drop 1 ++ l.take 1 := (rot_perm l).mem_iff
theorem names_c1 {cs rs os : List Str} {st sp : Str} (h : Names cs rs os st) (hl : cs.length < 3) (hz : sp ∉ cs ++ rs ++ os) (g : Let sp ∧ 1 ≤ sp.length ∧ sp.length ≤ 12) : Names (cs ++ [sp]) rs os st := by
  refine ⟨⟨by rw [List.length_append]; show cs.length + 1 ≤ 3; omega, h.sz.2⟩, nok_perm (nok_cons h.ok hz g) ?_, h.st⟩
  have e : cs ++ [sp] ++ rs ++ os = cs ++ sp :: (rs ++ os) := by simp
  rw [e, List.append_assoc]
  exact List.perm_middle.symm
theorem names_r1 {cs rs os : List Str} {st sp : Str} (h : Names cs rs os st) (hl : rs.length < 2) (hz : sp ∉ cs ++ rs ++ os) (g : Let sp ∧ 1 ≤ sp.length ∧ sp.length ≤ 12) : Names cs ([sp] ++ rs) os st := by
  refine ⟨⟨h.sz.1, by show rs.length + 1 ≤ 2; omega, h.sz.2.2⟩, nok_perm (nok_cons h.ok hz g) ?_, h.st⟩
  have e : cs ++ ([sp] ++ rs) ++ os = cs ++ sp :: (rs ++ os) := by simp
  rw [e, List.append_assoc]
  exact List.perm_middle.symm
theorem names_c2 {cs rs os : List Str} {st : Str} (h : Names cs rs os st) : Names (cs.drop 1 ++ cs.take 1) rs os st := by
  have p := rot_perm cs
  exact ⟨⟨by rw [← p.length_eq]; exact h.sz.1, h.sz.2⟩, nok_perm h.ok ((p.append_right rs).append_right os), h.st⟩
theorem names_o2 {cs rs os : List Str} {st : Str} (h : Names cs rs os st) : Names cs rs (os.drop 1 ++ os.take 1) st := by
  have p := rot_perm os
  exact ⟨⟨h.sz.1, h.sz.2.1, by rw [← p.length_eq]; exact h.sz.2.2⟩, nok_perm h.ok (p.append_left (cs ++ rs)), p.mem_iff.mp h.st⟩
theorem rot_ne {cs : List Str} (hn : cs.Nodup) (hl : 1 < cs.length) : cs ≠ cs.drop 1 ++ cs.take 1 := by
  match cs, hl with
  | a :: b :: r, _ =>
    intro e
    have e2 : a :: b :: r = (b :: r) ++ [a] := e
    rw [List.cons_append] at e2
    injection e2 with e3 e4
    subst e3
    exact (List.nodup_cons.mp hn).1 List.mem_cons_self
theorem ceq_c {cs rs os cs' rs' os' : List Str} {st st' : Str} {bds bds' : List (List PyData)} (h : cs ≠ cs') : cEq cs rs os st bds cs' rs' os' st' bds' = false := by
  unfold cEq
  rw [decide_eq_false h, Bool.false_and]
theorem ceq_r {cs rs os cs' rs' os' : List Str} {st st' : Str} {bds bds' : List (List PyData)} (h : rs ≠ rs') : cEq cs rs os st bds cs' rs' os' st' bds' = false := by
  unfold cEq
  rw [decide_eq_false h, Bool.false_and, Bool.and_false]
theorem ceq_f {cs rs os cs' rs' os' : List Str} {st st' : Str} {bds bds' : List (List PyData)} (h : fnsEq os bds os' bds' = false) : cEq cs rs os st bds cs' rs' os' st' bds' = false := by
  unfold cEq
  rw [h, Bool.false_and, Bool.and_false, Bool.and_false]
theorem ceq_s {cs rs os cs' rs' os' : List Str} {st st' : Str} {bds bds' : List (List PyData)} (h : st ≠ st') : cEq cs rs os st bds cs' rs' os' st' bds' = false := by
  unfold cEq
  rw [decide_eq_false h, Bool.and_false, Bool.and_false, Bool.and_false]
theorem fns_at {os os' : List Str} {bds bds' : List (List PyData)} {j : Nat} (h1 : j < os.length) (h2 : j < os'.length) (h : fEq (os.getD j "") (bds.getD j []) (os'.getD j "") (bds'.getD j []) = false) : fnsEq os bds os' bds' = false := by
  unfold fnsEq
  have e : (List.range (min os.length os'.length)).all (fun j => fEq (os.getD j "") (bds.getD j []) (os'.getD j "") (bds'.getD j [])) = false := by
    rw [List.all_eq_false]
    exact ⟨j, List.mem_range.mpr (by omega), by rw [h]; exact Bool.false_ne_true⟩
  rw [e, Bool.false_and]
theorem fns_rot {os : List Str} {bds : List (List PyData)} (hn : os.Nodup) (hl : 1 < os.length) : fnsEq os bds (os.drop 1 ++ os.take 1) (bds.drop 1 ++ bds.take 1) = false := by
  match os, hl with
  | a :: b :: r, _ =>
    refine fns_at (j := 0) (by simp) (by simp) ?_
    unfold fEq
    have e : decide (a = b) = false := decide_eq_false fun e => (List.nodup_cons.mp hn).1 (by rw [e]; exact List.mem_cons_self)
    show (decide (a = b) && _) = false
    rw [e, Bool.false_and]
theorem eqv_len {ds es : List PyData} (h : ds.length ≠ es.length) : PyData.eqv (.tuple ds) (.tuple es) = false := SeqAt.eqvAll_other_length h
theorem fns_put {os : List Str} {bds : List (List PyData)} {y : Nat} {ss ss' : List PyData} (hy : y < os.length) (hb : bds[y]? = some ss) (h : ss.length ≠ ss'.length) : fnsEq os bds os (bds.set y ss') = false := by
  refine fns_at (j := y) hy hy ?_
  have hy2 := (List.getElem?_eq_some_iff.mp hb).1
  unfold fEq
  rw [List.getD_eq_getElem?_getD (l := bds), hb, List.getD_eq_getElem?_getD (l := bds.set y ss'), List.getElem?_set_self hy2]
  show (_ && PyData.eqv (.tuple ss) (.tuple ss')) = false
  rw [eqv_len h, Bool.and_false]
def faultD : PyData := .tuple [.str "fault"]
theorem nums_app (n : Nat) (a b as : List PyData) : nums (n + 1) (a ++ b) as = nums (n + 1) a as ++ nums (n + 1) b as := by
  rw [nums_S, List.flatMap_append]
  rfl
theorem nums_fault (n : Nat) (as : List PyData) : nums (n + 1) [faultD] as = [(faultD, as)] := rfl
theorem fault_wf {cs rs os : List Str} : Wf cs rs os faultD := wf1 (by decide +kernel)
theorem bodv_fault {cs rs os : List Str} {ss : List PyData} (h : BodV cs rs os ss) (hc : (nums 4 ss []).length < 14) : BodV cs rs os (ss ++ [faultD]) := by
  obtain ⟨⟨⟨m, hm, tt⟩, hb⟩, hl, hq⟩ := h
  have en : nums 4 (ss ++ [faultD]) [] = nums 4 ss [] ++ [(faultD, [])] := by rw [nums_app, nums_fault]
  have ls : ss.length ≤ cnt 4 ss := len_cnt (n := 3)
  have ec := nums_cnt (n := 4) (ss := ss) (as := []) (bod_hb hb)
  refine ⟨⟨⟨max m 1, by omega, ?_⟩, ?_⟩, ?_, fun q hq2 => ?_⟩
  · cases tt with
    | tup l h =>
      have up : ∀ k, Tts (m + k) ss := fun k => by
        induction k with
        | zero => exact h
        | succ k ih => exact ih.up
      have h2 := up (max m 1 - m)
      rw [show m + (max m 1 - m) = max m 1 by omega] at h2
      refine .tup (by rw [List.length_append]; show ss.length + 1 ≤ 100; omega) (h2.app (.cons ?_ .nil))
      obtain ⟨t, ht⟩ : ∃ t, max m 1 = t + 1 := ⟨max m 1 - 1, by omega⟩
      rw [ht]
      exact .tup (show 1 ≤ 100 by decide) (.cons (.str (by decide +kernel)) .nil)
  · refine ⟨by rw [List.length_append]; show ss.length + 1 ≤ 15; omega, fun s hs => ?_⟩
    rcases List.mem_append.mp hs with hs | hs
    · exact hb.2 s hs
    · rw [List.mem_singleton.mp hs]
      exact ⟨(fault_wf (cs := cs) (rs := rs) (os := os)).sh, fun p hp => nomatch hp⟩
  · rw [en, List.length_append]
    show _ + 1 ≤ 14
    omega
  · rw [en] at hq2
    rcases List.mem_append.mp hq2 with h2 | h2
    · exact hq q h2
    · rw [List.mem_singleton.mp h2]
      refine ⟨fault_wf, "fault", [], rfl, rfl, (fun p hp => nomatch hp), Nat.zero_le _, ⟨fun h => absurd h (by decide +kernel), fun h => nomatch h⟩, fun h => absurd rfl h⟩
theorem bodv_less {cs rs os : List Str} {a b : List PyData} (h : BodV cs rs os (a ++ b)) : BodV cs rs os a := by
  obtain ⟨⟨⟨m, hm, tt⟩, hb⟩, hl, hq⟩ := h
  have en := nums_app 3 a b []
  refine ⟨⟨⟨m, hm, ?_⟩, ?_⟩, ?_, fun q hq2 => hq q (by rw [en]; exact List.mem_append_left _ hq2)⟩
  · cases tt with
    | tup l h =>
      rw [List.length_append] at l
      exact .tup (by omega) (Tts.of fun d hd => h.at d (List.mem_append_left _ hd))
  · have l := hb.1
    rw [List.length_append] at l
    exact ⟨by omega, fun s hs => hb.2 s (List.mem_append_left _ hs)⟩
  · rw [en, List.length_append] at hl
    show (nums (3 + 1) a []).length ≤ 14
    omega

end K05
set_option Elab.async false
set_option linter.all false
set_option maxRecDepth 100000
set_option maxHeartbeats 8000000
namespace K05
open PySem PySem.Spec PyProof.Rows L2 He XH XV XR PEN TR Evl

theorem dk_off {p l b : Addr} {n : Nat} {H : Hp} {kv : List (Key × V)} (h : Pen p l n H) (k : H b = some (.dK kv)) : b ≠ p ∧ b ≠ l := by
  obtain ⟨c, ns, e1, e2, e3, _⟩ := h
  exact ⟨(fun e => by rw [e, e1] at k; cases k), (fun e => by rw [e, e2] at k; cases k)⟩
theorem putK_same {kv : List (Key × V)} {k : Key} {v w : V} (h : valV kv k = some w) : (putK kv k v).length = kv.length := by
  have e := valV_any k kv
  rw [h] at e
  unfold putK
  rw [if_pos (by rw [e]; rfl), List.length_map]
theorem el_cat2 {K : PySem.W.Frag} {ta tb : TE} {σ : L2.St} {H : Hp} {a b : Addr} {xs ys : List V} (h1 : Ev ta σ H (.ref a)) (g1 : H a = some (.lst xs)) (h2 : Ev tb σ H (.ref b)) (g2 : H b = some (.lst ys)) (hl : xs.length + ys.length ≤ 1000) : EvL (tOp rCat ta tb) σ H (xs ++ ys) := fun H1 e Q q =>
  h1 H1 e _ fun H2 e2 => h2 H2 (e.trans e2) _ fun H3 e3 => ⟨a, b, xs, ys, rfl, rfl, e3 _ _ (e2 _ _ (e _ _ g1)), e3 _ _ (e2 _ _ (e _ _ g2)), fits hl, fun u hu => q u _ (fresh_back (e2.trans e3) hu) ((e2.trans e3).trans (Ex.new hu)) upd_same⟩
theorem el_catV {K : PySem.W.Frag} {ta tb : TE} {σ : L2.St} {H : Hp} {b : Addr} {xs ys : List V} (h1 : EvL ta σ H xs) (h2 : Ev tb σ H (.ref b)) (g2 : H b = some (.lst ys)) (hl : xs.length + ys.length ≤ 1000) : EvL (tOp rCat ta tb) σ H (xs ++ ys) := fun H1 e Q q =>
  h1 H1 e _ fun p H2 n e2 hp => h2 H2 (e.trans e2) _ fun H3 e3 => ⟨p, b, xs, ys, rfl, rfl, e3 _ _ hp, e3 _ _ (e2 _ _ (e _ _ g2)), fits hl, fun u hu => q u _ (fresh_back (e2.trans e3) hu) ((e2.trans e3).trans (Ex.new hu)) upd_same⟩
theorem el_catL {K : PySem.W.Frag} {ta tb : TE} {σ : L2.St} {H : Hp} {xs ys : List V} (h1 : EvL ta σ H xs) (h2 : EvL tb σ H ys) (hl : xs.length + ys.length ≤ 1000) : EvL (tOp rCat ta tb) σ H (xs ++ ys) := fun H1 e Q q =>
  h1 H1 e _ fun p H2 n e2 hp => h2 H2 (e.trans e2) _ fun b H3 n3 e3 hb => ⟨p, b, xs, ys, rfl, rfl, e3 _ _ hp, hb, fits hl, fun u hu => q u _ (fresh_back (e2.trans e3) hu) ((e2.trans e3).trans (Ex.new hu)) upd_same⟩

/-- a plan with its places told -/
def PlW (K : PySem.W.Frag) (H : Hp) (pl : Addr) (cs rs os : List Str) (st : Str) (bds : List (List PyData)) (kvs : List (Key × V)) (c r o bd : Addr) (bk : List (Key × V)) : Prop :=
  H pl = some (.dK kvs) ∧ valV kvs (Sum.inr "cells") = some (.ref c) ∧ valV kvs (Sum.inr "rows") = some (.ref r) ∧ valV kvs (Sum.inr "order") = some (.ref o) ∧ valV kvs (Sum.inr "start") = some (.str st) ∧ valV kvs (Sum.inr "bodies") = some (.ref bd) ∧
  H c = some (.lst (cs.map V.str)) ∧ H r = some (.lst (rs.map V.str)) ∧ H o = some (.lst (os.map V.str)) ∧ H bd = some (.dK bk) ∧ bds.length = os.length ∧ (∀ (i : Nat) (z : Str) (ss : List PyData), os[i]? = some z → bds[i]? = some ss → ∃ b, valV bk (Sum.inr z) = some (.ref b) ∧ Dp K H (.ref b) (.tuple ss)) ∧ bk.length ≤ 3 ∧ bd ≠ pl ∧ kvs.length ≤ 10
theorem PlW.px {K : PySem.W.Frag} {H H' : Hp} {p l pl : Addr} {n : Nat} {cs rs os : List Str} {st : Str} {bds : List (List PyData)} {kvs bk : List (Key × V)} {c r o bd : Addr} (hP : Pen p l n H) (k : Px p l H H') (ht : ∀ ss ∈ bds, ∃ m, Tt m (.tuple ss)) (h : PlW K H pl cs rs os st bds kvs c r o bd bk) : PlW K H' pl cs rs os st bds kvs c r o bd bk := by
  obtain ⟨k1, k2, k3, k4, k5, k6, k7, k8, k9, k10, k11, k12⟩ := h
  have d1 := dk_off hP k1
  have d2 := strs_off hP k7
  have d3 := strs_off hP k8
  have d4 := strs_off hP k9
  have d5 := dk_off hP k10
  refine ⟨k.get d1.1 d1.2 k1, k2, k3, k4, k5, k6, k.get d2.1 d2.2 k7, k.get d3.1 d3.2 k8, k.get d4.1 d4.2 k9, k.get d5.1 d5.2 k10, k11, fun i z ss h1 h2 => ?_, k12.2⟩
  obtain ⟨b, h3, h4⟩ := k12.1 i z ss h1 h2
  obtain ⟨m, t⟩ := ht ss (List.mem_of_getElem? h2)
  exact ⟨b, h3, dp_px hP k t h4⟩
theorem PlW.mono {K : PySem.W.Frag} {H H' : Hp} {pl : Addr} {cs rs os : List Str} {st : Str} {bds : List (List PyData)} {kvs bk : List (Key × V)} {c r o bd : Addr} (e : Ex H H') (h : PlW K H pl cs rs os st bds kvs c r o bd bk) : PlW K H' pl cs rs os st bds kvs c r o bd bk := by
  obtain ⟨k1, k2, k3, k4, k5, k6, k7, k8, k9, k10, k11, k12⟩ := h
  refine ⟨e _ _ k1, k2, k3, k4, k5, k6, e _ _ k7, e _ _ k8, e _ _ k9, e _ _ k10, k11, fun i z ss h1 h2 => ?_, k12.2⟩
  obtain ⟨b, h3, h4⟩ := k12.1 i z ss h1 h2
  exact ⟨b, h3, dpM e _ _ h4⟩
theorem PlF.w {K : PySem.W.Frag} {H : Hp} {pl : Addr} {cs rs os : List Str} {st : Str} {bds : List (List PyData)} (h : PlF K H pl cs rs os st bds) : ∃ kvs c r o bd bk, PlW K H pl cs rs os st bds kvs c r o bd bk := by
  obtain ⟨kvs, c, r, o, bd, bk, k⟩ := h
  exact ⟨kvs, c, r, o, bd, bk, k⟩
theorem PlW.f {K : PySem.W.Frag} {H : Hp} {pl : Addr} {cs rs os : List Str} {st : Str} {bds : List (List PyData)} {kvs bk : List (Key × V)} {c r o bd : Addr} (h : PlW K H pl cs rs os st bds kvs c r o bd bk) : PlF K H pl cs rs os st bds := ⟨kvs, c, r, o, bd, bk, h⟩
/-- one entry set -/
theorem PlW.set {K : PySem.W.Frag} {H : Hp} {pl : Addr} {cs rs os : List Str} {st : Str} {bds : List (List PyData)} {kvs bk : List (Key × V)} {c r o bd : Addr} (h : PlW K H pl cs rs os st bds kvs c r o bd bk) (ht : ∀ ss ∈ bds, ∃ m, Tt m (.tuple ss)) {key : Str} {v v0 : V} {c2 r2 o2 : Addr} {cs2 rs2 os2 : List Str} {st2 : Str} {bds2 : List (List PyData)}
    (h0 : valV kvs (Sum.inr key) = some v0) (h1 : valV (putK kvs (Sum.inr key) v) (Sum.inr "cells") = some (.ref c2)) (h2 : valV (putK kvs (Sum.inr key) v) (Sum.inr "rows") = some (.ref r2)) (h3 : valV (putK kvs (Sum.inr key) v) (Sum.inr "order") = some (.ref o2)) (h4 : valV (putK kvs (Sum.inr key) v) (Sum.inr "start") = some (.str st2)) (h5 : valV (putK kvs (Sum.inr key) v) (Sum.inr "bodies") = some (.ref bd))
    (g1 : H c2 = some (.lst (cs2.map V.str))) (g2 : H r2 = some (.lst (rs2.map V.str))) (g3 : H o2 = some (.lst (os2.map V.str))) (gl : bds2.length = os2.length) (gb : ∀ (i : Nat) (z : Str) (ss : List PyData), os2[i]? = some z → bds2[i]? = some ss → ∃ (j : Nat), os[j]? = some z ∧ bds[j]? = some ss) :
    PlF K (upd H pl (.dK (putK kvs (Sum.inr key) v))) pl cs2 rs2 os2 st2 bds2 := by
  obtain ⟨k1, k2, k3, k4, k5, k6, k7, k8, k9, k10, k11, k12, k13, k14, k15⟩ := h
  have nE : ∀ {a : Addr} {zs : List Str}, H a = some (.lst (zs.map V.str)) → a ≠ pl := fun h e => by rw [e, k1] at h; cases h
  refine ⟨_, c2, r2, o2, bd, bk, upd_same, h1, h2, h3, h4, h5, (upd_ne (nE g1)).trans g1, (upd_ne (nE g2)).trans g2, (upd_ne (nE g3)).trans g3, (upd_ne k14).trans k10, gl, fun i z ss e1 e2 => ?_, k13, k14, by rw [putK_same h0]; exact k15⟩
  obtain ⟨j, e3, e4⟩ := gb i z ss e1 e2
  obtain ⟨b, e5, e6⟩ := k12 j z ss e3 e4
  obtain ⟨m, t⟩ := ht ss (List.mem_of_getElem? e4)
  exact ⟨b, e5, dp_dk k1 t e6⟩
theorem PlF.put {K : PySem.W.Frag} {H : Hp} {pl a : Addr} {cs rs os : List Str} {st z : Str} {bds : List (List PyData)} {i : Nat} {ss' : List PyData} {kvs : List (Key × V)} {c r o bd : Addr} {bk : List (Key × V)}
    (h : PlW K H pl cs rs os st bds kvs c r o bd bk)
    (nd : os.Nodup) (hz : os[i]? = some z) (ht : ∀ ss ∈ bds, ∃ m, Tt m (.tuple ss)) (ht' : ∃ m, Tt m (.tuple ss')) (hd : Dp K H (.ref a) (.tuple ss')) : PlF K (upd H bd (.dK (putK bk (Sum.inr z) (.ref a)))) pl cs rs os st (bds.set i ss') := by
  obtain ⟨k1, k2, k3, k4, k5, k6, k7, k8, k9, k10, k11, k12, k13, k14, k15⟩ := h
  have nE : ∀ {a : Addr} {zs : List Str}, H a = some (.lst (zs.map V.str)) → a ≠ bd := fun h e => by rw [e, k10] at h; cases h
  have hi := (List.getElem?_eq_some_iff.mp hz).1
  refine ⟨kvs, c, r, o, bd, putK bk (Sum.inr z) (.ref a), (upd_ne (Ne.symm k14)).trans k1, k2, k3, k4, k5, k6, (upd_ne (nE k7)).trans k7, (upd_ne (nE k8)).trans k8, (upd_ne (nE k9)).trans k9, upd_same, by rw [List.length_set]; exact k11, fun j z' ss hj hb => ?_, ?_, k14, k15⟩
  · by_cases e : j = i
    · subst e
      rw [hz] at hj
      cases hj
      rw [List.getElem?_set_self (by omega)] at hb
      cases hb
      obtain ⟨m, t⟩ := ht'
      exact ⟨a, by rw [valV_put, if_pos rfl], dp_dk k10 t hd⟩
    · rw [List.getElem?_set_ne (Ne.symm e)] at hb
      obtain ⟨b, h1, h2⟩ := k12 j z' ss hj hb
      obtain ⟨m, t⟩ := ht ss (List.mem_of_getElem? hb)
      refine ⟨b, ?_, dp_dk k10 t h2⟩
      rw [valV_put, if_neg]
      · exact h1
      · intro q
        have q2 : z' = z := Sum.inr.inj q
        subst q2
        obtain ⟨b1, b2⟩ := List.getElem?_eq_some_iff.mp hj
        obtain ⟨b3, b4⟩ := List.getElem?_eq_some_iff.mp hz
        rcases Nat.lt_or_gt_of_ne e with c1 | c1
        · exact (List.pairwise_iff_getElem.mp nd) j i b1 b3 c1 (b2.trans b4.symm)
        · exact (List.pairwise_iff_getElem.mp nd) i j b3 b1 c1 (b4.trans b2.symm)
  · have hbs : bds[i]? = some (bds[i]'(by omega)) := List.getElem?_eq_getElem _
    obtain ⟨b, h1, _⟩ := k12 i z _ hz hbs
    rw [putK_same h1]
    exact k13

def spOther (K : PySem.W.Frag) : Sp := fun vs H Q _ => ∃ p l pl cs rs os st bds b, vs = [.ref p, .ref pl] ∧ PlF K H pl cs rs os st bds ∧ Names cs rs os st ∧ (∀ ss ∈ bds, BodV cs rs os ss) ∧ Pen p l (b + 2) H ∧
  ∀ ot cs' rs' os' st' bds' H', Px p l H H' → Pen p l b H' → PlF K H' ot cs' rs' os' st' bds' → Names cs' rs' os' st' → (∀ ss ∈ bds', BodV cs' rs' os' ss) → cEq cs rs os st bds cs' rs' os' st' bds' = false → Q (.ref ot) H'
theorem cut_neg (xs : List V) (h : xs ≠ []) : cutV xs none (some (-1)) = xs.take (xs.length - 1) := by
  unfold cutV
  rw [HT.sIx_none]
  have hl : 0 < xs.length := List.length_pos_iff.mpr h
  have e : HT.sIx xs.length xs.length (some (-1)) = xs.length - 1 := by
    simp [HT.sIx]
    omega
  rw [e, List.drop_zero, Nat.sub_zero]
theorem dps_takeN {K : PySem.W.Frag} {H : Hp} : ∀ {vs : List V} {ds : List PyData} (n : Nat), DpAll K H vs ds → DpAll K H (vs.take n) (ds.take n)
  | _, _, 0, _ => .nil
  | _, _, n + 1, .nil => .nil
  | _, _, n + 1, .cons h r => .cons h (dps_takeN n r)


theorem rot_at {os : List Str} {bds : List (List PyData)} (hl : bds.length = os.length) (i : Nat) (z : Str) (ss : List PyData) (e1 : (os.drop 1 ++ os.take 1)[i]? = some z) (e2 : (bds.drop 1 ++ bds.take 1)[i]? = some ss) : ∃ (j : Nat), os[j]? = some z ∧ bds[j]? = some ss := by
  rcases Nat.lt_or_ge i (os.drop 1).length with c | c
  · have c' : i < (bds.drop 1).length := by rw [List.length_drop] at c ⊢; omega
    rw [List.getElem?_append_left c, List.getElem?_drop] at e1
    rw [List.getElem?_append_left c', List.getElem?_drop] at e2
    exact ⟨1 + i, e1, e2⟩
  · have c' : (bds.drop 1).length ≤ i := by rw [List.length_drop] at c ⊢; omega
    rw [List.getElem?_append_right c, List.getElem?_take] at e1
    rw [List.getElem?_append_right c', List.getElem?_take] at e2
    have hd : (os.drop 1).length = (bds.drop 1).length := by rw [List.length_drop, List.length_drop, hl]
    rw [← hd] at e2
    split at e1
    · rw [if_pos (by assumption)] at e2
      exact ⟨_, e1, e2⟩
    · cases e1


theorem ed_init {K : PySem.W.Frag} {σ : L2.St} {H : Hp} {ta ti : TE} {xs : List PyData} (h1 : PZ.EvD K ta σ H (.tuple xs)) (h2 : Ev ti σ H (.int (-1))) (hne : xs ≠ []) : PZ.EvD K (tSl (rSlA K) ta tNoPart (tPart ti)) σ H (.tuple (xs.take (xs.length - 1))) := fun H1 e Q q =>
  h1 H1 e _ fun v H2 e2 dv => h2 H2 (e.trans e2) _ fun H3 e3 => ⟨-1, rfl, by
    cases dv with
    | @tup a vs _ ha hvs =>
      have lv := dpAll_len hvs
      have hl0 : 0 < xs.length := List.length_pos_iff.mpr hne
      have hvn : vs ≠ [] := fun e => by rw [e] at lv; simp at lv; omega
      have eS : HT.sIx vs.length vs.length (some (-1)) = vs.length - 1 := by
        simp [HT.sIx]
        omega
      refine ⟨a, vs, rfl, ex_t e3 ha, fun hw => ?_, fun hw r hr => ?_⟩
      · have w2 := hw.2
        rw [eS] at w2
        omega
      · refine q (.ref r) _ ((e2.trans e3).trans (Ex.new hr)) (.tup (st_of ?_) (dps_takeN (xs.length - 1) (dpMs (e3.trans (Ex.new hr)) _ _ hvs)))
        rw [upd_same, cut_neg vs hvn, lv]⟩
theorem el_catX {K : PySem.W.Frag} {ta tb : TE} {σ : L2.St} {H : Hp} {a : Addr} {xs ys : List V} (h1 : Ev ta σ H (.ref a)) (g1 : H a = some (.lst xs)) (h2 : EvL tb σ H ys) (hl : xs.length + ys.length ≤ 1000) : EvL (tOp rCat ta tb) σ H (xs ++ ys) := fun H1 e Q q =>
  h1 H1 e _ fun H2 e2 => h2 H2 (e.trans e2) _ fun b H3 n3 e3 hb => ⟨a, b, xs, ys, rfl, rfl, e3 _ _ (e2 _ _ (e _ _ g1)), hb, fits hl, fun u hu => q u _ (fresh_back (e2.trans e3) hu) ((e2.trans e3).trans (Ex.new hu)) upd_same⟩

section
variable {P : Program} {w : World} {K : PySem.W.Frag} {mg : Str → Option Value} {base : Heap}

theorem ok_law_other {fd : FuncData} (F : FnP K "_law_other" "_law_other" s_law_other (ga K "_law_other") fd) (T : Tx K w mg) (c_law_draw : Cl P w K mg base CX0 1 (ga K "_law_draw") ["_law_pen", "_law_many"] spDraw) (c_law_pick : Cl P w K mg base CX0 2 (ga K "_law_pick") ["_law_pen", "_law_row"] (spPick K)) (c_law_count : Cl P w K mg base CX0 5 (ga K "_law_count") ["_law_body"] (spCnt K 4)) : FnOk P w K mg base CX0 (5 + 1) (ga K "_law_other") fd ["_law_pen", "_law_plan_here"] (spOther K) := by
  obtain ⟨fd_law_draw, G_law_draw, b_law_draw, kp_law_draw⟩ := c_law_draw
  obtain ⟨fd_law_pick, G_law_pick, b_law_pick, kp_law_pick⟩ := c_law_pick
  obtain ⟨fd_law_count, G_law_count, b_law_count, kp_law_count⟩ := c_law_count
  refine FunD.ok F sc_law_other (fun vs H Q E h => ?_) (fun cdv A outer s H vs Q E hr h => ?_)
  · obtain ⟨p, l, pl, cs, rs, os, st, bds, b, rfl, _⟩ := h
    rfl
  · obtain ⟨p, l, pl, cs, rs, os, st, bds, b, rfl, hF, hN, hB, hP, kk⟩ := h
    have n_dict := T.fr "dict" (by decide +kernel)
    have n_range := T.fr "range" (by decide +kernel)
    have g_law_draw := T.gl "_law_draw" (by decide +kernel)
    have n_len := T.fr "len" (by decide +kernel)
    have g_law_pick := T.gl "_law_pick" (by decide +kernel)
    have g_law_count := T.gl "_law_count" (by decide +kernel)
    refine ⟨_, PSs.nox (pss_cons (ps_set (i := 2) sc_law_other.nd rfl (Or.inl rfl) (pe_callTy call_dictD (by rfl) n_dict (by decide +kernel) (pa_cons (pv 1) pa_nil)))
      (pss_cons (ps_asg (pe_callTy call_dictD (by rfl) n_dict (by decide +kernel) (pa_cons (pe_dget (Nat.lt_of_le_of_lt (Nat.add_le_add_left (by decide) _) hr.units) (pv 1) pe_str (fun _ _ => rfl)) pa_nil)) (pg_sub (pv 2) pe_str (set_dict (Nat.lt_of_le_of_lt (Nat.add_le_add_left (by decide) _) hr.units))))
      (pss_cons (ps_set (i := 3) sc_law_other.nd rfl (Or.inr rfl) (pe_op op_cat (pe_op op_cat (pe_dget (Nat.lt_of_le_of_lt (Nat.add_le_add_left (by decide) _) hr.units) (pv 1) pe_str (fun _ _ => rfl)) (pe_dget (Nat.lt_of_le_of_lt (Nat.add_le_add_left (by decide) _) hr.units) (pv 1) pe_str (fun _ _ => rfl))) (pe_dget (Nat.lt_of_le_of_lt (Nat.add_le_add_left (by decide) _) hr.units) (pv 1) pe_str (fun _ _ => rfl))))
      (pss_cons (ps_setLc (i := 4) (own := [("_law_word_here", 9)]) (g := gName 9) (by rfl) sc_law_other.nd rfl rfl (sw_true rfl rfl rfl (by decide +kernel)) (pi_list (pe_lc (own := [("_law_n", 10)]) (g := gName 10) (by rfl) sc_law_other.nd (pi_range2 (by rfl) n_range (pa_cons pe_int (pa_cons pe_int pa_nil))) (blkOk_by (own := [("_law_n", 10)]) (N := ["_law_pen", "_law_plan_here", "_law_other_here", "_law_names_here", "_law_spare", "_law_kind", "_law_name", "_law_body", "_law_room", "_law_word_here", "_law_n", "_law_one"]) (sc := defScope s_law_other) (by decide +kernel)) (fun _ _ _ _ _ => (pg_name (i := 10) sc_law_other.nd rfl (Or.inl rfl))) (fun _ _ _ _ _ => pts_nil) (fun _ _ _ _ _ => (pe_op op_mulS pe_str (pv 10))))) (blkOk_by (own := [("_law_word_here", 9)]) (N := ["_law_pen", "_law_plan_here", "_law_other_here", "_law_names_here", "_law_spare", "_law_kind", "_law_name", "_law_body", "_law_room", "_law_word_here", "_law_n", "_law_one"]) (sc := defScope s_law_other) (by decide +kernel)) (fun _ _ _ _ _ => (pg_name (i := 9) sc_law_other.nd rfl (Or.inl rfl))) (fun _ _ _ _ _ => (pts_one (pt_cmpR (op_notIn_seq : OpR _ _ (rIn K true)) (pv 9) (pv 3) (by rfl)))) (fun _ _ _ _ _ => (pv 9)))
      (pss_cons (ps_set (i := 5) sc_law_other.nd rfl (Or.inl rfl) (pe_call G_law_draw (hr.mono (by decide)) (by rfl) g_law_draw kp_law_draw b_law_draw .nil pass0 (pa_cons (pv 0) (pa_cons pe_int pa_nil))))
      (pss_cut (ps_if (PW.pt (pw_and (pt_cmpR op_eq (pv 5) pe_int (nomark _)) (pw_and1 (pt_cmpR op_lt (pe_callB call_len_seq (by rfl) n_len (by decide +kernel) (pa_cons (pe_dget (Nat.lt_of_le_of_lt (Nat.add_le_add_left (by decide) _) hr.units) (pv 1) pe_str (fun _ _ => rfl)) pa_nil)) pe_int (nomark _)))))
      (pss_one (ps_asg (pe_op op_cat (pe_dget (Nat.lt_of_le_of_lt (Nat.add_le_add_left (by decide) _) hr.units) (pv 1) pe_str (fun _ _ => rfl)) (pe_lst (pa_cons (pe_ix ix_list (pv 4) pe_int (fun _ _ => rfl)) pa_nil))) (pg_sub (pv 2) pe_str (set_dict (Nat.lt_of_le_of_lt (Nat.add_le_add_left (by decide) _) hr.units)))))
      (pss_one (ps_if (PW.pt (pw_and (pt_cmpR op_eq (pv 5) pe_int (nomark _)) (pw_and1 (pt_cmpR op_lt (pe_callB call_len_seq (by rfl) n_len (by decide +kernel) (pa_cons (pe_dget (Nat.lt_of_le_of_lt (Nat.add_le_add_left (by decide) _) hr.units) (pv 1) pe_str (fun _ _ => rfl)) pa_nil)) pe_int (nomark _)))))
      (pss_one (ps_asg (pe_op op_cat (pe_lst (pa_cons (pe_ix ix_list (pv 4) pe_int (fun _ _ => rfl)) pa_nil)) (pe_dget (Nat.lt_of_le_of_lt (Nat.add_le_add_left (by decide) _) hr.units) (pv 1) pe_str (fun _ _ => rfl))) (pg_sub (pv 2) pe_str (set_dict (Nat.lt_of_le_of_lt (Nat.add_le_add_left (by decide) _) hr.units)))))
      (pss_one (ps_if (PW.pt (pw_and (pt_cmpR op_eq (pv 5) pe_int (nomark _)) (pw_and1 (pt_cmpR op_gt (pe_callB call_len_seq (by rfl) n_len (by decide +kernel) (pa_cons (pe_dget (Nat.lt_of_le_of_lt (Nat.add_le_add_left (by decide) _) hr.units) (pv 1) pe_str (fun _ _ => rfl)) pa_nil)) pe_int (nomark _)))))
      (pss_one (ps_asg (pe_op op_cat (pe_slice sl_list (pe_dget (Nat.lt_of_le_of_lt (Nat.add_le_add_left (by decide) _) hr.units) (pv 1) pe_str (fun _ _ => rfl)) (po_some pe_int) po_none) (pe_slice sl_list (pe_dget (Nat.lt_of_le_of_lt (Nat.add_le_add_left (by decide) _) hr.units) (pv 1) pe_str (fun _ _ => rfl)) po_none (po_some pe_int))) (pg_sub (pv 2) pe_str (set_dict (Nat.lt_of_le_of_lt (Nat.add_le_add_left (by decide) _) hr.units)))))
      (pss_one (ps_if (PW.pt (pw_and (pt_cmpR op_eq (pv 5) pe_int (nomark _)) (pw_and1 (pt_cmpR op_gt (pe_callB call_len_seq (by rfl) n_len (by decide +kernel) (pa_cons (pe_dget (Nat.lt_of_le_of_lt (Nat.add_le_add_left (by decide) _) hr.units) (pv 1) pe_str (fun _ _ => rfl)) pa_nil)) pe_int (nomark _)))))
      (pss_one (ps_asg (pe_op op_cat (pe_slice sl_list (pe_dget (Nat.lt_of_le_of_lt (Nat.add_le_add_left (by decide) _) hr.units) (pv 1) pe_str (fun _ _ => rfl)) (po_some pe_int) po_none) (pe_slice sl_list (pe_dget (Nat.lt_of_le_of_lt (Nat.add_le_add_left (by decide) _) hr.units) (pv 1) pe_str (fun _ _ => rfl)) po_none (po_some pe_int))) (pg_sub (pv 2) pe_str (set_dict (Nat.lt_of_le_of_lt (Nat.add_le_add_left (by decide) _) hr.units)))))
      (pss_one (ps_if (PW.pt (pw_and (pt_cmpR op_eq (pv 5) pe_int (nomark _)) (pw_and1 (pt_cmpR op_gt (pe_callB call_len_seq (by rfl) n_len (by decide +kernel) (pa_cons (pe_dget (Nat.lt_of_le_of_lt (Nat.add_le_add_left (by decide) _) hr.units) (pv 1) pe_str (fun _ _ => rfl)) pa_nil)) pe_int (nomark _)))))
      (pss_one (ps_asg (pe_call G_law_pick (hr.mono (by decide)) (by rfl) g_law_pick kp_law_pick b_law_pick .nil pass0 (pa_cons (pv 0) (pa_cons (pe_lc (own := [("_law_one", 11)]) (g := gName 11) (by rfl) sc_law_other.nd (pi_list (pe_dget (Nat.lt_of_le_of_lt (Nat.add_le_add_left (by decide) _) hr.units) (pv 1) pe_str (fun _ _ => rfl))) (blkOk_by (own := [("_law_one", 11)]) (N := ["_law_pen", "_law_plan_here", "_law_other_here", "_law_names_here", "_law_spare", "_law_kind", "_law_name", "_law_body", "_law_room", "_law_word_here", "_law_n", "_law_one"]) (sc := defScope s_law_other) (by decide +kernel)) (fun _ _ _ _ _ => (pg_name (i := 11) sc_law_other.nd rfl (Or.inl rfl))) (fun _ _ _ _ _ => (pts_one (pt_cmpR op_ne (pv 11) (pe_dget (Nat.lt_of_le_of_lt (Nat.add_le_add_left (by decide) _) hr.units) (pv 1) pe_str (fun _ _ => rfl)) (nomark _)))) (fun _ _ _ _ _ => (pv 11))) pa_nil))) (pg_sub (pv 2) pe_str (set_dict (Nat.lt_of_le_of_lt (Nat.add_le_add_left (by decide) _) hr.units)))))
      (pss_cons (ps_set (i := 6) sc_law_other.nd rfl (Or.inl rfl) (pe_call G_law_pick (hr.mono (by decide)) (by rfl) g_law_pick kp_law_pick b_law_pick .nil pass0 (pa_cons (pv 0) (pa_cons (pe_dget (Nat.lt_of_le_of_lt (Nat.add_le_add_left (by decide) _) hr.units) (pv 1) pe_str (fun _ _ => rfl)) pa_nil))))
      (pss_cons (ps_set (i := 7) sc_law_other.nd rfl (Or.inl rfl) (pe_dget (Nat.lt_of_le_of_lt (Nat.add_le_add_left (by decide) _) hr.units) (pe_dget (Nat.lt_of_le_of_lt (Nat.add_le_add_left (by decide) _) hr.units) (pv 1) pe_str (fun _ _ => rfl)) (pv 6) (fun _ _ => rfl)))
      (pss_cons (ps_set (i := 8) sc_law_other.nd rfl (Or.inl rfl) (pe_cmpR op_lt (pe_call G_law_count (hr.mono (by decide)) (by rfl) g_law_count kp_law_count b_law_count .nil pass0 (pa_cons (pv 7) pa_nil)) pe_int (nomark _)))
      (pss_one (ps_asg (pe_ifExp (pt_val (pv 8)) (pe_op PZ.op_cat2 (pv 7) (pe_tup (pa_cons (pe_tup (pa_cons pe_str pa_nil)) pa_nil))) (pe_slice sl_tupA (pv 7) po_none (po_some (pe_un un_neg pe_int)))) (pg_sub (pe_dget (Nat.lt_of_le_of_lt (Nat.add_le_add_left (by decide) _) hr.units) (pv 2) pe_str (fun _ _ => rfl)) (pv 6) (set_dict (Nat.lt_of_le_of_lt (Nat.add_le_add_left (by decide) _) hr.units)))))))))))))))))
      (pss_one (ps_ret (pv 2))))))))), ?_⟩
    have htt : ∀ ss ∈ bds, ∃ m, Tt m (.tuple ss) := fun ss hs => ⟨_, bodv_tt (hB ss hs)⟩
    have sz := hN.sz
    have nd := hN.ok.1
    have ndc : cs.Nodup := (List.nodup_append.mp (List.nodup_append.mp nd).1).1
    have ndo : os.Nodup := (List.nodup_append.mp nd).2.1
    have osne : os ≠ [] := fun e => by have := hN.st; rw [e] at this; cases this
    obtain ⟨kvs, c, r, o, bd, bk, W⟩ := hF.w
    obtain ⟨k1, k2, k3, k4, k5, k6, k7, k8, k9, k10, k11, k12, k13, k14, k15⟩ := id W
    -- the copies
    refine ⟨.ref pl, rfl, pl, kvs, rfl, .inl k1, fun ot hot => ?_⟩
    have e1 := Ex.new (o := .dK kvs) hot
    try dsimp only [gName, List.set]
    refine ⟨.ref pl, rfl, pl, .ref bd, rfl, .inl ⟨kvs, Sum.inr "bodies", .inl (e1 _ _ k1), rfl, k6.symm⟩, bd, bk, rfl, .inl (e1 _ _ k10), fun nb hnb => ?_⟩
    have e2 := Ex.new (o := .dK bk) hnb
    have nnb : nb ≠ ot := fun e => by rw [e, upd_same] at hnb; cases hnb
    refine ⟨.ref ot, rfl, ot, _, rfl, .inl ⟨kvs, Sum.inr "bodies", e2 _ _ upd_same, rfl, small1000 (by omega), rfl⟩, ?_⟩
    have e3 : Ex H (upd (upd (upd H ot (.dK kvs)) nb (.dK bk)) ot (.dK (putK kvs (Sum.inr "bodies") (.ref nb)))) := (e1.trans e2).mut hot
    have g1 : upd (upd (upd H ot (.dK kvs)) nb (.dK bk)) ot (.dK (putK kvs (Sum.inr "bodies") (.ref nb))) ot = some (.dK (putK kvs (Sum.inr "bodies") (.ref nb))) := upd_same
    have g2 : upd (upd (upd H ot (.dK kvs)) nb (.dK bk)) ot (.dK (putK kvs (Sum.inr "bodies") (.ref nb))) nb = some (.dK bk) := (upd_ne nnb).trans upd_same
    generalize upd (upd (upd H ot (.dK kvs)) nb (.dK bk)) ot (.dK (putK kvs (Sum.inr "bodies") (.ref nb))) = H3 at e3 g1 g2
    have W3 : PlW K H3 ot cs rs os st bds (putK kvs (Sum.inr "bodies") (.ref nb)) c r o nb bk := by
      refine ⟨g1, ?_, ?_, ?_, ?_, ?_, e3 _ _ k7, e3 _ _ k8, e3 _ _ k9, g2, k11, fun i z ss h1 h2 => ?_, k13, nnb, ?_⟩
      · rw [valV_put, if_neg (by decide +kernel)]; exact k2
      · rw [valV_put, if_neg (by decide +kernel)]; exact k3
      · rw [valV_put, if_neg (by decide +kernel)]; exact k4
      · rw [valV_put, if_neg (by decide +kernel)]; exact k5
      · rw [valV_put, if_pos rfl]
      · obtain ⟨b, h3, h4⟩ := k12 i z ss h1 h2
        exact ⟨b, h3, dpM e3 _ _ h4⟩
      · rw [putK_same k6]
        exact k15
    generalize putK kvs (Sum.inr "bodies") (.ref nb) = kvo at W3
    clear e1 e2 g1 g2
    have V3 := W.mono e3
    -- the names, the spare ones
    refine q_asgL (xs := cs.map V.str ++ rs.map V.str ++ os.map V.str) (el_catV (K := K) (el_cat2 (K := K) (ev_dget rfl V3.1 k2) V3.2.2.2.2.2.2.1 (ev_dget rfl V3.1 k3) V3.2.2.2.2.2.2.2.1 ?_) (ev_dget rfl V3.1 k4) V3.2.2.2.2.2.2.2.2.1 ?_) fun nl H4 hnl e4 gnl => ?_
    · rw [List.length_map, List.length_map]; omega
    · rw [List.length_append, List.length_map, List.length_map, List.length_map]; omega
    rw [← List.map_append, ← List.map_append] at gnl
    try dsimp only [gName, List.set]
    refine q_asgL (xs := given 12 (fun i => !decide (aS (1 + i) ∈ cs ++ rs ++ os)) (fun i => V.str (aS (1 + i)))) ?_ fun sl H5 hsl e5 gsl => ?_
    · refine el_lcNL (xs := given 12 (fun _ => true) (fun i => V.str (aS (1 + i)))) (fun i => !decide (aS (1 + i) ∈ cs ++ rs ++ os)) (fun i => V.str (aS (1 + i))) ?_ (by decide) (fun _ => rfl) (fun j x H1' e1' hx => ?_) (fun j x H1' e1' hx _ => ?_)
      · refine el_lcR2 (lo := 1) (n := 13) (fun _ => true) (fun i => V.str (aS (1 + i))) (ea_cons ev_c (ea_cons ev_c ea_nil)) (by decide) (fun _ => rfl) (fun _ _ _ _ => fun H1 _ Q q => q H1 (Ex.refl H1)) (fun j H1' _ hj _ => ?_)
        refine ev_op ev_c (ev_var rfl) (fun H2' _ Q q => ⟨"a", 1 + j, rfl, ?_, ⟨by omega, by omega⟩, ⟨by decide +kernel, by decide +kernel⟩, q H2' (Ex.refl _)⟩)
        rw [Int.natCast_add]
        rfl
      · have ex : x = .str (aS (1 + j)) := given_all_at hx
        subst ex
        have k := rv_niL (K := K) (x := .str (aS (1 + j))) (H := H1') (sq_of (e1' _ _ gnl)) rfl (flat_strs _)
        rw [inV_strs] at k
        exact et_test (ev_op (ev_var rfl) (ev_var rfl) k)
      · have ex : x = .str (aS (1 + j)) := given_all_at hx
        subst ex
        exact ev_var rfl
    obtain ⟨sp, gy, sp1, sp2, sp3, sp4⟩ := spare_first (ys := cs ++ rs ++ os) (by rw [List.length_append, List.length_append]; omega)
    have e35 := e3.trans (e4.trans e5)
    have pen5 := hP.ex e35
    try dsimp only [gName, List.set]
    refine ⟨.ref p, rfl, p, l, 6, b + 1, rfl, ⟨by decide, by decide⟩, pen5, fun kd H6 hkd px6 pen6 => ?_⟩
    have pxA : Px p l H H6 := (Px.of e35).trans px6
    have W6 := (W3.mono (e4.trans e5)).px pen5 px6 htt
    have V6 := (V3.mono (e4.trans e5)).px pen5 px6 htt
    have nsl := (hP.ex (e3.trans e4)).new hsl
    have gsl6 := px6.get nsl.1 nsl.2 gsl
    have hot0 := hot
    have hnb0 : H nb = none := fresh_back (Ex.new (o := .dK kvs) hot) hnb
    clear e4 e5 e35 px6 pen5 gsl W3 V3
    try dsimp only [gName, List.set]
    obtain ⟨w1, w2, w3, w4, w5, w6, w7, w8, w9, w10, w11, w12, w13, w14, w15⟩ := id W6
    have u1 := V6.1
    refine q_cut (M := fun σ' H' => ∃ x6 x7 x8, σ' = [some (.ref p), some (.ref pl), some (.ref ot), some (.ref nl), some (.ref sl), some (.int kd), x6, x7, x8, none, none, none] ∧ ∃ cs' rs' os' st' bds', Px p l H H' ∧ Pen p l b H' ∧ PlF K H' ot cs' rs' os' st' bds' ∧ Names cs' rs' os' st' ∧ (∀ ss ∈ bds', BodV cs' rs' os' ss) ∧ cEq cs rs os st bds cs' rs' os' st' bds' = false) ?_ fun σ2 H2 hM => ?_
    · have fin : ∀ {H7 : Hp} {kv : List (Key × V)}, Ex H6 H7 → Px p l H (upd H7 ot (.dK kv)) ∧ Pen p l b (upd H7 ot (.dK kv)) := fun {H7 kv} e => by
        have no := dk_off pen6 w1
        exact ⟨(pxA.trans (Px.of e)).upd (.inr (.inr hot0)), ((pen6.ex e).less (by omega)).upd no.1 no.2⟩
      have spx : (given 12 (fun i => !decide (aS (1 + i) ∈ cs ++ rs ++ os)) (fun i => V.str (aS (1 + i))))[0]? = some (.str sp) := gy
      have lenT : ∀ {σ : L2.St} {H7 : Hp} {key : Str} {a : Addr} {zs : List Str}, σ[1]? = some (some (.ref pl)) → H7 pl = some (.dK kvs) → valV kvs (Sum.inr key) = some (.ref a) → H7 a = some (.lst (zs.map V.str)) → Ev (tCB (rLenS K) (tCons (tDGet (tVar 1) (tC (.str key))) tNil)) σ H7 (.int (zs.length : Nat)) := fun {σ H7 key a zs} h1 h2 h3 h4 => by
        have z := ev_len (K := K) (ev_dget h1 h2 h3) (sq_of h4)
        rw [List.length_map] at z
        exact z
      have spE : ∀ {σ : L2.St} {H7 : Hp}, σ[4]? = some (some (.ref sl)) → Ex H6 H7 → Ev (tOp (rIxL K) (tVar 4) (tC (.int 0))) σ H7 (.str sp) := fun h1 e => ev_op (ev_var h1) ev_c (rv_ixL (i := ((0 : Nat) : Int)) (sq_of (e _ _ gsl6)) (atI_nat (j := 0) spx))
      refine s_if (b := decide (V.int kd = V.int 0) && decide ((cs.length : Int) < 3)) (et_and (et_test (ev_op (ev_var rfl) ev_c (rv_eq rfl))) fun _ => et_test (ev_op (lenT rfl u1 k2 w7) ev_c rv_I0)) (fun hb H7 e7 => ?_) (fun hb H7 e7 => ?_)
      · -- one cell more
        have hl : cs.length < 3 := by have := of_decide_eq_true (Bool.and_eq_true_iff.mp hb).2; omega
        refine (el_catX (K := K) (ev_dget rfl (e7 _ _ u1) k2) (e7 _ _ w7) (el_lst (ea_cons (spE rfl e7) ea_nil) (show 1 ≤ 100000 by decide)) ?_) H7 (Ex.refl _) _ fun nc H8 hnc e8 gnc => ?_
        · rw [List.length_map]
          show cs.length + 1 ≤ 1000
          omega
        have e78 := e7.trans e8
        refine ⟨.ref ot, rfl, ot, _, rfl, .inl ⟨kvo, Sum.inr "cells", e78 _ _ w1, rfl, small1000 (by omega), rfl⟩, _, _, _, rfl, cs ++ [sp], rs, os, st, bds, (fin e78).1, (fin e78).2, ?_, names_c1 hN hl sp1 ⟨sp2, sp3, sp4⟩, fun ss hs => bodv_mono (fun z hz => List.mem_append_left _ hz) (fun z h => h) (fun z h => h) (hB ss hs), ceq_c fun e => ?_⟩
        · exact (W6.mono e78).set htt (c2 := nc) (r2 := r) (o2 := o) w2 (by rw [valV_put, if_pos rfl]) (by rw [valV_put, if_neg (by decide +kernel)]; exact w3) (by rw [valV_put, if_neg (by decide +kernel)]; exact w4) (by rw [valV_put, if_neg (by decide +kernel)]; exact w5) (by rw [valV_put, if_neg (by decide +kernel)]; exact w6) (by rw [gnc, List.map_append]; rfl) (e78 _ _ w8) (e78 _ _ w9) w11 (fun i z ss h1 h2 => ⟨i, h1, h2⟩)
        · have := congrArg List.length e
          rw [List.length_append] at this
          simp at this
      refine s_if (b := decide (V.int kd = V.int 1) && decide ((rs.length : Int) < 2)) (et_and (et_test (ev_op (ev_var rfl) ev_c (rv_eq rfl))) fun _ => et_test (ev_op (lenT rfl (e7 _ _ u1) k3 (e7 _ _ w8)) ev_c rv_I0)) (fun hb2 H8 e8 => ?_) (fun hb2 H8 e8 => ?_)
      · -- one row more
        have hl : rs.length < 2 := by have := of_decide_eq_true (Bool.and_eq_true_iff.mp hb2).2; omega
        have e78 := e7.trans e8
        refine (el_catV (K := K) (el_lst (ea_cons (spE rfl e78) ea_nil) (show 1 ≤ 100000 by decide)) (ev_dget rfl (e78 _ _ u1) k3) (e78 _ _ w8) ?_) H8 (Ex.refl _) _ fun nr H9 hnr e9 gnr => ?_
        · rw [List.length_map]
          show 1 + rs.length ≤ 1000
          omega
        have e79 := e78.trans e9
        refine ⟨.ref ot, rfl, ot, _, rfl, .inl ⟨kvo, Sum.inr "rows", e79 _ _ w1, rfl, small1000 (by omega), rfl⟩, _, _, _, rfl, cs, [sp] ++ rs, os, st, bds, (fin e79).1, (fin e79).2, ?_, names_r1 hN hl sp1 ⟨sp2, sp3, sp4⟩, fun ss hs => bodv_mono (fun z h => h) (fun z hz => List.mem_append_right _ hz) (fun z h => h) (hB ss hs), ceq_r fun e => ?_⟩
        · exact (W6.mono e79).set htt (c2 := c) (r2 := nr) (o2 := o) w3 (by rw [valV_put, if_neg (by decide +kernel)]; exact w2) (by rw [valV_put, if_pos rfl]) (by rw [valV_put, if_neg (by decide +kernel)]; exact w4) (by rw [valV_put, if_neg (by decide +kernel)]; exact w5) (by rw [valV_put, if_neg (by decide +kernel)]; exact w6) (e79 _ _ w7) (by rw [gnr, List.map_append]; rfl) (e79 _ _ w9) w11 (fun i z ss h1 h2 => ⟨i, h1, h2⟩)
        · have := congrArg List.length e
          rw [List.length_append] at this
          simp at this
      have f8 := e7.trans e8
      refine s_if (b := decide (V.int kd = V.int 2) && decide ((1 : Int) < (cs.length : Nat))) (et_and (et_test (ev_op (ev_var rfl) ev_c (rv_eq rfl))) fun _ => et_test (ev_op (lenT rfl (f8 _ _ u1) k2 (f8 _ _ w7)) ev_c rv_I0)) (fun hb3 H9 e9 => ?_) (fun hb3 H9 e9 => ?_)
      · -- the cells turned
        have hl : 1 < cs.length := by have := of_decide_eq_true (Bool.and_eq_true_iff.mp hb3).2; omega
        have f9 := f8.trans e9
        refine (el_catL (K := K) (el_sl (K := K) (ev_dget rfl (f9 _ _ u1) k2) (eo_some ev_c) eo_none (sq_of (f9 _ _ w7))) (el_sl (K := K) (ev_dget rfl (f9 _ _ u1) k2) eo_none (eo_some ev_c) (sq_of (f9 _ _ w7))) ?_) H9 (Ex.refl _) _ fun nc H10 hnc e10 gnc => ?_
        · have q1 := cutV_length (cs.map V.str) (some 1) none
          have q2 := cutV_length (cs.map V.str) none (some 1)
          rw [List.length_map] at q1 q2
          omega
        have f10 := f9.trans e10
        have cv : cutV (cs.map V.str) (some 1) none ++ cutV (cs.map V.str) none (some 1) = (cs.drop 1 ++ cs.take 1).map V.str := by
          have q1 : cutV (cs.map V.str) (some 1) none = (cs.map V.str).drop 1 := cut_drop _ 1
          have q2 : cutV (cs.map V.str) none (some 1) = (cs.map V.str).take 1 := cut_take _ 1
          rw [q1, q2, ← List.map_drop, ← List.map_take, List.map_append]
        rw [cv] at gnc
        refine ⟨.ref ot, rfl, ot, _, rfl, .inl ⟨kvo, Sum.inr "cells", f10 _ _ w1, rfl, small1000 (by omega), rfl⟩, _, _, _, rfl, cs.drop 1 ++ cs.take 1, rs, os, st, bds, (fin f10).1, (fin f10).2, ?_, names_c2 hN, fun ss hs => bodv_mono (fun z hz => rot_mem.mp hz) (fun z h => h) (fun z h => h) (hB ss hs), ceq_c (rot_ne ndc hl)⟩
        exact (W6.mono f10).set htt (c2 := nc) (r2 := r) (o2 := o) w2 (by rw [valV_put, if_pos rfl]) (by rw [valV_put, if_neg (by decide +kernel)]; exact w3) (by rw [valV_put, if_neg (by decide +kernel)]; exact w4) (by rw [valV_put, if_neg (by decide +kernel)]; exact w5) (by rw [valV_put, if_neg (by decide +kernel)]; exact w6) gnc (f10 _ _ w8) (f10 _ _ w9) w11 (fun i z ss h1 h2 => ⟨i, h1, h2⟩)
      have f9 := f8.trans e9
      refine s_if (b := decide (V.int kd = V.int 3) && decide ((1 : Int) < (os.length : Nat))) (et_and (et_test (ev_op (ev_var rfl) ev_c (rv_eq rfl))) fun _ => et_test (ev_op (lenT rfl (f9 _ _ u1) k4 (f9 _ _ w9)) ev_c rv_I0)) (fun hb4 H10 e10 => ?_) (fun hb4 H10 e10 => ?_)
      · -- the order turned
        have hl : 1 < os.length := by have := of_decide_eq_true (Bool.and_eq_true_iff.mp hb4).2; omega
        have f10 := f9.trans e10
        refine (el_catL (K := K) (el_sl (K := K) (ev_dget rfl (f10 _ _ u1) k4) (eo_some ev_c) eo_none (sq_of (f10 _ _ w9))) (el_sl (K := K) (ev_dget rfl (f10 _ _ u1) k4) eo_none (eo_some ev_c) (sq_of (f10 _ _ w9))) ?_) H10 (Ex.refl _) _ fun nc H11 hnc e11 gnc => ?_
        · have q1 := cutV_length (os.map V.str) (some 1) none
          have q2 := cutV_length (os.map V.str) none (some 1)
          rw [List.length_map] at q1 q2
          omega
        have f11 := f10.trans e11
        have cv : cutV (os.map V.str) (some 1) none ++ cutV (os.map V.str) none (some 1) = (os.drop 1 ++ os.take 1).map V.str := by
          have q1 : cutV (os.map V.str) (some 1) none = (os.map V.str).drop 1 := cut_drop _ 1
          have q2 : cutV (os.map V.str) none (some 1) = (os.map V.str).take 1 := cut_take _ 1
          rw [q1, q2, ← List.map_drop, ← List.map_take, List.map_append]
        rw [cv] at gnc
        refine ⟨.ref ot, rfl, ot, _, rfl, .inl ⟨kvo, Sum.inr "order", f11 _ _ w1, rfl, small1000 (by omega), rfl⟩, _, _, _, rfl, cs, rs, os.drop 1 ++ os.take 1, st, bds.drop 1 ++ bds.take 1, (fin f11).1, (fin f11).2, ?_, names_o2 hN, fun ss hs => bodv_mono (fun z h => h) (fun z h => h) (fun z hz => rot_mem.mp hz) (hB ss (rot_mem.mpr hs)), ceq_f (fns_rot ndo hl)⟩
        exact (W6.mono f11).set htt (c2 := c) (r2 := r) (o2 := nc) w4 (by rw [valV_put, if_neg (by decide +kernel)]; exact w2) (by rw [valV_put, if_neg (by decide +kernel)]; exact w3) (by rw [valV_put, if_pos rfl]) (by rw [valV_put, if_neg (by decide +kernel)]; exact w5) (by rw [valV_put, if_neg (by decide +kernel)]; exact w6) (f11 _ _ w7) (f11 _ _ w8) gnc (by rw [← (rot_perm bds).length_eq, ← (rot_perm os).length_eq]; exact w11) (fun i z ss h1 h2 => rot_at w11 i z ss h1 h2)
      have f10 := f9.trans e10
      refine s_if (b := decide (V.int kd = V.int 4) && decide ((1 : Int) < (os.length : Nat))) (et_and (et_test (ev_op (ev_var rfl) ev_c (rv_eq rfl))) fun _ => et_test (ev_op (lenT rfl (f10 _ _ u1) k4 (f10 _ _ w9)) ev_c rv_I0)) (fun hb5 H11 e11 => ?_) (fun hb5 H11 e11 => ?_)
      · -- another start
        have hl : 1 < os.length := by have := of_decide_eq_true (Bool.and_eq_true_iff.mp hb5).2; omega
        have f11 := f10.trans e11
        have oix : ∀ {i : Nat} {x : V}, (os.map V.str)[i]? = some x → x = .str (os.getD i "") ∧ os.getD i "" ∈ os := fun {i x} h => by
          rw [List.getElem?_map] at h
          cases w1 : os[i]? with
          | none =>
            rw [w1] at h
            cases h
          | some y =>
            rw [w1] at h
            cases h
            rw [List.getD_eq_getElem?_getD, w1]
            exact ⟨rfl, List.mem_of_getElem? w1⟩
        refine ⟨.ref p, rfl, (el_lcL (K := K) (xs := os.map V.str) (fun i => !decide (os.getD i "" = st)) (fun i => .str (os.getD i "")) (ev_dget rfl (f11 _ _ u1) k4) (sq_of (f11 _ _ w9)) (by rw [List.length_map]; omega) (fun _ => rfl) (fun i x H12 e12 hx => by
          obtain ⟨ex, _⟩ := oix hx
          subst ex
          refine et_test ?_
          have z := rv_ne (H := H12) (x := V.str (os.getD i "")) (y := V.str st) rfl
          rw [e_str] at z
          exact ev_op (ev_var rfl) (ev_dget rfl (e12 _ _ (f11 _ _ u1)) k5) z) (fun i x H12 e12 hx _ => by
          obtain ⟨ex, _⟩ := oix hx
          subst ex
          exact ev_var rfl)) H11 (Ex.refl _) _ fun ol H12 hol e12 gol => ?_⟩
        have f12 := f11.trans e12
        have pen12 := pen6.ex f12
        have nol := (pen6.ex f11).new hol
        have hne : given (os.map V.str).length (fun i => !decide (os.getD i "" = st)) (fun i => V.str (os.getD i "")) ≠ [] := fun e => by
          unfold given at e
          rw [List.map_eq_nil_iff, List.filter_eq_nil_iff] at e
          have e0 := e 0 (List.mem_range.mpr (by rw [List.length_map]; omega))
          have e1 := e 1 (List.mem_range.mpr (by rw [List.length_map]; omega))
          have q0 : os.getD 0 "" = st := by simpa using e0
          have q1 : os.getD 1 "" = st := by simpa using e1
          match os, hl, ndo with
          | a :: b :: r, _, ndo =>
            have z : a = b := q0.trans q1.symm
            exact (List.nodup_cons.mp ndo).1 (by rw [z]; exact List.mem_cons_self)
        refine ⟨p, l, ol, _, b, rfl, sq_of ((cut_at nol.1 nol.2).trans gol), ⟨hne, Nat.le_trans (given_len ..) (by rw [List.length_map]; omega)⟩, pen12, fun v H13 hv px13 pen13 => ?_⟩
        obtain ⟨z, rfl, hz, hzs⟩ : ∃ z, v = .str z ∧ z ∈ os ∧ z ≠ st := by
          unfold given at hv
          obtain ⟨i, hi, rfl⟩ := List.mem_map.mp hv
          obtain ⟨h1, h2⟩ := List.mem_filter.mp hi
          refine ⟨_, rfl, ?_, by simpa using h2⟩
          have h3 := List.mem_range.mp h1
          rw [List.length_map] at h3
          rw [List.getD_eq_getElem?_getD, List.getElem?_eq_getElem h3]
          exact List.getElem_mem _
        have W13 := (W6.mono f12).px pen12 px13 htt
        obtain ⟨v1, v2, v3, v4, v5, v6, v7, v8, v9, v10, v11, v12, v13, v14, v15⟩ := id W13
        have no := dk_off pen13 v1
        refine ⟨.ref ot, rfl, ot, _, rfl, .inl ⟨kvo, Sum.inr "start", v1, rfl, small1000 (by omega), rfl⟩, _, _, _, rfl, cs, rs, os, z, bds, ((pxA.trans (Px.of f12)).trans px13).upd (.inr (.inr hot0)), pen13.upd no.1 no.2, ?_, ⟨hN.sz, hN.ok, hz⟩, hB, ceq_s (Ne.symm hzs)⟩
        exact W13.set htt (c2 := c) (r2 := r) (o2 := o) v5 (by rw [valV_put, if_neg (by decide +kernel)]; exact v2) (by rw [valV_put, if_neg (by decide +kernel)]; exact v3) (by rw [valV_put, if_neg (by decide +kernel)]; exact v4) (by rw [valV_put, if_pos rfl]) (by rw [valV_put, if_neg (by decide +kernel)]; exact v6) v7 v8 v9 v11 (fun i z ss h1 h2 => ⟨i, h1, h2⟩)
      -- another body
      have f11 := f10.trans e11
      have pen11 := pen6.ex f11
      have nof := strs_off pen11 (f11 _ _ w9)
      refine ⟨.ref p, rfl, .ref pl, rfl, pl, .ref o, rfl, .inl ⟨kvs, Sum.inr "order", .inl (f11 _ _ u1), rfl, k4.symm⟩, p, l, o, _, b, rfl, sq_of ((cut_at nof.1 nof.2).trans (f11 _ _ w9)), ⟨fun e => osne (List.map_eq_nil_iff.mp e), by rw [List.length_map]; omega⟩, pen11, fun v H12 hv px12 pen12 => ?_⟩
      obtain ⟨z, hzm, e⟩ := List.mem_map.mp hv
      subst e
      obtain ⟨y, hz⟩ := List.mem_iff_getElem?.mp hzm
      have hy := (List.getElem?_eq_some_iff.mp hz).1
      have hb : bds[y]? = some (bds[y]'(by omega)) := List.getElem?_eq_getElem _
      generalize bds[y]'(by omega) = ss at hb
      have hV := hB ss (List.mem_of_getElem? hb)
      have W12 := (W6.mono f11).px pen11 px12 htt
      have V12 := (V6.mono f11).px pen11 px12 htt
      have pxB := (pxA.trans (Px.of f11)).trans px12
      obtain ⟨x1, x2, x3, x4, x5, x6, x7, x8, x9, x10, x11, x12, x13, x14, x15⟩ := id V12
      obtain ⟨ba, hba, dba⟩ := x12 y z ss hz hb
      have tt := bodv_tt hV
      obtain ⟨mt, tts⟩ : ∃ m, Tts m ss := by
        cases tt with
        | tup _ h => exact ⟨_, h⟩
      have lcn : ss.length ≤ cnt 4 ss := len_cnt (n := 3)
      have ecn := nums_cnt (n := 4) (ss := ss) (as := []) (bod_hb hV.1.2)
      have l14 : ss.length ≤ 15 := hV.1.2.1
      try dsimp only [gName, List.set]
      refine q_asg (v := .ref ba) (ev_dgetV (ev_dget rfl x1 k6) (ev_var rfl) x10 hba) fun H13 e13 => ?_
      try dsimp only [gName, List.set]
      refine q_asg (v := .bl (decide ((cnt 4 ss : Int) < 14))) (ev_op (ev_call (z := .int (cnt 4 ss : Nat)) (ea_cons (ev_var rfl) ea_nil) fun H14 e14 R q _ => ⟨ba, ss, mt, rfl, dpM (e13.trans e14) _ _ dba, tts, bod_hb hV.1.2, fun H15 e15 => q H15 e15⟩) ev_c rv_I0) fun H14 e14 => ?_
      have f14 := e13.trans e14
      try dsimp only [gName, List.set]
      have val : ∃ ss', BodV cs rs os ss' ∧ ss.length ≠ ss'.length ∧ ED K (tIf (tB (tVar 8)) (tOp (PZ.rCat2 K) (tVar 7) (tTup (tCons (tTup (tCons (tC (.str "fault")) tNil)) tNil))) (tSl (rSlA K) (tVar 7) tNoPart (tPart (tUn (rU fun i => .int (-i)) (tC (.int 1)))))) [some (.ref p), some (.ref pl), some (.ref ot), some (.ref nl), some (.ref sl), some (.int kd), some (.str z), some (.ref ba), some (.bl (decide ((cnt 4 ss : Int) < 14))), none, none, none] H14 (.tuple ss') := by
        by_cases hr : (cnt 4 ss : Int) < 14
        · refine ⟨ss ++ [faultD], bodv_fault hV (by omega), by rw [List.length_append]; simp, PZ.ed_if (b := true) (et_B (ev_is (ev_var rfl) (by rw [decide_eq_true hr]))) (fun _ => ?_) (fun h => nomatch h)⟩
          exact PZ.ed_cat (ed_of (ev_var rfl) (dpM f14 _ _ dba)) (PZ.ed_tup (PZ.eds_cons (PZ.ed_tup (PZ.eds_cons PZ.ed_str PZ.eds_nil) (show 1 ≤ 1000 by decide)) PZ.eds_nil) (show 1 ≤ 1000 by decide)) (show ss.length + 1 ≤ 1000 by omega)
        · have hne : ss ≠ [] := fun e => by rw [e] at hr; exact hr (by decide)
          have hl0 : 0 < ss.length := List.length_pos_iff.mpr hne
          refine ⟨ss.take (ss.length - 1), bodv_less (b := ss.drop (ss.length - 1)) (by rw [List.take_append_drop]; exact hV), by rw [List.length_take]; omega, PZ.ed_if (b := false) (et_B (ev_is (ev_var rfl) (by rw [decide_eq_false hr]))) (fun h => nomatch h) (fun _ => ?_)⟩
          exact ed_init (ed_of (ev_var rfl) (dpM f14 _ _ dba)) (ev_un (x := .int 1) ev_c (fun H1 _ Q q => ⟨1, rfl, q H1 (Ex.refl _)⟩)) hne
      obtain ⟨ss', hV', hlen, hED⟩ := val
      refine hED H14 (Ex.refl _) _ fun v' H15 e15 dv => ?_
      have f15 := f14.trans e15
      obtain ⟨av, rfl⟩ : ∃ av, v' = .ref av := by
        cases dv with
        | @tup av _ _ _ _ => exact ⟨av, rfl⟩
      have W15 := W12.mono f15
      obtain ⟨v1, v2, v3, v4, v5, v6, v7, v8, v9, v10, v11, v12, v13, v14, v15⟩ := id W15
      have nbo := dk_off (pen12.ex f15) v10
      refine ⟨.ref ot, rfl, ot, .ref nb, rfl, .inl ⟨kvo, Sum.inr "bodies", .inl v1, rfl, v6.symm⟩, .str z, rfl, nb, _, rfl, .inl ⟨bk, Sum.inr z, v10, rfl, small1000 (by omega), rfl⟩, _, _, _, rfl, cs, rs, os, st, bds.set y ss', (pxB.trans (Px.of f15)).upd (.inr (.inr hnb0)), (pen12.ex f15).upd nbo.1 nbo.2, PlF.put W15 ndo hz htt ⟨_, bodv_tt hV'⟩ dv, hN, fun s hs => ?_, ceq_f (fns_put hy hb hlen)⟩
      rcases List.mem_or_eq_of_mem_set hs with h | h
      · exact hB s h
      · rw [h]
        exact hV'
    · obtain ⟨x6, x7, x8, rfl, cs', rs', os', st', bds', q1, q2, q3, q4, q5, q6⟩ := hM
      exact ⟨.ref ot, rfl, kk ot cs' rs' os' st' bds' H2 q1 q2 q3 q4 q5 q6⟩

end
end K05
set_option Elab.async false
set_option linter.all false
set_option maxRecDepth 100000
set_option maxHeartbeats 8000000
namespace K05
open PySem PySem.Spec PyProof.Rows L2 He XH XV XR PEN TR Evl


/-! ### the lines of a code -/
def strsD (d : PyData) : List Str := (argsOf d).filterMap fun x => match x with
  | .str z => some z
  | _ => none
theorem kinds9 : ∀ p ∈ ENT, p.2 ∈ [[], [("cell" : Str)], ["row"], ["how"], ["function"], ["end"], ["part"], ["part", "part"], ["cell", "part", "part"]] := by decide +kernel
theorem part_of {cs rs os : List Str} {x : PyData} (h : fitsP cs rs os "part" x) : ∃ ds, x = .tuple ds := by
  unfold fitsP at h
  rw [if_pos rfl] at h
  cases x with
  | tuple ds => exact ⟨ds, rfl⟩
  | none => cases h
  | bool _ => cases h
  | int _ => cases h
  | str _ => cases h
  | list _ => cases h
  | dict _ => cases h
theorem str_of {cs rs os : List Str} {k : Str} {x : PyData} (hk : ¬ k = "part") (h : fitsP cs rs os k x) : ∃ z, x = .str z ∧ z ∈ nmsOf cs rs os k := by
  unfold fitsP at h
  rw [if_neg hk] at h
  exact h
/-- the names of a statement stand ahead of its parts -/
theorem Wf.split {cs rs os : List Str} {d : PyData} (h : Wf cs rs os d) : argsOf d = (strsD d).map PyData.str ++ parts d := by
  obtain ⟨w, ks, args, rfl, hk, hl, hf⟩ := h
  have k9 := kinds9 _ hk
  simp only [List.mem_cons, List.not_mem_nil, or_false] at k9
  have one : ∀ k : Str, ¬ k = "part" → ks = [k] → argsOf (.tuple (.str w :: args)) = (strsD (.tuple (.str w :: args))).map PyData.str ++ parts (.tuple (.str w :: args)) := by
    intro k hkn e
    subst e
    match args, hl with
    | [x], _ =>
      obtain ⟨z, rfl, _⟩ := str_of hkn (hf 0 k x rfl rfl)
      rfl
  rcases k9 with e | e | e | e | e | e | e | e | e
  · subst e
    match args, hl with
    | [], _ => rfl
  · exact one _ (by decide +kernel) e
  · exact one _ (by decide +kernel) e
  · exact one _ (by decide +kernel) e
  · exact one _ (by decide +kernel) e
  · exact one _ (by decide +kernel) e
  · subst e
    match args, hl with
    | [x], _ =>
      obtain ⟨ds, rfl⟩ := part_of (hf 0 _ x rfl rfl)
      rfl
  · subst e
    match args, hl with
    | [x, y], _ =>
      obtain ⟨ds, rfl⟩ := part_of (hf 0 _ x rfl rfl)
      obtain ⟨es, rfl⟩ := part_of (hf 1 _ y rfl rfl)
      rfl
  · subst e
    match args, hl with
    | [x, y, z], _ =>
      obtain ⟨a, rfl, _⟩ := str_of (by decide +kernel) (hf 0 _ x rfl rfl)
      obtain ⟨ds, rfl⟩ := part_of (hf 1 _ y rfl rfl)
      obtain ⟨es, rfl⟩ := part_of (hf 2 _ z rfl rfl)
      rfl
def firstW (w : Str) : Str := if w = "lastly" then "do" else w
def secondW (w : Str) : Str := if w = "either" then "or" else if w = "told" then "else" else if w = "look" then "else" else if w = "guard" then "rescue" else "lastly"
def blank : Str := " "
def step : Str := "  "
/-- the lines of a body at a margin -/
def lns : Nat → Str → List PyData → List Str
  | 0, _, _ => []
  | n + 1, mg, ss => ss.flatMap fun s => (mg ++ Txt.join blank (firstW (wordS s) :: strsD s)) :: (parts s).zipIdx.flatMap fun p => (if p.2 = 1 then [mg ++ secondW (wordS s)] else []) ++ lns n (mg ++ step) (bodyOf p.1)
/-! ### a heading -/
def headL (w : Str) (zs : List Str) : Str := Txt.join blank ((w ++ (":" : Str)) :: zs)
def spHead (K : PySem.W.Frag) : Sp := fun vs H Q _ => ∃ (w : Str) (a : Addr) (zs : List Str), vs = [.str w, .ref a] ∧ (SqT K H a (zs.map V.str) ∨ SqL K H a (zs.map V.str)) ∧ w.length ≤ 100 ∧ (zs.length ≤ 10 ∧ ∀ z ∈ zs, z.length ≤ 100) ∧ ∀ H', Ex H H' → Q (.str (headL w zs)) H'
theorem empty_app (w : Str) : Str.empty ++ w = w := by
  obtain ⟨a⟩ := w
  show (⟨#[] ++ a⟩ : Str) = ⟨a⟩
  simp
theorem app_len (a b : Str) : (a ++ b).length = a.length + b.length := by
  obtain ⟨a⟩ := a
  obtain ⟨b⟩ := b
  show (a ++ b).size = a.size + b.size
  simp
theorem sum_lens {zs : List Str} {b : Nat} (h : ∀ z ∈ zs, z.length ≤ b) : (zs.map (·.length)).sum ≤ zs.length * b := sum_le h

section
variable {P : Program} {w : World} {K : PySem.W.Frag} {mg : Str → Option Value} {base : Heap}

theorem ok_heading {fd : FuncData} (F : FnP K "heading" "heading" s_heading (ga K "heading") fd) (T : Tx K w mg) : FnOk P w K mg base CX0 (0 + 1) (ga K "heading") fd ["word", "names"] (spHead K) := by
  refine FunD.ok F sc_heading (fun vs H Q E h => ?_) (fun cdv A outer s H vs Q E hr h => ?_)
  · obtain ⟨w, a, zs, rfl, _⟩ := h
    rfl
  · obtain ⟨wd, a, zs, rfl, ha, hw, ⟨hz1, hz2⟩, kk⟩ := h
    refine ⟨_, PSs.nox (pss_one (ps_ret (pe_join pe_str (pe_lst (pa_cons (pe_joined (PJ.cons (pe_fmt (pv 0)) (PJ.cons pe_str PJ.nil))) (StX.pa_star (pv 1) pa_nil)))))), ?_⟩
    have l1 : (wd ++ (":" : Str)).length = wd.length + 1 := app_len _ _
    refine ⟨⟨_, rfl⟩, .str wd, rfl, .inl ⟨wd, rfl, fits (by omega), wd, rfl, by rw [empty_app]; exact fits (by omega), ":", rfl, by rw [empty_app, l1]; exact fits (by omega), ?_⟩⟩
    rw [empty_app]
    refine ⟨.ref a, rfl, a, _, rfl, ha, ?_, fun q hq => ?_⟩
    · show (_ :: (zs.map V.str ++ [])).length ≤ sizeLine
      rw [List.append_nil, List.length_cons, List.length_map]
      exact fits (by omega)
    · refine ⟨blank, q, (wd ++ (":" : Str)) :: zs, rfl, rfl, .inl (sq_of (by rw [upd_same, List.append_nil]; rfl)), ?_, kk _ (Ex.new hq)⟩
      have k := sum_lens hz2
      have kb : (blank).length = 1 := by decide +kernel
      rw [List.map_cons, List.sum_cons, List.length_cons, kb, l1]
      have k2 : zs.length * 100 ≤ 10 * 100 := Nat.mul_le_mul_right _ hz1
      omega

end
end K05
set_option Elab.async false
set_option linter.all false
set_option maxRecDepth 100000
set_option maxHeartbeats 8000000
namespace K05
open PySem PySem.Spec PyProof.Rows L2 He XH XV XR PEN TR Evl


theorem sum_mono {α : Type} {f f' : α → Nat} : ∀ {l : List α}, (∀ x ∈ l, f x ≤ f' x) → (l.map f).sum ≤ (l.map f').sum
  | [], _ => Nat.le_refl _
  | x :: r, h => by
    have k := sum_mono (l := r) fun y hy => h y (List.mem_cons_of_mem _ hy)
    have k2 := h x List.mem_cons_self
    rw [List.map_cons, List.sum_cons, List.map_cons, List.sum_cons]
    omega
theorem sum_two {α : Type} {f : α → Nat} : ∀ {l : List α}, (l.map fun x => 2 * f x).sum = 2 * (l.map f).sum
  | [] => rfl
  | x :: r => by
    rw [List.map_cons, List.sum_cons, List.map_cons, List.sum_cons, sum_two (l := r)]
    omega


def LB (cs rs os : List Str) : Nat → List PyData → Prop
  | 0, ss => ss = []
  | n + 1, ss => ∀ s ∈ ss, Wf cs rs os s ∧ ∀ p ∈ parts s, ∃ ds, p = .tuple ds ∧ LB cs rs os n ds
def lnS (n : Nat) (mg : Str) (s : PyData) : List Str := (mg ++ Txt.join blank (firstW (wordS s) :: strsD s)) :: (parts s).zipIdx.flatMap fun p => (if p.2 = 1 then [mg ++ secondW (wordS s)] else []) ++ lns n (mg ++ step) (bodyOf p.1)
theorem lns_S (n : Nat) (mg : Str) (ss : List PyData) : lns (n + 1) mg ss = ss.flatMap (lnS n mg) := rfl
theorem zip_seconds {l : List PyData} {f : PyData → Nat} : (((l.zipIdx).map fun p => (if p.2 = 1 then 1 else 0) + f p.1)).sum ≤ 1 + (l.map f).sum := by
  match l with
  | [] => simp
  | [a] => simp
  | a :: b :: r =>
    have k : ∀ (r : List PyData) (j : Nat), 2 ≤ j → (((r.zipIdx j).map fun p => (if p.2 = 1 then 1 else 0) + f p.1)).sum = (r.map f).sum := by
      intro r
      induction r with
      | nil => intro j _; rfl
      | cons x r ih =>
        intro j hj
        rw [List.zipIdx_cons, List.map_cons, List.sum_cons, List.map_cons, List.sum_cons, ih (j + 1) (by omega)]
        show (if j = 1 then 1 else 0) + f x + _ = _
        rw [if_neg (by omega)]
        omega
    rw [List.zipIdx_cons, List.zipIdx_cons, List.map_cons, List.map_cons, List.sum_cons, List.sum_cons, k r 2 (by omega), List.map_cons, List.map_cons, List.sum_cons, List.sum_cons]
    show (if 0 = 1 then 1 else 0) + f a + ((if 0 + 1 = 1 then 1 else 0) + f b + _) ≤ _
    rw [if_neg (by decide), if_pos rfl]
    omega
theorem lns_len {cs rs os : List Str} : ∀ {n : Nat} {mg : Str} {ss : List PyData}, LB cs rs os n ss → (lns n mg ss).length ≤ 2 * cnt n ss
  | 0, _, _, _ => Nat.zero_le _
  | n + 1, mg, ss, h => by
    rw [lns_S, List.length_flatMap]
    show (ss.map _).sum ≤ 2 * (ss.map fun s => 1 + ((parts s).map fun p => cnt n (bodyOf p)).sum).sum
    have one : ∀ s ∈ ss, (lnS n mg s).length ≤ 2 * (1 + ((parts s).map fun p => cnt n (bodyOf p)).sum) := by
      intro s hs
      obtain ⟨_, hp⟩ := h s hs
      show (_ :: List.flatMap _ _).length ≤ _
      rw [List.length_cons, List.length_flatMap]
      have k1 : ∀ p ∈ (parts s).zipIdx, ((if p.2 = 1 then [mg ++ secondW (wordS s)] else []) ++ lns n (mg ++ step) (bodyOf p.1)).length ≤ (if p.2 = 1 then 1 else 0) + 2 * cnt n (bodyOf p.1) := by
        intro p hpm
        have hm : p.1 ∈ parts s := by
          obtain ⟨_, z2, z3⟩ := List.mem_zipIdx hpm
          rw [z3]
          exact List.getElem_mem _
        obtain ⟨ds, e, hb⟩ := hp _ hm
        have k := lns_len (mg := mg ++ step) hb
        rw [e]
        rw [List.length_append]
        show _ + (lns n (mg ++ step) ds).length ≤ _ + 2 * cnt n ds
        by_cases q : p.2 = 1
        · rw [if_pos q, if_pos q]
          show 1 + _ ≤ _
          omega
        · rw [if_neg q, if_neg q]
          show 0 + _ ≤ _
          omega
      have k2 := zip_seconds (l := parts s) (f := fun p => 2 * cnt n (bodyOf p))
      have k3 : ((parts s).zipIdx.map fun p => ((if p.2 = 1 then [mg ++ secondW (wordS s)] else []) ++ lns n (mg ++ step) (bodyOf p.1)).length).sum ≤ ((parts s).zipIdx.map fun p => (if p.2 = 1 then 1 else 0) + 2 * cnt n (bodyOf p.1)).sum := sum_mono k1
      have k4 : ((parts s).map fun p => 2 * cnt n (bodyOf p)).sum = 2 * ((parts s).map fun p => cnt n (bodyOf p)).sum := sum_two
      omega
    rw [← sum_two]
    exact sum_mono one

end K05
set_option Elab.async false
set_option linter.all false
set_option maxRecDepth 100000
set_option maxHeartbeats 8000000
namespace K05
open PySem PySem.Spec PyProof.Rows L2 He XH XV XR PEN TR Evl


def secs : List Str := ["either", "told", "look", "guard", "lastly"]
theorem two_words : ∀ p ∈ ENT, (p.2 = [("part" : Str), "part"] ∨ p.2 = [("cell" : Str), "part", "part"]) → p.1 ∈ secs := by decide +kernel
theorem two_secs {cs rs os : List Str} {s : PyData} (h : Wf cs rs os s) (k : 2 ≤ (parts s).length) : wordS s ∈ secs := by
  obtain ⟨w, ks, args, rfl, hk, hl, hf⟩ := h
  have k9 := kinds9 _ hk
  simp only [List.mem_cons, List.not_mem_nil, or_false] at k9
  have few : args.length ≤ 1 → False := fun e => by
    have z : ((args.filter isP)).length ≤ args.length := List.length_filter_le ..
    have k' : 2 ≤ (args.filter isP).length := k
    omega
  have e2 : ks = [("part" : Str), "part"] ∨ ks = [("cell" : Str), "part", "part"] := by
    rcases k9 with e | e | e | e | e | e | e | e | e
    · exact absurd (few (by rw [hl, e]; decide)) id
    · exact absurd (few (by rw [hl, e]; decide)) id
    · exact absurd (few (by rw [hl, e]; decide)) id
    · exact absurd (few (by rw [hl, e]; decide)) id
    · exact absurd (few (by rw [hl, e]; decide)) id
    · exact absurd (few (by rw [hl, e]; decide)) id
    · exact absurd (few (by rw [hl, e]; decide)) id
    · exact .inl e
    · exact .inr e
  exact two_words _ hk e2
theorem sec_word {K : PySem.W.Frag} {w : World} {mg : Str → Option Value} (T : Tx K w mg) {z : Str} (h : z ∈ secs) : KDct K w (ga K "SECOND_WORDS") z (.str (secondW z)) ∧ (secondW z).length ≤ 10 := by
  obtain ⟨es, n, D, hs⟩ := T.se
  unfold secs at h
  simp only [List.mem_cons, List.not_mem_nil, or_false] at h
  rcases h with rfl | rfl | rfl | rfl | rfl
  · obtain ⟨t, e⟩ := hs ("either", "or") (by simp)
    exact ⟨⟨es, n, _, D.at_, D.lit, e, ⟨t, rfl⟩⟩, by decide +kernel⟩
  · obtain ⟨t, e⟩ := hs ("told", "else") (by simp)
    exact ⟨⟨es, n, _, D.at_, D.lit, e, ⟨t, rfl⟩⟩, by decide +kernel⟩
  · obtain ⟨t, e⟩ := hs ("look", "else") (by simp)
    exact ⟨⟨es, n, _, D.at_, D.lit, e, ⟨t, rfl⟩⟩, by decide +kernel⟩
  · obtain ⟨t, e⟩ := hs ("guard", "rescue") (by simp)
    exact ⟨⟨es, n, _, D.at_, D.lit, e, ⟨t, rfl⟩⟩, by decide +kernel⟩
  · obtain ⟨t, e⟩ := hs ("lastly", "lastly") (by simp)
    exact ⟨⟨es, n, _, D.at_, D.lit, e, ⟨t, rfl⟩⟩, by decide +kernel⟩

end K05
set_option Elab.async false
set_option linter.all false
set_option maxRecDepth 100000
set_option maxHeartbeats 8000000
namespace K05
open PySem PySem.Spec PyProof.Rows L2 He XH XV XR PEN TR Evl


theorem joinL_len (S : List Nat) : ∀ ls : List (List Nat), (TL.joinL S ls).length ≤ (ls.map (·.length)).sum + ls.length * S.length
  | [] => Nat.zero_le _
  | [p] => by
    show p.length ≤ (p.length + 0) + 1 * S.length
    omega
  | p :: q :: r => by
    have k := joinL_len S (q :: r)
    show (p ++ (S ++ TL.joinL S (q :: r))).length ≤ _
    rw [List.length_append, List.length_append, List.map_cons, List.sum_cons, List.length_cons, Nat.succ_mul]
    omega
theorem join_len (a : Str) (ys : List Str) : (Txt.join a ys).length ≤ (ys.map (·.length)).sum + ys.length * a.length := by
  have z : TL.tl (Txt.join a ys) = TL.joinL (TL.tl a) (ys.map TL.tl) := by
    rw [TL.join_eq, TL.tl_join]
  have l1 : (Txt.join a ys).length = (TL.tl (Txt.join a ys)).length := len_codes _
  have l2 : a.length = (TL.tl a).length := len_codes _
  have l3 : (ys.map TL.tl).map (·.length) = ys.map (·.length) := by
    rw [List.map_map]
    exact List.map_congr_left fun y _ => (len_codes y).symm
  have k := joinL_len (TL.tl a) (ys.map TL.tl)
  rw [l3, List.length_map] at k
  rw [l1, z, l2]
  exact k
theorem dp_front {K : PySem.W.Frag} {H : Hp} : ∀ {zs : List Str} {vs : List V} {ds : List PyData}, DpAll K H vs (zs.map PyData.str ++ ds) → vs.take zs.length = zs.map V.str
  | [], _, _, _ => rfl
  | z :: r, _, _, h => by
    cases h with
    | cons h1 h2 =>
      cases h1
      show V.str z :: _ = V.str z :: _
      rw [dp_front h2]
def spPL (K : PySem.W.Frag) (n : Nat) : Sp := fun vs H Q _ => ∃ b mg ss m cs rs os, vs = [.ref b, .str mg] ∧ Dp K H (.ref b) (.tuple ss) ∧ Tts m ss ∧ LB cs rs os n ss ∧ cnt n ss ≤ 14 ∧ (∀ z ∈ cs ++ rs ++ os, z.length ≤ 12) ∧ mg.length + 2 * n ≤ 20 ∧ ∀ q H', H q = none → Ex H H' → H' q = some (.lst ((lns n mg ss).map V.str)) → Q (.ref q) H'
def spSL (K : PySem.W.Frag) (n : Nat) : Sp := fun vs H Q _ => ∃ v mg s m cs rs os, vs = [v, .str mg] ∧ Dp K H v s ∧ Tt m s ∧ Wf cs rs os s ∧ (∀ p ∈ parts s, ∃ ds, p = .tuple ds ∧ LB cs rs os n ds) ∧ cnt (n + 1) [s] ≤ 14 ∧ (∀ z ∈ cs ++ rs ++ os, z.length ≤ 12) ∧ mg.length + 2 * n ≤ 18 ∧ ∀ q H', H q = none → Ex H H' → H' q = some (.lst ((lnS n mg s).map V.str)) → Q (.ref q) H'
theorem nms_len {cs rs os : List Str} (h : ∀ z ∈ cs ++ rs ++ os, z.length ≤ 12) (k : Str) : ∀ z ∈ nmsOf cs rs os k, z.length ≤ 12 := by
  intro z hz
  unfold nmsOf at hz
  split at hz
  · exact h z (List.mem_append_left _ (List.mem_append_left _ hz))
  · split at hz
    · exact h z (List.mem_append_left _ (List.mem_append_right _ hz))
    · split at hz
      · exact h z (List.mem_append_right _ hz)
      · split at hz
        · exact (show ∀ z ∈ ([("copy" : Str), "view"] : List Str), z.length ≤ 12 by decide +kernel) z hz
        · split at hz
          · exact (show ∀ z ∈ ([("found" : Str), "none"] : List Str), z.length ≤ 12 by decide +kernel) z hz
          · cases hz
theorem strs_len {cs rs os : List Str} {s : PyData} (h : Wf cs rs os s) (hl : ∀ z ∈ cs ++ rs ++ os, z.length ≤ 12) : ∀ z ∈ strsD s, z.length ≤ 12 := by
  obtain ⟨w, ks, args, rfl, hk, hlen, hf⟩ := h
  intro z hz
  obtain ⟨x, hx, e⟩ := List.mem_filterMap.mp hz
  obtain ⟨i, hi⟩ := List.mem_iff_getElem?.mp hx
  have hi2 := (List.getElem?_eq_some_iff.mp hi).1
  have hki : ks[i]? = some (ks[i]'(by rw [← hlen]; exact hi2)) := List.getElem?_eq_getElem _
  have f := hf i _ x hki hi
  generalize ks[i]'(by rw [← hlen]; exact hi2) = k at hki f
  by_cases e2 : k = "part"
  · subst e2
    obtain ⟨ds, rfl⟩ := part_of f
    cases e
  · obtain ⟨y, rfl, hy⟩ := str_of e2 f
    cases e
    exact nms_len hl k z hy
theorem words_len : ∀ p ∈ ENT, p.1.length ≤ 12 := by
  have k : ∀ p ∈ ENT, decide (p.1.length ≤ 12) = true := by decide +kernel
  exact fun p h => of_decide_eq_true (k p h)

theorem mem_le_sum {α : Type} {f : α → Nat} {x : α} : ∀ {l : List α}, x ∈ l → f x ≤ (l.map f).sum
  | y :: r, h => by
    rw [List.map_cons, List.sum_cons]
    rcases List.mem_cons.mp h with e | k
    · rw [e]
      omega
    · have := mem_le_sum (f := f) k
      omega
theorem tts_tup {m : Nat} {ds : List PyData} (h : Tt m (.tuple ds)) : ∃ m', Tts m' ds := by
  cases h with
  | tup _ h => exact ⟨_, h⟩
theorem parts_tts {m : Nat} {s : PyData} (h : Tt m s) : ∃ m', Tts m' (parts s) := by
  cases h with
  | str _ => exact ⟨0, .nil⟩
  | int _ => exact ⟨0, .nil⟩
  | @tup m1 ds _ h =>
    refine ⟨m1, Tts.of fun d hd => h.at d ?_⟩
    cases ds with
    | nil => cases hd
    | cons x r => exact List.mem_cons_of_mem _ (List.mem_filter.mp hd).1
def lnP (n : Nat) (mg : Str) (s : PyData) (p : PyData × Nat) : List Str := (if p.2 = 1 then [mg ++ secondW (wordS s)] else []) ++ lns n (mg ++ step) (bodyOf p.1)

section
variable {P : Program} {w : World} {K : PySem.W.Frag} {mg : Str → Option Value} {base : Heap}

theorem ok_statement_lines {fd : FuncData} {n k : Nat} (hk2 : 2 ≤ k) (F : FnP K "statement_lines" "statement_lines" s_statement_lines (ga K "statement_lines") fd) (T : Tx K w mg) (c_parts_of : Cl P w K mg base CX0 2 (ga K "parts_of") ["statement"] (spPt K)) (c_part_lines : Cl P w K mg base CX0 k (ga K "part_lines") ["part", "margin"] (spPL K n)) : FnOk P w K mg base CX0 (k + 1) (ga K "statement_lines") fd ["statement", "margin"] (spSL K n) := by
  obtain ⟨fd_parts_of, G_parts_of, b_parts_of, kp_parts_of⟩ := c_parts_of
  obtain ⟨fd_part_lines, G_part_lines, b_part_lines, kp_part_lines⟩ := c_part_lines
  refine FunD.ok F sc_statement_lines (fun vs H Q E h => ?_) (fun cdv A outer s H vs Q E hr h => ?_)
  · obtain ⟨v, mg, s, m, cs, rs, os, rfl, _⟩ := h
    rfl
  · obtain ⟨v, mg, s, m, cs, rs, os, rfl, hd, htt, hwf, hpt, hc, hl12, hmg, kk⟩ := h
    have g_parts_of := T.gl "parts_of" (by decide +kernel)
    have n_len := T.fr "len" (by decide +kernel)
    have n_enumerate := T.fr "enumerate" (by decide +kernel)
    have g_SECOND_WORDS := T.gl "SECOND_WORDS" (by decide +kernel)
    have g_part_lines := T.gl "part_lines" (by decide +kernel)
    obtain ⟨tk_STEP, g_STEP⟩ := T.c_STEP
    refine ⟨_, PSs.nox (pss_cons (ps_set (i := 2) sc_statement_lines.nd rfl (Or.inl rfl) (pe_ix ix_tup (pv 0) pe_int (fun _ _ => rfl)))
      (pss_cons (ps_set (i := 3) sc_statement_lines.nd rfl (Or.inl rfl) (pe_call G_parts_of (hr.mono (by omega)) (by rfl) g_parts_of kp_parts_of b_parts_of .nil pass0 (pa_cons (pv 0) pa_nil)))
      (pss_cons (ps_set (i := 4) sc_statement_lines.nd rfl (Or.inl rfl) (pe_slice sl_tup (pv 0) (po_some pe_int) (po_some (pe_op op_sub (pe_callB call_len_seq (by rfl) n_len (by decide +kernel) (pa_cons (pv 0) pa_nil)) (pe_callB call_len_seq (by rfl) n_len (by decide +kernel) (pa_cons (pv 3) pa_nil))))))
      (pss_cons (ps_set (i := 5) sc_statement_lines.nd rfl (Or.inl rfl) (pe_ifExp (pt_cmpR op_eq (pv 2) pe_str (nomark _)) pe_str (pv 2)))
      (pss_cons (ps_set (i := 6) sc_statement_lines.nd rfl (Or.inl rfl) (pe_lst (pa_cons (pe_op op_add_str (pv 1) (pe_join pe_str (pe_lst (pa_cons (pv 5) (StX.pa_star (pv 4) pa_nil))))) pa_nil)))
      (pss_cons (ps_for PassesOwn.never rfl (pi_enum (by rfl) n_enumerate (pa_cons (pv 3) pa_nil)) (pg_tup rfl (pgs_cons (pg_name (i := 7) sc_statement_lines.nd rfl (Or.inl rfl)) (pgs_cons (pg_name (i := 8) sc_statement_lines.nd rfl (Or.inl rfl)) pgs_nil)))
      (pss_cons (ps_if (pt_cmpR op_eq (pv 7) pe_int (nomark _))
      (pss_one (ps_expr (pe_bm PySem.F.plainAttrs_list PySem.F.slot_list_append PySem.F.type_list_append mt_append (pv 6) (pa_cons (pe_op op_add_str (pv 1) (pe_ix ix_kdict (pe_glob (v := .ref _) (by rfl) g_SECOND_WORDS rfl) (pv 2) (fun _ _ => rfl))) pa_nil))))
      pss_nil)
      (pss_one (ps_expr (pe_bm PySem.F.plainAttrs_list PySem.F.slot_list_extend PySem.F.type_list_extend mt_extend (pv 6) (pa_cons (pe_call G_part_lines (hr.mono (by omega)) (by rfl) g_part_lines kp_part_lines b_part_lines .nil pass0 (pa_cons (pv 8) (pa_cons (pe_op op_add_str (pv 1) (pe_glob (v := .str _) (by rfl) g_STEP ⟨_, rfl⟩)) pa_nil))) pa_nil))))))
      (pss_one (ps_ret (pv 6))))))))), ?_⟩
    have hsp := hwf.split
    have zl := strs_len hwf hl12
    have hsh := hwf.sh
    have hp3 := parts3 hsh
    obtain ⟨wd, ks, args, es, hk, hkl, _⟩ := id hwf
    have hdw := hd
    rw [es] at hd
    cases hd with
    | @tup t xs _ hx hxs =>
      cases hxs with
      | @cons v0 rest _ _ hv0 hrest =>
        cases hv0
        have ew : wordS s = wd := by rw [es]; rfl
        have ea : argsOf s = args := by rw [es]; rfl
        rw [ea] at hsp
        have lrest := dpAll_len hrest
        have fr := hrest
        rw [hsp] at fr
        have front := dp_front fr
        have la : args.length = (strsD s).length + (parts s).length := by rw [hsp, List.length_append, List.length_map]
        have wl := words_len _ hk
        simp only at wl
        refine ⟨.ref t, rfl, t, _, 0, .str wd, rfl, rfl, hx, atI_nat (j := 0) rfl, ?_⟩
        dsimp only [gName, List.set]
        refine ⟨.ref t, rfl, .ref t, s, m, rfl, hdw, htt, hsh, fun q ys H1 hq e1 g1 d1 => ?_⟩
        have ly := dpAll_len d1
        dsimp only [gName, List.set]
        refine ⟨.ref t, rfl, 1, rfl, .ref t, rfl, t, _, rfl, .inr (ex_t e1 hx), .ref q, rfl, q, _, rfl, .inl (sq_of g1), _, _, rfl, rfl, _, rfl, t, _, rfl, ex_t e1 hx, ?_, fun nm hnm => ?_⟩
        · intro h
          have h1 := h.1
          rw [show ((1 : Int)) = ((1 : Nat) : Int) from rfl, HT.sIx_nat] at h1
          simp only [List.length_cons] at h1
          omega
        have eU : (((V.str wd :: rest).length : Nat) : Int) - ((ys.length : Nat) : Int) = ((1 + (strsD s).length : Nat) : Int) := by
          rw [List.length_cons]
          omega
        rw [eU, show ((1 : Int)) = ((1 : Nat) : Int) from rfl, cut_mid (by rw [List.length_cons]; omega)]
        have eN : (List.drop 1 (V.str wd :: rest)).take (strsD s).length = (strsD s).map V.str := front
        rw [eN]
        have e2 := e1.trans (Ex.new (o := .tup ((strsD s).map V.str)) hnm)
        have g2 : upd H1 nm (.tup ((strsD s).map V.str)) nm = some (.tup ((strsD s).map V.str)) := upd_same
        have g1' := Ex.new (o := .tup ((strsD s).map V.str)) hnm _ _ g1
        have d1' := dpMs (Ex.new (o := .tup ((strsD s).map V.str)) hnm) _ _ d1
        generalize upd H1 nm (.tup ((strsD s).map V.str)) = H2 at e2 g2 g1' d1'
        dsimp only [gName, List.set]
        refine q_asg (v := .str (firstW wd)) (ev_if (b := decide (V.str wd = V.str "lastly")) (et_test (ev_op (ev_var rfl) ev_c (rv_eq rfl))) (fun hb => ev_is ev_c ?_) (fun hb => ev_is (ev_var rfl) ?_)) fun H3 e3 => ?_
        · have e := of_decide_eq_true hb
          injection e with e
          unfold firstW
          rw [if_pos e]
        · have e := of_decide_eq_false hb
          unfold firstW
          rw [if_neg (fun x => e (by rw [x]))]
        have fl : (firstW wd).length ≤ 12 := by
          unfold firstW
          split
          · decide +kernel
          · omega
        have sl := sum_lens (b := 12) (zs := firstW wd :: strsD s) (fun z hz => by
          rcases List.mem_cons.mp hz with e | h
          · rw [e]; exact fl
          · exact zl z h)
        have kb : (blank).length = 1 := by decide +kernel
        have nzs : (strsD s).length ≤ 3 := by
          have k := ent3 _ hk
          simp only at k
          omega
        have jl := join_len blank (firstW wd :: strsD s)
        rw [kb] at jl
        rw [List.length_cons] at sl jl
        refine ⟨.str mg, rfl, ⟨_, rfl⟩, .str (firstW wd), rfl, .ref nm, rfl, nm, _, rfl, .inl (st_of (e3 _ _ g2)), ?_, fun jq hjq => ⟨blank, jq, firstW wd :: strsD s, rfl, rfl, .inl (sq_of (by rw [upd_same, List.append_nil]; rfl)), ?_, mg, _, rfl, rfl, fits ?_, (show 1 ≤ sizeLine by decide), fun Lq hLq => ?_⟩⟩
        · show (_ :: ((strsD s).map V.str ++ [])).length ≤ sizeLine
          rw [List.append_nil, List.length_cons, List.length_map]
          exact fits (by omega)
        · rw [kb, List.length_cons]
          omega
        · omega
        have e5 : Ex H3 (upd (upd H3 jq (.lst (.str (firstW wd) :: ((strsD s).map V.str ++ [])))) Lq (.lst [.str (mg ++ Txt.join blank (firstW wd :: strsD s))])) := (Ex.new hjq).trans (Ex.new hLq)
        have hLq0 : H Lq = none := fresh_back ((e2.trans e3).trans (Ex.new hjq)) hLq
        have gL : upd (upd H3 jq (.lst (.str (firstW wd) :: ((strsD s).map V.str ++ [])))) Lq (.lst [.str (mg ++ Txt.join blank (firstW wd :: strsD s))]) Lq = some (.lst ([(mg ++ Txt.join blank (firstW wd :: strsD s))].map V.str)) := upd_same
        have gq := e5 _ _ (e3 _ _ g1')
        have dq := dpMs (e3.trans e5) _ _ d1'
        have e6 := (e2.trans e3).trans e5
        have nqL : q ≠ Lq := ne_of_none (Ex.new (o := .lst (.str (firstW wd) :: ((strsD s).map V.str ++ []))) hjq _ _ (e3 _ _ g1')) hLq
        generalize upd (upd H3 jq (.lst (.str (firstW wd) :: ((strsD s).map V.str ++ [])))) Lq (.lst [.str (mg ++ Txt.join blank (firstW wd :: strsD s))]) = H4 at gL gq dq e6 ⊢
        clear e5
        have hLBs : LB cs rs os (n + 1) [s] := fun x hx => by
          rw [List.mem_singleton.mp hx]
          exact ⟨hwf, hpt⟩
        have tot := lns_len (mg := mg) hLBs
        rw [lns_S, List.flatMap_singleton] at tot
        have tot28 : (lnS n mg s).length ≤ 28 := by omega
        obtain ⟨mp, tps⟩ := parts_tts htt
        have c1 : ∀ p ∈ parts s, cnt n (bodyOf p) ≤ 14 := fun p hp => by
          have k := mem_le_sum (f := fun p => cnt n (bodyOf p)) hp
          rw [cnt_one] at hc
          omega
        have lst2 : step.length = 2 := by decide +kernel
        have bl := app_len mg step
        dsimp only [gName, List.set]
        refine ⟨.ref q, rfl, q, ys, rfl, sq_of gq, ?_⟩
        refine for_it (walk_enum (xs := ys)) (fun j σ' H' => ∃ zs v7 v8, σ' = [some (.ref t), some (.str mg), some (.str wd), some (.ref q), some (.ref nm), some (.str (firstW wd)), some (.ref Lq), v7, v8] ∧ H' Lq = some (.lst (zs.map V.str)) ∧ Ex H H' ∧ (H' q = some (.lst ys) ∧ DpAll K H' ys (parts s)) ∧ zs = (mg ++ Txt.join blank (firstW (wordS s) :: strsD s)) :: ((parts s).zipIdx.take j).flatMap (lnP n mg s))
          ⟨[mg ++ Txt.join blank (firstW wd :: strsD s)], _, _, rfl, gL, e6, ⟨gq, dq⟩, by rw [ew]; rfl⟩ (fun j σ' H' _ hI => ?_) (fun j x σ' H5 H6 hj hI hy => ?_) (fun σ' H' hI => ?_)
        · obtain ⟨zs, v7, v8, rfl, k1, k2, k3, k4⟩ := hI
          exact sq_of k3.1
        · obtain ⟨zs, v7, v8, rfl, k1, k2, ⟨k3, k3'⟩, k4⟩ := hI
          obtain ⟨tq, x1, y1, rfl, hT, rfl, p1, p2⟩ := hy
          cases p1
          replace p2 : ys[j]? = some y1 := p2
          obtain ⟨pd, hpd, hpv⟩ := dpAll_at k3' p2
          obtain ⟨ds, rfl, hLB⟩ := hpt pd (List.mem_of_getElem? hpd)
          obtain ⟨m', tds⟩ := tts_tup (tps.at _ (List.mem_of_getElem? hpd))
          have c2 : cnt n ds ≤ 14 := c1 _ (List.mem_of_getElem? hpd)
          have mz : (parts s).zipIdx[j]? = some (.tuple ds, j) := by
            rw [List.getElem?_zipIdx, hpd]
            simp
          cases hpv with
          | @tup pb pvs _ hpb hpvs =>
            refine ⟨tq, [.int (j : Nat), .ref pb], rfl, st_of upd_same, rfl, .int (j : Nat), [.ref pb], rfl, .ref pb, [], rfl, rfl, ?_⟩
            dsimp only [gName, List.set]
            have eT : Ex H5 (upd H5 tq (.tup [.int (j : Nat), .ref pb])) := Ex.new hT
            have ltj := flat_le (lnP n mg s) (parts s).zipIdx (j + 1)
            rw [flat_more (lnP n mg s) mz, List.length_append] at ltj
            have lS : (lnS n mg s).length = 1 + ((parts s).zipIdx.flatMap (lnP n mg s)).length := by
              show (_ :: (parts s).zipIdx.flatMap (lnP n mg s)).length = _
              rw [List.length_cons]
              omega
            have lzs : zs.length = 1 + (((parts s).zipIdx.take j).flatMap (lnP n mg s)).length := by
              rw [k4, List.length_cons]
              omega
            refine q_when (b := decide (V.int (j : Nat) = V.int 1)) (et_test (ev_op (ev_var rfl) ev_c (rv_eq rfl))) (fun hb H7 e7 => ?_) (fun hb H7 e7 => ?_)
            · have j1 : j = 1 := by
                have e := of_decide_eq_true hb
                injection e with e
                omega
              have two : 2 ≤ (parts s).length := by
                have k := (List.getElem?_eq_some_iff.mp hpd).1
                omega
              have sw := two_secs hwf two
              rw [ew] at sw
              obtain ⟨hsec, lsec⟩ := sec_word T sw
              have pj : lnP n mg s (.tuple ds, j) = [mg ++ secondW wd] ++ lns n (mg ++ step) ds := by
                unfold lnP
                rw [if_pos j1, ew]
                rfl
              rw [pj, List.length_append, List.length_singleton] at ltj
              have a2 := app_len mg (secondW wd)
              refine ⟨.ref Lq, rfl, .inl ⟨rfl, _, sq_of (e7 _ _ (eT _ _ k1))⟩, .str mg, rfl, .str wd, rfl, _, wd, .str (secondW wd), rfl, rfl, hsec, mg, _, rfl, rfl, fits (by omega), Lq, zs.map V.str, _, rfl, rfl, e7 _ _ (eT _ _ k1), ?_, ?_⟩
              · rw [List.length_map, sizeLine_eq]
                omega
              have hz : zs ++ [mg ++ secondW wd] ++ lns n (mg ++ step) ds = (mg ++ Txt.join blank (firstW (wordS s) :: strsD s)) :: ((parts s).zipIdx.take (j + 1)).flatMap (lnP n mg s) := by
                rw [flat_more (lnP n mg s) mz, pj, k4, List.append_assoc]
                rfl
              have L8 : upd H7 Lq (.lst (zs.map V.str ++ [.str (mg ++ secondW wd)])) Lq = some (.lst ((zs ++ [mg ++ secondW wd]).map V.str)) := by
                rw [upd_same, List.map_append]
                rfl
              have Q8 := (upd_ne (o := .lst (zs.map V.str ++ [.str (mg ++ secondW wd)])) nqL).trans (e7 _ _ (eT _ _ k3))
              have D8 := dps_off (o := .lst (zs.map V.str ++ [.str (mg ++ secondW wd)])) (e7 _ _ (eT _ _ k1)) tps (dpMs (eT.trans e7) _ _ k3')
              have B8 := dp_off (o := .lst (zs.map V.str ++ [.str (mg ++ secondW wd)])) (e7 _ _ (eT _ _ k1)) (tps.at _ (List.mem_of_getElem? hpd)) (dpM (eT.trans e7) _ _ (.tup hpb hpvs))
              have E8 : Ex H (upd H7 Lq (.lst (zs.map V.str ++ [.str (mg ++ secondW wd)]))) := (k2.trans (eT.trans e7)).mut hLq0
              refine ⟨.ref Lq, rfl, .inl ⟨rfl, _, sq_of L8⟩, .ref pb, rfl, .str mg, rfl, mg, step, rfl, rfl, fits (by omega), pb, mg ++ step, ds, m', cs, rs, os, rfl, B8, tds, hLB, c2, hl12, by omega, fun q2 H9 hq2 e9 h9 => ⟨Lq, q2, ((zs ++ [mg ++ secondW wd])).map V.str, (lns n (mg ++ step) ds).map V.str, rfl, rfl, e9 _ _ L8, h9, ?_, (zs ++ [mg ++ secondW wd]) ++ lns n (mg ++ step) ds, _, _, rfl, by rw [upd_same, ← List.map_append], (E8.trans e9).mut hLq0, ⟨(upd_ne nqL).trans (e9 _ _ Q8), dps_off (e9 _ _ L8) tps (dpMs e9 _ _ D8)⟩, hz⟩⟩
              rw [List.length_map, List.length_map, sizeLine_eq]
              have lz := congrArg List.length hz
              rw [List.length_append, flat_more (lnP n mg s) mz, pj, List.length_cons, List.length_append] at lz
              try simp only [List.length_append, List.length_singleton] at lz ⊢
              omega
            · have j1 : ¬ j = 1 := fun e => by
                rw [e] at hb
                exact absurd hb (by decide)
              have pj : lnP n mg s (.tuple ds, j) = lns n (mg ++ step) ds := by
                unfold lnP
                rw [if_neg j1]
                rfl
              rw [pj] at ltj
              have hz : zs ++ lns n (mg ++ step) ds = (mg ++ Txt.join blank (firstW (wordS s) :: strsD s)) :: ((parts s).zipIdx.take (j + 1)).flatMap (lnP n mg s) := by
                rw [flat_more (lnP n mg s) mz, pj, k4]
                rfl
              have L8 := e7 _ _ (eT _ _ k1)
              have Q8 := e7 _ _ (eT _ _ k3)
              have D8 := dpMs (eT.trans e7) _ _ k3'
              have B8 := dpM (eT.trans e7) _ _ (.tup hpb hpvs)
              have E8 := k2.trans (eT.trans e7)
              refine ⟨.ref Lq, rfl, .inl ⟨rfl, _, sq_of L8⟩, .ref pb, rfl, .str mg, rfl, mg, step, rfl, rfl, fits (by omega), pb, mg ++ step, ds, m', cs, rs, os, rfl, B8, tds, hLB, c2, hl12, by omega, fun q2 H9 hq2 e9 h9 => ⟨Lq, q2, (zs).map V.str, (lns n (mg ++ step) ds).map V.str, rfl, rfl, e9 _ _ L8, h9, ?_, zs ++ lns n (mg ++ step) ds, _, _, rfl, by rw [upd_same, ← List.map_append], (E8.trans e9).mut hLq0, ⟨(upd_ne nqL).trans (e9 _ _ Q8), dps_off (e9 _ _ L8) tps (dpMs e9 _ _ D8)⟩, hz⟩⟩
              rw [List.length_map, List.length_map, sizeLine_eq]
              have lz := congrArg List.length hz
              rw [List.length_append, flat_more (lnP n mg s) mz, pj, List.length_cons, List.length_append] at lz
              try simp only [List.length_append, List.length_singleton] at lz ⊢
              omega
        · obtain ⟨zs, v7, v8, rfl, k1, k2, k3, k4⟩ := hI
          rw [show (parts s).zipIdx.take ys.length = (parts s).zipIdx from List.take_of_length_le (by rw [List.length_zipIdx]; omega)] at k4
          exact ⟨.ref Lq, rfl, kk Lq _ hLq0 k2 (by rw [k1, k4]; rfl)⟩

end
end K05
set_option Elab.async false
set_option linter.all false
set_option maxRecDepth 100000
set_option maxHeartbeats 8000000
namespace K05
open PySem PySem.Spec PyProof.Rows L2 He XH XV XR PEN TR Evl


theorem lns_each {cs rs os : List Str} (hl : ∀ z ∈ cs ++ rs ++ os, z.length ≤ 12) : ∀ {n : Nat} {mg : Str} {ss : List PyData}, LB cs rs os n ss → ∀ z ∈ lns n mg ss, z.length ≤ mg.length + 2 * n + 52
  | 0, _, _, _, _, hz => nomatch hz
  | n + 1, mg, ss, h, z, hz => by
    rw [lns_S] at hz
    obtain ⟨s, hs, hz⟩ := List.mem_flatMap.mp hz
    obtain ⟨hwf, hpt⟩ := h s hs
    have zl := strs_len hwf hl
    have lst2 : step.length = 2 := by decide +kernel
    rcases List.mem_cons.mp hz with e | hz
    · rw [e, app_len]
      obtain ⟨wd, ks, args, es, hk, hkl, _⟩ := id hwf
      have wl := words_len _ hk
      simp only at wl
      have ew : wordS s = wd := by rw [es]; rfl
      have fl : (firstW (wordS s)).length ≤ 12 := by
        rw [ew]
        unfold firstW
        split
        · decide +kernel
        · omega
      have sl := sum_lens (b := 12) (zs := firstW (wordS s) :: strsD s) (fun z hz => by
        rcases List.mem_cons.mp hz with e | h
        · rw [e]; exact fl
        · exact zl z h)
      have la : args.length = (strsD s).length + (parts s).length := by
        have hsp := hwf.split
        have ea : argsOf s = args := by rw [es]; rfl
        rw [ea] at hsp
        rw [hsp, List.length_append, List.length_map]
      have k := ent3 _ hk
      simp only at k
      have jl := join_len blank (firstW (wordS s) :: strsD s)
      have kb : (blank).length = 1 := by decide +kernel
      rw [kb] at jl
      rw [List.length_cons] at sl jl
      omega
    · obtain ⟨p, hp, hz⟩ := List.mem_flatMap.mp hz
      rcases List.mem_append.mp hz with hz | hz
      · by_cases q : p.2 = 1
        · rw [if_pos q] at hz
          rw [List.mem_singleton.mp hz, app_len]
          have k : (secondW (wordS s)).length ≤ 10 := by
            unfold secondW
            split
            · decide +kernel
            · split
              · decide +kernel
              · split
                · decide +kernel
                · split <;> decide +kernel
          omega
        · rw [if_neg q] at hz
          cases hz
      · have hm : p.1 ∈ parts s := by
          obtain ⟨_, z2, z3⟩ := List.mem_zipIdx hp
          rw [z3]
          exact List.getElem_mem _
        obtain ⟨ds, e, hb⟩ := hpt _ hm
        rw [e] at hz
        have k := lns_each hl hb z hz
        rw [app_len] at k
        omega
theorem bod_lb {cs rs os : List Str} : ∀ {n : Nat} {ss as : List PyData}, Bod n ss → (∀ q ∈ nums n ss as, Wf cs rs os q.1) → LB cs rs os n ss
  | 0, _, _, h, _ => h
  | n + 1, ss, as, h, k => fun s hs => by
    obtain ⟨hs1, hs2⟩ := h.2 s hs
    refine ⟨k (s, as) (List.mem_flatMap.mpr ⟨s, hs, List.mem_cons_self⟩), fun p hp => ?_⟩
    obtain ⟨ds, e2, hb⟩ := hs2 p hp
    obtain ⟨i, hi⟩ := List.mem_iff_getElem?.mp hp
    have mz : (p, i) ∈ (parts s).zipIdx := List.mem_of_getElem? (i := i) (by rw [List.getElem?_zipIdx, hi]; simp)
    refine ⟨ds, e2, bod_lb (as := as ++ [.tuple [wordOf s, .int (i : Nat)]]) hb fun q hq => k q (List.mem_flatMap.mpr ⟨s, hs, List.mem_cons_of_mem _ (List.mem_flatMap.mpr ⟨(p, i), mz, ?_⟩)⟩)⟩
    show q ∈ nums n (bodyOf p) _
    rw [e2]
    exact hq
theorem bodv_all {cs rs os : List Str} {ss : List PyData} (h : BodV cs rs os ss) : (∃ m, Tts m ss) ∧ LB cs rs os 4 ss ∧ cnt 4 ss ≤ 14 := by
  obtain ⟨⟨⟨m, _, tt⟩, hb⟩, hl, hq⟩ := h
  refine ⟨?_, bod_lb hb fun q hqm => (hq q hqm).1, ?_⟩
  · cases tt with
    | tup _ h => exact ⟨_, h⟩
  · rw [← nums_cnt (as := []) (bod_hb hb)]
    exact hl
def txt (cs rs os : List Str) (st : Str) (bds : List (List PyData)) : List Str := [headL "cells" cs, headL "rows" rs, headL "start" [st]] ++ (os.zip bds).flatMap fun p => headL p.1 [] :: lns 4 step p.2
def nl : Str := "\n"
def spWr (K : PySem.W.Frag) : Sp := fun vs H Q _ => ∃ a c r f cs rs os st fos bds, vs = [.ref a] ∧ Cd K H a c r f cs rs os st fos bds ∧ Names cs rs os st ∧ (∀ ss ∈ bds, BodV cs rs os ss) ∧ ∀ H', Ex H H' → Q (.str (Txt.join nl (txt cs rs os st bds))) H'
theorem headL_len {w : Str} {zs : List Str} (hw : w.length ≤ 12) (hz : ∀ z ∈ zs, z.length ≤ 12) (hn : zs.length ≤ 3) : (headL w zs).length ≤ 60 := by
  have jl := join_len blank ((w ++ (":" : Str)) :: zs)
  have kb : (blank).length = 1 := by decide +kernel
  have k1 : ((":" : Str)).length = 1 := by decide +kernel
  have sl := sum_lens hz
  rw [kb, List.map_cons, List.sum_cons, List.length_cons, app_len, k1] at jl
  show (Txt.join blank _).length ≤ 60
  omega
def fnL (p : Str × List PyData) : List Str := headL p.1 [] :: lns 4 step p.2

section
variable {P : Program} {w : World} {K : PySem.W.Frag} {mg : Str → Option Value} {base : Heap}

theorem ok_part_lines0 {fd : FuncData} (F : FnP K "part_lines" "part_lines" s_part_lines (ga K "part_lines") fd) (T : Tx K w mg) : FnOk P w K mg base CX0 (0 + 1) (ga K "part_lines") fd ["part", "margin"] (spPL K 0) := by
  refine FunD.ok F sc_part_lines (fun vs H Q E h => ?_) (fun cdv A outer s H vs Q E hr h => ?_)
  · obtain ⟨b, mg, ss, m, cs, rs, os, rfl, _⟩ := h
    rfl
  · obtain ⟨b, mg, ss, m, cs, rs, os, rfl, hb, hts, hLB, hc, hl12, hmg, kk⟩ := h
    refine ⟨_, PSs.nox (pss_cons (ps_set (i := 2) sc_part_lines.nd rfl (Or.inl rfl) (pe_lst pa_nil))
      (pss_cons (ps_for PassesOwn.never rfl (pi_tup (pv 0)) (pg_name (i := 3) sc_part_lines.nd rfl (Or.inl rfl))
      (pss_one ps_never))
      (pss_one (ps_ret (pv 2))))), ?_⟩
    have e0 : ss = [] := hLB
    subst e0
    cases hb with
    | @tup _ xs _ hx hxs =>
      cases hxs
      refine q_asgL (el_lst ea_nil (by decide)) fun D H1 hD e1 h1 => ?_
      dsimp only [gName, List.set]
      refine ⟨.ref b, rfl, b, rfl, ⟨_, ex_t e1 hx⟩, ?_⟩
      refine for_tup (xs := []) (fun i σ' H' => σ' = _ ∧ H' = H1) ⟨rfl, rfl⟩ (fun i σ' H' _ hI => by rw [hI.2]; exact ex_t e1 hx) (fun i x σ' H' hx hI => nomatch hx) (fun σ' H' hI => ?_)
      rw [hI.1, hI.2]
      exact ⟨.ref D, rfl, kk D H1 hD e1 h1⟩

theorem ok_part_linesS {fd : FuncData} {n k : Nat} (F : FnP K "part_lines" "part_lines" s_part_lines (ga K "part_lines") fd) (T : Tx K w mg) (c_statement_lines : Cl P w K mg base CX0 k (ga K "statement_lines") ["statement", "margin"] (spSL K n)) : FnOk P w K mg base CX0 (k + 1) (ga K "part_lines") fd ["part", "margin"] (spPL K (n + 1)) := by
  obtain ⟨fd_statement_lines, G_statement_lines, b_statement_lines, kp_statement_lines⟩ := c_statement_lines
  refine FunD.ok F sc_part_lines (fun vs H Q E h => ?_) (fun cdv A outer s H vs Q E hr h => ?_)
  · obtain ⟨b, mg, ss, m, cs, rs, os, rfl, _⟩ := h
    rfl
  · obtain ⟨b, mg, ss, m, cs, rs, os, rfl, hb, hts, hLB, hc, hl12, hmg, kk⟩ := h
    have g_statement_lines := T.gl "statement_lines" (by decide +kernel)
    refine ⟨_, PSs.nox (pss_cons (ps_set (i := 2) sc_part_lines.nd rfl (Or.inl rfl) (pe_lst pa_nil))
      (pss_cons (ps_for PassesOwn.never rfl (pi_tup (pv 0)) (pg_name (i := 3) sc_part_lines.nd rfl (Or.inl rfl))
      (pss_one (ps_expr (pe_bm PySem.F.plainAttrs_list PySem.F.slot_list_extend PySem.F.type_list_extend mt_extend (pv 2) (pa_cons (pe_call G_statement_lines (hr.mono (by omega)) (by rfl) g_statement_lines kp_statement_lines b_statement_lines .nil pass0 (pa_cons (pv 3) (pa_cons (pv 1) pa_nil))) pa_nil)))))
      (pss_one (ps_ret (pv 2))))), ?_⟩
    have tot := lns_len (mg := mg) hLB
    rw [lns_S] at tot
    cases hb with
    | @tup _ xs _ hx hxs =>
      have lx := dpAll_len hxs
      refine q_asgL (el_lst ea_nil (by decide)) fun D H1 hD e1 h1 => ?_
      dsimp only [gName, List.set]
      refine ⟨.ref b, rfl, b, rfl, ⟨_, ex_t e1 hx⟩, ?_⟩
      refine for_tup (xs := xs) (fun i σ' H' => ∃ zs v3, σ' = [some (.ref b), some (.str mg), some (.ref D), v3] ∧ H' D = some (.lst (zs.map V.str)) ∧ Ex H H' ∧ zs = (ss.take i).flatMap (lnS n mg)) ⟨[], _, rfl, h1, e1, rfl⟩ (fun i σ' H' _ hI => ?_) (fun i x σ' H' hxi hI => ?_) (fun σ' H' hI => ?_)
      · obtain ⟨zs, v3, rfl, f1, f2, f3⟩ := hI
        exact ex_t f2 hx
      · obtain ⟨zs, v3, rfl, f1, f2, f3⟩ := hI
        obtain ⟨s, hs, hxs'⟩ := dpAll_at hxs hxi
        have hsm := List.mem_of_getElem? hs
        obtain ⟨hwf, hpt⟩ := hLB s hsm
        have c1 : cnt (n + 1) [s] ≤ 14 := by
          have k := mem_le_sum (f := fun s => 1 + ((parts s).map fun p => cnt n (bodyOf p)).sum) hsm
          have k2 : cnt (n + 1) ss = (ss.map fun s => 1 + ((parts s).map fun p => cnt n (bodyOf p)).sum).sum := rfl
          rw [cnt_one]
          try simp only at k
          omega
        have lt := flat_le (lnS n mg) ss (i + 1)
        rw [flat_more (lnS n mg) hs, List.length_append, ← f3] at lt
        dsimp only [gName, List.set]
        refine ⟨.ref D, rfl, .inl ⟨rfl, _, sq_of f1⟩, x, rfl, .str mg, rfl, x, mg, s, m, cs, rs, os, rfl, dpM f2 _ _ hxs', hts.at s hsm, hwf, hpt, c1, hl12, by omega, fun q2 H9 hq2 e9 h9 => ⟨D, q2, zs.map V.str, (lnS n mg s).map V.str, rfl, rfl, e9 _ _ f1, h9, ?_, zs ++ lnS n mg s, _, rfl, by rw [upd_same, ← List.map_append], (f2.trans e9).mut hD, by rw [flat_more (lnS n mg) hs, f3]⟩⟩
        rw [List.length_map, List.length_map, sizeLine_eq]
        omega
      · obtain ⟨zs, v3, rfl, f1, f2, f3⟩ := hI
        rw [List.take_of_length_le (by omega)] at f3
        exact ⟨.ref D, rfl, kk D H' hD f2 (by rw [f1, f3]; rfl)⟩

theorem ok_written {fd : FuncData} {k : Nat} (hk1 : 1 ≤ k) (F : FnP K "written" "written" s_written (ga K "written") fd) (T : Tx K w mg) (c_heading : Cl P w K mg base CX0 1 (ga K "heading") ["word", "names"] (spHead K)) (c_part_lines : Cl P w K mg base CX0 k (ga K "part_lines") ["part", "margin"] (spPL K 4)) : FnOk P w K mg base CX0 (k + 1) (ga K "written") fd ["code"] (spWr K) := by
  obtain ⟨fd_heading, G_heading, b_heading, kp_heading⟩ := c_heading
  obtain ⟨fd_part_lines, G_part_lines, b_part_lines, kp_part_lines⟩ := c_part_lines
  refine FunD.ok F sc_written (fun vs H Q E h => ?_) (fun cdv A outer s H vs Q E hr h => ?_)
  · obtain ⟨a, c, r, f, cs, rs, os, st, fos, bds, rfl, _⟩ := h
    rfl
  · obtain ⟨a, c, r, f, cs, rs, os, st, fos, bds, rfl, hC, hN, hB, kk⟩ := h
    have g_heading := T.gl "heading" (by decide +kernel)
    have g_part_lines := T.gl "part_lines" (by decide +kernel)
    obtain ⟨tk_STEP, g_STEP⟩ := T.c_STEP
    refine ⟨_, PSs.nox (pss_cons (ps_set (i := 1) sc_written.nd rfl (Or.inl rfl) (pe_lst (pa_cons (pe_call G_heading (hr.mono (by omega)) (by rfl) g_heading kp_heading b_heading .nil pass0 (pa_cons pe_str (pa_cons (pe_fldc (K := K) rfl (pv 0) rfl) pa_nil))) (pa_cons (pe_call G_heading (hr.mono (by omega)) (by rfl) g_heading kp_heading b_heading .nil pass0 (pa_cons pe_str (pa_cons (pe_fldc (K := K) rfl (pv 0) rfl) pa_nil))) (pa_cons (pe_call G_heading (hr.mono (by omega)) (by rfl) g_heading kp_heading b_heading .nil pass0 (pa_cons pe_str (pa_cons (pe_lst (pa_cons (pe_fldc (K := K) rfl (pv 0) rfl) pa_nil)) pa_nil))) pa_nil)))))
      (pss_cons (ps_for PassesOwn.never rfl (pi_tup (pe_fldc (K := K) rfl (pv 0) rfl)) (pg_name (i := 2) sc_written.nd rfl (Or.inl rfl))
      (pss_cons (ps_expr (pe_bm PySem.F.plainAttrs_list PySem.F.slot_list_append PySem.F.type_list_append mt_append (pv 1) (pa_cons (pe_call G_heading (hr.mono (by omega)) (by rfl) g_heading kp_heading b_heading .nil pass0 (pa_cons (pe_fldc (K := K) rfl (pv 2) rfl) (pa_cons (pe_lst pa_nil) pa_nil))) pa_nil)))
      (pss_one (ps_expr (pe_bm PySem.F.plainAttrs_list PySem.F.slot_list_extend PySem.F.type_list_extend mt_extend (pv 1) (pa_cons (pe_call G_part_lines (hr.mono (by omega)) (by rfl) g_part_lines kp_part_lines b_part_lines .nil pass0 (pa_cons (pe_fldc (K := K) rfl (pv 2) rfl) (pa_cons (pe_glob (v := .str _) (by rfl) g_STEP ⟨_, rfl⟩) pa_nil))) pa_nil))))))
      (pss_one (ps_ret (pe_join pe_str (pv 1)))))), ?_⟩
    obtain ⟨dx, hA⟩ := hC.at_
    have l12 := hN.l12
    have z := hN.sz
    have lst : st.length ≤ 12 := l12 st (List.mem_append_right _ hN.st)
    have lc : ∀ z ∈ cs, z.length ≤ 12 := fun z hz => l12 z (List.mem_append_left _ (List.mem_append_left _ hz))
    have lr : ∀ z ∈ rs, z.length ≤ 12 := fun z hz => l12 z (List.mem_append_left _ (List.mem_append_right _ hz))
    have lo : ∀ z ∈ os, z.length ≤ 12 := fun z hz => l12 z (List.mem_append_right _ hz)
    have w1 : (("cells" : Str)).length ≤ 12 := by decide +kernel
    have w2 : (("rows" : Str)).length ≤ 12 := by decide +kernel
    have w3 : (("start" : Str)).length ≤ 12 := by decide +kernel
    refine ⟨.ref a, rfl, a, _, dx, _, .ref c, rfl, hA, T.cc, T.nc "cells" (by decide +kernel), rfl, "cells", c, cs, rfl, .inl (st_of hC.ca), by omega, ⟨by omega, fun z hz => Nat.le_trans (lc z hz) (by decide)⟩, fun H1 e1 => ?_⟩
    refine ⟨.ref a, rfl, a, _, dx, _, .ref r, rfl, e1 _ _ hA, T.cc, T.nc "rows" (by decide +kernel), rfl, "rows", r, rs, rfl, .inl (st_of (e1 _ _ hC.ra)), by omega, ⟨by omega, fun z hz => Nat.le_trans (lr z hz) (by decide)⟩, fun H2 e2 => ?_⟩
    refine ⟨.ref a, rfl, a, _, dx, _, .str st, rfl, e2 _ _ (e1 _ _ hA), T.cc, T.nc "start" (by decide +kernel), rfl, (show 1 ≤ sizeLine by decide), fun q hq => ⟨"start", q, [st], rfl, .inr (sq_of upd_same), by omega, ⟨by simp, fun z hz => by rw [List.mem_singleton.mp hz]; omega⟩, fun H3 e3 => ⟨(show 3 ≤ sizeLine by decide), fun D hD => ?_⟩⟩⟩
    have e4 := ((e1.trans e2).trans (Ex.new hq)).trans e3
    have hD0 := fresh_back e4 hD
    have e5 := e4.trans (Ex.new (o := .lst [.str (headL "cells" cs), .str (headL "rows" rs), .str (headL "start" [st])]) hD)
    dsimp only [gName, List.set]
    refine ⟨.ref a, rfl, a, _, dx, _, .ref f, rfl, e5 _ _ hA, T.cc, T.nc "functions" (by decide +kernel), rfl, f, rfl, ⟨_, st_of (e5 _ _ hC.fa)⟩, ?_⟩
    have each : ∀ z ∈ txt cs rs os st bds, z.length ≤ 80 := by
      intro z hz
      rcases List.mem_append.mp hz with hz | hz
      · simp only [List.mem_cons, List.not_mem_nil, or_false] at hz
        rcases hz with e | e | e
        · rw [e]
          exact Nat.le_trans (headL_len w1 lc (by omega)) (by decide)
        · rw [e]
          exact Nat.le_trans (headL_len w2 lr (by omega)) (by decide)
        · rw [e]
          exact Nat.le_trans (headL_len w3 (fun z hz => by rw [List.mem_singleton.mp hz]; omega) (by simp)) (by decide)
      · obtain ⟨p, hp, hz⟩ := List.mem_flatMap.mp hz
        obtain ⟨p1, p2⟩ := p
        have m1 := (List.of_mem_zip hp).1
        have m2 := (List.of_mem_zip hp).2
        rcases List.mem_cons.mp hz with e | hz
        · rw [e]
          exact Nat.le_trans (headL_len (lo _ m1) (fun z hz => nomatch hz) (by simp)) (by decide)
        · obtain ⟨_, hL, hc⟩ := bodv_all (hB _ m2)
          have k := lns_each l12 hL z hz
          have lst2 : step.length = 2 := by decide +kernel
          omega
    have few : (txt cs rs os st bds).length ≤ 100 := by
      show (_ ++ List.flatMap _ _).length ≤ 100
      rw [List.length_append, List.length_flatMap]
      have k := sum_le (l := os.zip bds) (f := fun p => (headL p.1 [] :: lns 4 step p.2).length) (b := 29) fun p hp => by
        obtain ⟨p1, p2⟩ := p
        obtain ⟨_, hL, hc⟩ := bodv_all (hB _ (List.of_mem_zip hp).2)
        have k := lns_len (mg := step) hL
        show (_ :: lns 4 step p2).length ≤ 29
        rw [List.length_cons]
        omega
      have k2 : (os.zip bds).length ≤ 3 := by
        rw [List.length_zip]
        omega
      simp only [List.length_cons, List.length_nil] at k ⊢
      have k3 : (os.zip bds).length * 29 ≤ 3 * 29 := Nat.mul_le_mul_right _ k2
      omega
    refine for_tup (xs := fos.map V.ref) (fun i σ' H' => ∃ zs v2, σ' = [some (.ref a), some (.ref D), v2] ∧ H' D = some (.lst (zs.map V.str)) ∧ Ex H H' ∧ zs = [headL "cells" cs, headL "rows" rs, headL "start" [st]] ++ ((os.zip bds).take i).flatMap fnL)
      ⟨[headL "cells" cs, headL "rows" rs, headL "start" [st]], _, rfl, upd_same, e5, rfl⟩ (fun i σ' H' _ hI => ?_) (fun i x σ' H' hx hI => ?_) (fun σ' H' hI => ?_)
    · obtain ⟨zs, v2, rfl, f1, f2, f3⟩ := hI
      exact st_of (f2 _ _ hC.fa)
    · obtain ⟨zs, v2, rfl, f1, f2, f3⟩ := hI
      rw [List.getElem?_map] at hx
      cases p : fos[i]? with
      | none =>
        rw [p] at hx
        cases hx
      | some t =>
        rw [p] at hx
        cases hx
        obtain ⟨y, ss, ho, hb, hFn⟩ := hC.fs.at p
        have mz : (os.zip bds)[i]? = some (y, ss) := by
          rw [List.getElem?_zip_eq_some]
          exact ⟨ho, hb⟩
        obtain ⟨⟨m, hts⟩, hL, hc⟩ := bodv_all (hB ss (List.mem_of_getElem? hb))
        have ly := lo y (List.mem_of_getElem? ho)
        have lt := flat_le fnL (os.zip bds) (i + 1)
        rw [flat_more fnL mz, List.length_append] at lt
        have few2 : 3 + ((os.zip bds).flatMap fnL).length ≤ 100 := by
          have k := few
          unfold txt at k
          rw [List.length_append] at k
          exact k
        have lfn : (fnL (y, ss)).length = 1 + (lns 4 step ss).length := by
          show (_ :: lns 4 step ss).length = _
          rw [List.length_cons]
          omega
        have lzs : zs.length = 3 + (((os.zip bds).take i).flatMap fnL).length := by
          rw [f3, List.length_append]
          rfl
        obtain ⟨dxf, b, mn, g1, g2, _⟩ := hFn
        dsimp only [gName, List.set]
        refine ⟨.ref D, rfl, .inl ⟨rfl, _, sq_of f1⟩, .ref t, rfl, t, _, dxf, _, .str y, rfl, f2 _ _ g1, T.cf, T.nf "name" (by decide +kernel), rfl, (show 0 ≤ sizeLine by decide), fun q hq => ⟨y, q, [], rfl, .inr (sq_of upd_same), by omega, ⟨by simp, fun z hz => nomatch hz⟩, fun H3 e3 => ?_⟩⟩
        have e6 := (Ex.new (o := .lst []) hq).trans e3
        refine ⟨D, zs.map V.str, _, rfl, rfl, e6 _ _ f1, ?_, ?_⟩
        · rw [List.length_map, sizeLine_eq]
          omega
        have L8 : upd H3 D (.lst (zs.map V.str ++ [.str (headL y [])])) D = some (.lst ((zs ++ [headL y []]).map V.str)) := by
          rw [upd_same, List.map_append]
          rfl
        have E8 : Ex H (upd H3 D (.lst (zs.map V.str ++ [.str (headL y [])]))) := (f2.trans e6).mut hD0
        refine ⟨.ref D, rfl, .inl ⟨rfl, _, sq_of L8⟩, .ref t, rfl, t, _, dxf, _, .ref b, rfl, E8 _ _ g1, T.cf, T.nf "body" (by decide +kernel), rfl, b, step, ss, m, cs, rs, os, rfl, dpM E8 _ _ g2, hts, hL, hc, l12, (by decide +kernel), fun q2 H9 hq2 e9 h9 => ⟨D, q2, (zs ++ [headL y []]).map V.str, (lns 4 step ss).map V.str, rfl, rfl, e9 _ _ L8, h9, ?_, zs ++ [headL y []] ++ lns 4 step ss, _, rfl, by rw [upd_same, ← List.map_append], (E8.trans e9).mut hD0, ?_⟩⟩
        · rw [List.length_map, List.length_map, List.length_append, List.length_singleton, sizeLine_eq]
          omega
        · rw [flat_more fnL mz, f3, List.append_assoc, List.append_assoc]
          rfl
    · obtain ⟨zs, v2, rfl, f1, f2, f3⟩ := hI
      have lf : (os.zip bds).length = fos.length := by
        rw [List.length_zip, hC.fs.1, hC.fs.2.1, Nat.min_self]
      rw [List.length_map, List.take_of_length_le (by omega)] at f3
      have f4 : zs = txt cs rs os st bds := f3
      refine ⟨⟨_, rfl⟩, .ref D, rfl, nl, D, zs, rfl, rfl, .inl (sq_of f1), ?_, ?_⟩
      · have k := sum_lens each
        rw [← f4] at k few
        have kn : nl.length = 1 := by decide +kernel
        rw [kn]
        have k2 : zs.length * 80 ≤ 100 * 80 := Nat.mul_le_mul_right _ few
        omega
      · rw [f4]
        exact kk H' f2

end
end K05
set_option Elab.async false
set_option linter.all false
set_option maxRecDepth 100000
set_option maxHeartbeats 8000000
namespace K05
open PySem PySem.Spec PyProof.Rows L2 He XH XV XR PEN TR Evl


def strO : PyData → Option Str
  | .str z => some z
  | _ => none
theorem strsD_eq (s : PyData) : strsD s = (argsOf s).filterMap strO := by
  unfold strsD
  congr 1
theorem fm_more {α β : Type} {l : List α} {i : Nat} {x : α} (f : α → Option β) (h : l[i]? = some x) : (l.take (i + 1)).filterMap f = (l.take i).filterMap f ++ (f x).toList := by
  rw [take_more h, List.filterMap_append]
  cases q : f x <;> simp [q]
def rJoin (K : PySem.W.Frag) : V → List V → Hp → VK → Prop := fun x xs H Q => ∃ a p, ∃ ys : List Str, x = .str a ∧ xs = [.ref p] ∧ (SqL K H p (ys.map V.str) ∨ SqT K H p (ys.map V.str)) ∧
      (ys.map (·.length)).sum + ys.length * a.length ≤ 16777216 ∧ Q (.str (Txt.join a ys)) H
theorem ev_join {K : PySem.W.Frag} {σ : L2.St} {H : Hp} {to te : TE} {sep : Str} {a : Addr} {zs : List Str} (h1 : Ev to σ H (.str sep)) (h2 : Ev te σ H (.ref a)) (ha : H a = some (.lst (zs.map V.str))) (hs : (zs.map (·.length)).sum + zs.length * sep.length ≤ 16777216) : Ev (tM1 (rJoin K) to te) σ H (.str (Txt.join sep zs)) := fun H1 e Q q =>
  h1 H1 e _ fun H2 e2 => ⟨⟨_, rfl⟩, h2 H2 (e.trans e2) _ fun H3 e3 => ⟨sep, a, zs, rfl, rfl, .inl (sq_of (e3 _ _ (e2 _ _ (e _ _ ha)))), hs, q H3 (e2.trans e3)⟩⟩
theorem et_isP {K : PySem.W.Frag} {σ : L2.St} {H : Hp} {i m : Nat} {v : V} {d : PyData} (hσ : σ[i]? = some (some v)) (ht : Tt m d) (hd : Dp K H v d) : EvT (tB (tCB (rIsi K) (tCons (tVar i) (tCons (tC (.ty "tuple")) tNil)))) σ H (isP d) := by
  refine et_B (ev_cb (ea_cons (ev_var hσ) (ea_cons ev_c ea_nil)) fun H5 e Q2 q2 => ?_)
  cases d with
  | tuple es =>
    cases dpM e _ _ hd with
    | @tup bb zs _ hzs _ => exact ⟨.ref bb, .ty "tuple", .type "tuple", .type "tuple", true, rfl, .ty _, tyx_t hzs, kit_ty (by decide +kernel), q2 H5 (Ex.refl _)⟩
  | str z =>
    cases hd
    exact ⟨.str z, .ty "tuple", .type "str", .type "tuple", false, rfl, .ty _, .base (.str z), kit_ty (by decide +kernel), q2 H5 (Ex.refl _)⟩
  | int z =>
    cases hd
    exact ⟨.int z, .ty "tuple", .type "int", .type "tuple", false, rfl, .ty _, .base (.int z), kit_ty (by decide +kernel), q2 H5 (Ex.refl _)⟩
  | none => cases ht
  | bool _ => cases ht
  | list _ => cases ht
  | dict _ => cases ht
def seckv : List (Key × V) := mergeK [] [(Sum.inr "either", .str "or"), (Sum.inr "told", .str "else"), (Sum.inr "look", .str "else"), (Sum.inr "guard", .str "rescue"), (Sum.inr "lastly", .str "lastly")]
theorem sec_val {z : Str} (h : z ∈ secs) : valV seckv (Sum.inr z) = some (.str (secondW z)) := by
  unfold secs at h
  simp only [List.mem_cons, List.not_mem_nil, or_false] at h
  rcases h with rfl | rfl | rfl | rfl | rfl <;> rfl
theorem sec_len (z : Str) : (secondW z).length ≤ 10 := by
  unfold secondW
  split
  · decide +kernel
  · split
    · decide +kernel
    · split
      · decide +kernel
      · split <;> decide +kernel
theorem last_parts : ∀ p ∈ ENT, p.1 = ("lastly" : Str) → p.2 = [("part" : Str), "part"] := by decide +kernel
theorem last_strs {cs rs os : List Str} {s : PyData} (h : Wf cs rs os s) (e : wordS s = "lastly") : strsD s = [] := by
  obtain ⟨w, ks, args, rfl, hk, hl, hf⟩ := h
  have e2 : w = "lastly" := e
  have e3 := last_parts _ hk e2
  simp only at e3
  subst e3
  match args, hl with
  | [x, y], _ =>
    obtain ⟨ds, rfl⟩ := part_of (hf 0 _ x rfl rfl)
    obtain ⟨es, rfl⟩ := part_of (hf 1 _ y rfl rfl)
    rfl
theorem str_ext {a b : Str} (h : a.cps.toList = b.cps.toList) : a = b := by
  obtain ⟨x⟩ := a
  obtain ⟨y⟩ := b
  have e : x = y := Array.toList_inj.mp h
  rw [e]
theorem app_codes (a b : Str) : (a ++ b).cps.toList = a.cps.toList ++ b.cps.toList := by
  obtain ⟨x⟩ := a
  obtain ⟨y⟩ := b
  show (x ++ y).toList = _
  simp
def mrg (n : Nat) : Str := repS blank n
theorem mrg_step (n : Nat) : mrg (n + 2) = mrg n ++ step := by
  refine str_ext ?_
  rw [app_codes]
  have k1 := repS_codes blank (n + 2)
  have k2 := repS_codes blank n
  have kb : blank.cps.toList = [32] := by decide +kernel
  have ks : step.cps.toList = [32, 32] := by decide +kernel
  have f : ∀ n, (List.replicate n [32]).flatten = List.replicate n 32 := by
    intro n
    induction n with
    | zero => rfl
    | succ n ih => rw [List.replicate_succ, List.flatten_cons, ih, List.replicate_succ]; rfl
  rw [kb, f] at k1 k2
  show (repS blank (n + 2)).cps.toList = (repS blank n).cps.toList ++ step.cps.toList
  rw [k1, k2, ks, ← List.replicate_append_replicate]
  rfl
theorem mrg_len (n : Nat) : (mrg n).length = n := by
  have z := repS_len blank n
  have e : blank.length = 1 := by decide +kernel
  rw [e, Nat.mul_one] at z
  exact z
def spLL (K : PySem.W.Frag) (n : Nat) : Sp := fun vs H Q _ => ∃ b wide ss m cs rs os, vs = [.ref b, .int (wide : Nat)] ∧ Dp K H (.ref b) (.tuple ss) ∧ Tts m ss ∧ LB cs rs os n ss ∧ cnt n ss ≤ 14 ∧ (∀ z ∈ cs ++ rs ++ os, z.length ≤ 12) ∧ (1 ≤ wide ∧ wide + 2 * n ≤ 20) ∧ ∀ q H', H q = none → Ex H H' → H' q = some (.lst ((lns n (mrg wide) ss).map V.str)) → Q (.ref q) H'

section
variable {P : Program} {w : World} {K : PySem.W.Frag} {mg : Str → Option Value} {base : Heap}

theorem ok_law_lines0 {fd : FuncData} (F : FnP K "_law_lines" "_law_lines" s_law_lines (ga K "_law_lines") fd) (T : Tx K w mg) : FnOk P w K mg base CX0 (0 + 1) (ga K "_law_lines") fd ["_law_body", "_law_wide"] (spLL K 0) := by
  refine FunD.ok F sc_law_lines (fun vs H Q E h => ?_) (fun cdv A outer s H vs Q E hr h => ?_)
  · obtain ⟨b, wide, ss, m, cs, rs, os, rfl, _⟩ := h
    rfl
  · obtain ⟨b, wide, ss, m, cs, rs, os, rfl, hd, hts, hLB, hc, hl12, hw, kk⟩ := h
    refine ⟨_, PSs.nox (pss_cons (ps_set (i := 2) sc_law_lines.nd rfl (Or.inl rfl) (pe_disp (pps_cons pe_str pe_str (pps_cons pe_str pe_str (pps_cons pe_str pe_str (pps_cons pe_str pe_str (pps_cons pe_str pe_str pps_nil))))) rfl rfl (by simp) (by decide)))
      (pss_cons (ps_set (i := 3) sc_law_lines.nd rfl (Or.inl rfl) (pe_lst pa_nil))
      (pss_cons (ps_for PassesOwn.never rfl (pi_tup (pv 0)) (pg_name (i := 4) sc_law_lines.nd rfl (Or.inl rfl))
      (pss_cons ps_never
      (pss_cons ps_never
      (pss_cons ps_never
      (pss_cons ps_never
      (pss_cons ps_never
      (pss_one ps_never)))))))
      (pss_one (ps_ret (pv 3)))))), ?_⟩
    have e0 : ss = [] := hLB
    subst e0
    cases hd with
    | @tup _ xs _ hx hxs =>
      cases hxs
      intro S hS
      have e1 : Ex H (upd (upd H S (.dK [])) S (.dK seckv)) := (Ex.new hS).mut hS
      refine ⟨upd_same, [(Sum.inr "either", .str "or"), (Sum.inr "told", .str "else"), (Sum.inr "look", .str "else"), (Sum.inr "guard", .str "rescue"), (Sum.inr "lastly", .str "lastly")], rfl, (show 5 ≤ 15 by decide), ?_⟩
      have gS : upd (upd H S (.dK [])) S (.dK seckv) S = some (.dK seckv) := upd_same
      refine q_asgL (el_lst ea_nil (by decide)) fun D H1 hD e2 h1 => ?_
      dsimp only [gName, List.set]
      refine ⟨.ref b, rfl, b, rfl, ⟨_, ex_t e2 (ex_t e1 hx)⟩, ?_⟩
      refine for_tup (xs := []) (fun i σ' H' => σ' = _ ∧ H' = H1) ⟨rfl, rfl⟩ (fun i σ' H' _ hI => by rw [hI.2]; exact ex_t e2 (ex_t e1 hx)) (fun i x σ' H' hx hI => nomatch hx) (fun σ' H' hI => ?_)
      rw [hI.1, hI.2]
      exact ⟨.ref D, rfl, kk D H1 (fresh_back e1 hD) (e1.trans e2) h1⟩

theorem ok_law_linesS {fd : FuncData} {n k : Nat} (F : FnP K "_law_lines" "_law_lines" s_law_lines (ga K "_law_lines") fd) (T : Tx K w mg) (c_law_lines : Cl P w K mg base CX0 k (ga K "_law_lines") ["_law_body", "_law_wide"] (spLL K n)) : FnOk P w K mg base CX0 (k + 1) (ga K "_law_lines") fd ["_law_body", "_law_wide"] (spLL K (n + 1)) := by
  obtain ⟨fd_law_lines, G_law_lines, b_law_lines, kp_law_lines⟩ := c_law_lines
  refine FunD.ok F sc_law_lines (fun vs H Q E h => ?_) (fun cdv A outer s H vs Q E hr h => ?_)
  · obtain ⟨b, wide, ss, m, cs, rs, os, rfl, _⟩ := h
    rfl
  · obtain ⟨b, wide, ss, m, cs, rs, os, rfl, hd, hts, hLB, hc, hl12, hw, kk⟩ := h
    have n_isinstance := T.fr "isinstance" (by decide +kernel)
    have n_tuple := T.fr "tuple" (by decide +kernel)
    have n_range := T.fr "range" (by decide +kernel)
    have n_len := T.fr "len" (by decide +kernel)
    have g_law_lines := T.gl "_law_lines" (by decide +kernel)
    refine ⟨_, PSs.nox (pss_cons (ps_set (i := 2) sc_law_lines.nd rfl (Or.inl rfl) (pe_disp (pps_cons pe_str pe_str (pps_cons pe_str pe_str (pps_cons pe_str pe_str (pps_cons pe_str pe_str (pps_cons pe_str pe_str pps_nil))))) rfl rfl (by simp) (by decide)))
      (pss_cons (ps_set (i := 3) sc_law_lines.nd rfl (Or.inl rfl) (pe_lst pa_nil))
      (pss_cons (ps_for PassesOwn.never rfl (pi_tup (pv 0)) (pg_name (i := 4) sc_law_lines.nd rfl (Or.inl rfl))
      (pss_cons (ps_set (i := 5) sc_law_lines.nd rfl (Or.inl rfl) (pe_ix ix_tup (pv 4) pe_int (fun _ _ => rfl)))
      (pss_cons (ps_setLc (i := 6) (own := [("_law_part_here", 10)]) (g := gName 10) (by rfl) sc_law_lines.nd rfl rfl (sw_true rfl rfl rfl (by decide +kernel)) (pi_tup (pe_slice sl_tup (pv 4) (po_some pe_int) po_none)) (blkOk_by (own := [("_law_part_here", 10)]) (N := ["_law_body", "_law_wide", "_law_seconds", "_law_found", "_law_statement", "_law_word_here", "_law_parts", "_law_plain", "_law_head", "_law_k", "_law_part_here"]) (sc := defScope s_law_lines) (by decide +kernel)) (fun _ _ _ _ _ => (pg_name (i := 10) sc_law_lines.nd rfl (Or.inl rfl))) (fun _ _ _ _ _ => (pts_one (pt_val (pe_callB (call_isi : CallR _ _ (rIsi K)) (by rfl) n_isinstance (by decide +kernel) (pa_cons (pv 10) (pa_cons (pe_bltn (v := .ty "tuple") (by rfl) n_tuple (by decide +kernel) rfl) pa_nil)))))) (fun _ _ _ _ _ => (pv 10)))
      (pss_cons (ps_setLc (i := 7) (own := [("_law_part_here", 10)]) (g := gName 10) (by rfl) sc_law_lines.nd rfl rfl (sw_true rfl rfl rfl (by decide +kernel)) (pi_tup (pv 4)) (blkOk_by (own := [("_law_part_here", 10)]) (N := ["_law_body", "_law_wide", "_law_seconds", "_law_found", "_law_statement", "_law_word_here", "_law_parts", "_law_plain", "_law_head", "_law_k", "_law_part_here"]) (sc := defScope s_law_lines) (by decide +kernel)) (fun _ _ _ _ _ => (pg_name (i := 10) sc_law_lines.nd rfl (Or.inl rfl))) (fun _ _ _ _ _ => (pts_one (pt_not (pt_val (pe_callB (call_isi : CallR _ _ (rIsi K)) (by rfl) n_isinstance (by decide +kernel) (pa_cons (pv 10) (pa_cons (pe_bltn (v := .ty "tuple") (by rfl) n_tuple (by decide +kernel) rfl) pa_nil))))))) (fun _ _ _ _ _ => (pv 10)))
      (pss_cons (ps_set (i := 8) sc_law_lines.nd rfl (Or.inl rfl) (pe_ifExp (pt_cmpR op_eq (pv 5) pe_str (nomark _)) pe_str (pe_join pe_str (pv 7))))
      (pss_cons (ps_expr (pe_bm PySem.F.plainAttrs_list PySem.F.slot_list_append PySem.F.type_list_append mt_append (pv 3) (pa_cons (pe_op op_add_str (pe_op op_mulS pe_str (pv 1)) (pv 8)) pa_nil)))
      (pss_one (ps_for PassesOwn.never rfl (pi_range1 (by rfl) n_range (pa_cons (pe_callB call_len_seq (by rfl) n_len (by decide +kernel) (pa_cons (pv 6) pa_nil)) pa_nil)) (pg_name (i := 9) sc_law_lines.nd rfl (Or.inl rfl))
      (pss_cons (ps_if (pt_cmpR op_eq (pv 9) pe_int (nomark _))
      (pss_one (ps_expr (pe_bm PySem.F.plainAttrs_list PySem.F.slot_list_append PySem.F.type_list_append mt_append (pv 3) (pa_cons (pe_op op_add_str (pe_op op_mulS pe_str (pv 1)) (pe_dget (Nat.lt_of_le_of_lt (Nat.add_le_add_left (by decide) _) hr.units) (pv 2) (pv 5) (fun _ _ => rfl))) pa_nil))))
      pss_nil)
      (pss_one (ps_set (i := 3) sc_law_lines.nd rfl (Or.inl rfl) (pe_op op_cat (pv 3) (pe_call G_law_lines (hr.mono (by omega)) (by rfl) g_law_lines kp_law_lines b_law_lines .nil pass0 (pa_cons (pe_ix ix_list (pv 6) (pv 9) (fun _ _ => rfl)) (pa_cons (pe_op op_add (pv 1) pe_int) pa_nil)))))))))))))))
      (pss_one (ps_ret (pv 3)))))), ?_⟩
    have tot := lns_len (mg := mrg wide) hLB
    rw [lns_S] at tot
    have lm := mrg_len wide
    cases hd with
    | @tup _ xs _ hx hxs =>
      have lx := dpAll_len hxs
      intro S hS
      have e1 : Ex H (upd (upd H S (.dK [])) S (.dK seckv)) := (Ex.new hS).mut hS
      refine ⟨upd_same, [(Sum.inr "either", .str "or"), (Sum.inr "told", .str "else"), (Sum.inr "look", .str "else"), (Sum.inr "guard", .str "rescue"), (Sum.inr "lastly", .str "lastly")], rfl, (show 5 ≤ 15 by decide), ?_⟩
      have gS : upd (upd H S (.dK [])) S (.dK seckv) S = some (.dK seckv) := upd_same
      refine q_asgL (el_lst ea_nil (by decide)) fun F0 H1 hF0 e2 h1 => ?_
      have e12 := e1.trans e2
      dsimp only [gName, List.set]
      refine ⟨.ref b, rfl, b, rfl, ⟨_, ex_t e12 hx⟩, ?_⟩
      refine for_tup (xs := xs) (fun i σ' H' => ∃ F zs v4 v5 v6 v7 v8 v9, σ' = [some (.ref b), some (.int (wide : Nat)), some (.ref S), some (.ref F), v4, v5, v6, v7, v8, v9, none] ∧ H F = none ∧ Ex H H' ∧ H' F = some (.lst (zs.map V.str)) ∧ H' S = some (.dK seckv) ∧ zs = (ss.take i).flatMap (lnS n (mrg wide)))
        ⟨F0, [], _, _, _, _, _, _, rfl, fresh_back e1 hF0, e12, h1, e2 _ _ gS, rfl⟩ (fun i σ' H' _ hI => ?_) (fun i x σ' H2 hxi hI => ?_) (fun σ' H' hI => ?_)
      · obtain ⟨F, zs, v4, v5, v6, v7, v8, v9, rfl, f0, f1, f2, f3, f4⟩ := hI
        exact ex_t f1 hx
      · obtain ⟨F, zs, v4, v5, v6, v7, v8, v9, rfl, f0, f1, f2, f3, f4⟩ := hI
        obtain ⟨s, hs, hxs'⟩ := dpAll_at hxs hxi
        have hsm := List.mem_of_getElem? hs
        obtain ⟨hwf, hpt⟩ := hLB s hsm
        have c1 : cnt (n + 1) [s] ≤ 14 := by
          have k := mem_le_sum (f := fun s => 1 + ((parts s).map fun p => cnt n (bodyOf p)).sum) hsm
          have k2 : cnt (n + 1) ss = (ss.map fun s => 1 + ((parts s).map fun p => cnt n (bodyOf p)).sum).sum := rfl
          rw [cnt_one]
          try simp only at k
          omega
        rw [cnt_one] at c1
        have lt := flat_le (lnS n (mrg wide)) ss (i + 1)
        rw [flat_more (lnS n (mrg wide)) hs, List.length_append, ← f4] at lt
        have hsp := hwf.split
        have zl := strs_len hwf hl12
        have hsh := hwf.sh
        have hp3 := parts3 hsh
        have tts := hts.at s hsm
        obtain ⟨mp, tps⟩ := parts_tts tts
        obtain ⟨wd, ks, args, es, hk, hkl, _⟩ := id hwf
        have ew : wordS s = wd := by rw [es]; rfl
        have ea : argsOf s = args := by rw [es]; rfl
        rw [ea] at hsp
        have wl := words_len _ hk
        simp only at wl
        have targs : ∃ m', Tts m' args := by
          rw [es] at tts
          cases tts with
          | tup _ h =>
            cases h with
            | cons _ h => exact ⟨_, h⟩
        obtain ⟨ma, targs⟩ := targs
        have la : args.length = (strsD s).length + (parts s).length := by rw [hsp, List.length_append, List.length_map]
        have l3 := ent3 _ hk
        simp only at l3
        rw [es] at hxs'
        cases hxs' with
        | @tup t xs2 _ hx2 hxs2 =>
          cases hxs2 with
          | @cons v0 rest _ _ hv0 hrest =>
            cases hv0
            have lr := dpAll_len hrest
            dsimp only [gName, List.set]
            refine ⟨.ref t, rfl, t, _, 0, .str wd, rfl, rfl, ex_t f1 hx2, atI_nat (j := 0) rfl, ?_⟩
            dsimp only [gName, List.set]
            refine ⟨.ref t, rfl, 1, rfl, t, _, rfl, ex_t f1 hx2, ?_, fun p hp => ⟨p, rfl, ⟨_, st_of upd_same⟩, fun D hD => ?_⟩⟩
            · intro h
              have h1 := h.1
              rw [show ((1 : Int)) = ((1 : Nat) : Int) from rfl, HT.sIx_nat] at h1
              simp only [List.length_cons] at h1
              omega
            have hcut : cutV (V.str wd :: rest) (some 1) none = rest := by
              rw [show ((1 : Int)) = ((1 : Nat) : Int) from rfl, cut_drop]
              rfl
            rw [hcut] at hD ⊢
            have ep := Ex.new (o := .tup rest) hp
            have eD := ep.trans (Ex.new (o := .lst []) hD)
            have hD2 : H2 D = none := fresh_back ep hD
            refine lc_tup (xs := rest) (fun j H' => ∃ vs', H' p = some (.tup rest) ∧ Ex H2 H' ∧ H' D = some (.lst vs') ∧ DpAll K H' vs' ((args.take j).filter isP)) ⟨[], Ex.new hD _ _ upd_same, eD, upd_same, .nil⟩ (fun j H3 _ hJ => ?_) (fun j y H3 hyj hJ => ?_) (fun H3 hJ => ?_)
            · obtain ⟨vs', k1, k2, k3, k4⟩ := hJ
              exact st_of k1
            · obtain ⟨vs', k1, k2, k3, k4⟩ := hJ
              obtain ⟨di, hdi, hyd⟩ := dpAll_at hrest hyj
              have hj := (List.getElem?_eq_some_iff.mp hdi).1
              have tdi := targs.at di (List.mem_of_getElem? hdi)
              have tk : (args.take (j + 1)).filter isP = (args.take j).filter isP ++ (if isP di = true then [di] else []) := by
                rw [take_more hdi, List.filter_append]
                cases hq : isP di <;> simp [hq]
              refine ⟨rfl, go_test (b := isP di) (et_isP rfl tdi (dpM (f1.trans k2) _ _ hyd)) fun H5 e5 => ?_⟩
              have ll := dpAll_len k4
              have lf : ((args.take j).filter isP).length ≤ j := Nat.le_trans (List.length_filter_le ..) (by rw [List.length_take]; omega)
              refine ite2 (fun hq => ?_) (fun hq => ?_)
              · refine ⟨y, rfl, vs', e5 _ _ k3, small1000 (by omega), vs' ++ [y], ?_, (k2.trans e5).mut hD2, upd_same, ?_⟩
                · exact (upd_ne (fun e => by rw [e, k3] at k1; cases k1)).trans (e5 _ _ k1)
                · rw [tk, if_pos hq]
                  exact dps_off (e5 _ _ k3) (Tts.of fun d hd => by
                    rcases List.mem_append.mp hd with h | h
                    · exact targs.at d (List.mem_of_mem_take (List.mem_filter.mp h).1)
                    · rw [List.mem_singleton.mp h]
                      exact tdi) (dpAll_add (dpMs e5 _ _ k4) (dpM ((f1.trans k2).trans e5) _ _ hyd))
              · refine ⟨vs', e5 _ _ k1, k2.trans e5, e5 _ _ k3, ?_⟩
                rw [tk, if_neg hq, List.append_nil]
                exact dpMs e5 _ _ k4
            obtain ⟨vs', _, a2, a3, a4⟩ := hJ
            have ep2 : (args.take rest.length).filter isP = parts s := by
              rw [lr, List.take_of_length_le (Nat.le_refl _)]
              show _ = (argsOf s).filter isP
              rw [ea]
            rw [ep2] at a4
            have lvs := dpAll_len a4
            have nDF : D ≠ F := fun e => by rw [e, f2] at hD2; cases hD2
            dsimp only [gName, List.set]
            -- the words
            refine ⟨.ref t, rfl, t, rfl, ⟨_, ex_t (f1.trans a2) hx2⟩, fun D2 hD2' => ?_⟩
            have eD2 := Ex.new (o := .lst []) hD2'
            refine lc_tup (xs := .str wd :: rest) (fun j H' => Ex H3 H' ∧ H' D2 = some (.lst ((((PyData.str wd :: args).take j).filterMap strO).map V.str))) ⟨eD2, upd_same⟩ (fun j H4 _ hJ => ex_t ((f1.trans a2).trans hJ.1) hx2) (fun j y H4 hyj hJ => ?_) (fun H4 hJ => ?_)
            · obtain ⟨k1, k2⟩ := hJ
              obtain ⟨di, hdi, hyd⟩ := dpAll_at (DpAll.cons (K := K) (H := H) (.str wd) hrest) hyj
              have hj := (List.getElem?_eq_some_iff.mp hdi).1
              have cas : (∃ z, di = .str z) ∨ ∃ ds, di = .tuple ds := by
                rcases List.mem_cons.mp (List.mem_of_getElem? hdi) with e | h
                · exact .inl ⟨_, e⟩
                · rw [hsp] at h
                  rcases List.mem_append.mp h with h | h
                  · obtain ⟨z, _, e⟩ := List.mem_map.mp h
                    exact .inl ⟨z, e.symm⟩
                  · obtain ⟨ds, e, _⟩ := hpt di h
                    exact .inr ⟨ds, e⟩
              have tdi : ∃ m', Tt m' di := by
                rcases List.mem_cons.mp (List.mem_of_getElem? hdi) with e | h
                · exact ⟨0, by rw [e]; exact .str (by omega)⟩
                · exact ⟨_, targs.at di h⟩
              obtain ⟨m', tdi⟩ := tdi
              refine ⟨rfl, go_test (b := !isP di) (et_not (et_isP rfl tdi (dpM ((f1.trans a2).trans k1) _ _ hyd))) fun H5 e5 => ?_⟩
              have lf : (((PyData.str wd :: args).take j).filterMap strO).length ≤ j := Nat.le_trans (List.length_filterMap_le ..) (by rw [List.length_take]; omega)
              rw [fm_more strO hdi]
              rcases cas with ⟨z, rfl⟩ | ⟨ds, rfl⟩
              · cases hyd
                refine iteT ⟨.str z, rfl, _, e5 _ _ k2, ?_, (k1.trans e5).mut hD2', ?_⟩
                · rw [List.length_map]
                  rw [List.length_cons] at hj
                  exact small1000 (by omega)
                · rw [upd_same, List.map_append]
                  rfl
              · refine iteF ⟨k1.trans e5, ?_⟩
                show _ = some (HO.lst ((_ ++ []).map V.str))
                rw [List.append_nil]
                exact e5 _ _ k2
            obtain ⟨b1, b2⟩ := hJ
            have ewds : ((PyData.str wd :: args).take (V.str wd :: rest).length).filterMap strO = wd :: strsD s := by
              rw [List.take_of_length_le (by rw [List.length_cons, List.length_cons]; omega), strsD_eq, ea]
              rfl
            rw [ewds] at b2
            have eB := a2.trans b1
            have f2B := eB _ _ f2
            have f3B := eB _ _ f3
            have a3B := b1 _ _ a3
            have a4B := dpMs b1 _ _ a4
            have f1B := f1.trans eB
            have nSF : S ≠ F := fun e => by rw [e, f2] at f3; cases f3
            clear eD2 eD ep a2 a3 a4 b1
            have fl : (firstW wd).length ≤ 12 := by
              unfold firstW
              split
              · decide +kernel
              · omega
            have sl := sum_lens (b := 12) (zs := wd :: strsD s) (fun z hz => by
              rcases List.mem_cons.mp hz with e | h
              · rw [e]; exact wl
              · exact zl z h)
            have sl2 := sum_lens (b := 12) (zs := firstW wd :: strsD s) (fun z hz => by
              rcases List.mem_cons.mp hz with e | h
              · rw [e]; exact fl
              · exact zl z h)
            have kb : (blank).length = 1 := by decide +kernel
            have jl := join_len blank (firstW wd :: strsD s)
            rw [kb] at jl
            rw [List.length_cons] at sl sl2 jl
            dsimp only [gName, List.set]
            refine q_asg (v := .str (Txt.join blank (firstW wd :: strsD s))) (ev_if (b := decide (V.str wd = V.str "lastly")) (et_test (ev_op (ev_var rfl) ev_c (rv_eq rfl))) (fun hb => ev_is ev_c ?_) (fun hb => ev_is (ev_join (zs := wd :: strsD s) ev_c (ev_var rfl) b2 ?_) ?_)) fun H5 e5 => ?_
            · have e := of_decide_eq_true hb
              injection e with e
              rw [last_strs hwf (by rw [ew, e])]
              unfold firstW
              rw [if_pos e]
              exact congrArg V.str (by decide +kernel)
            · rw [show ((" " : Str)).length = 1 by decide +kernel, List.length_cons]
              omega
            · have e := of_decide_eq_false hb
              unfold firstW
              rw [if_neg (fun x => e (by rw [x]))]
              rfl
            dsimp only [gName, List.set]
            have am := app_len (mrg wide) (Txt.join blank (firstW wd :: strsD s))
            refine ⟨.ref F, rfl, .inl ⟨rfl, _, sq_of (e5 _ _ f2B)⟩, .int (wide : Nat), rfl, blank, wide, rfl, rfl, ⟨by omega, by omega⟩, ⟨by decide +kernel, by decide +kernel⟩, .str (Txt.join blank (firstW wd :: strsD s)), rfl, mrg wide, _, rfl, rfl, fits (by omega), F, zs.map V.str, _, rfl, rfl, e5 _ _ f2B, ?_, ?_⟩
            · rw [List.length_map, sizeLine_eq]
              omega
            have lS : (lnS n (mrg wide) s).length = 1 + ((parts s).zipIdx.flatMap (lnP n (mrg wide) s)).length := by
              show (_ :: (parts s).zipIdx.flatMap (lnP n (mrg wide) s)).length = _
              rw [List.length_cons]
              omega
            have hd1 : zs ++ [mrg wide ++ Txt.join blank (firstW wd :: strsD s)] = zs ++ (mrg wide ++ Txt.join blank (firstW (wordS s) :: strsD s)) :: ((parts s).zipIdx.take 0).flatMap (lnP n (mrg wide) s) := by
              rw [ew]
              rfl
            dsimp only [gName, List.set]
            refine ⟨.ref D, rfl, D, vs', rfl, .inl (sq_of ((upd_ne nDF).trans (e5 _ _ a3B))), ((vs'.length : Nat) : Int), rfl, by omega, by omega, ?_⟩
            refine for_range (lo := 0) (n := ((vs'.length : Nat) : Int).toNat) (fun j σ' H' => ∃ G gs v9', σ' = [some (.ref b), some (.int (wide : Nat)), some (.ref S), some (.ref G), some (.ref t), some (.str wd), some (.ref D), some (.ref D2), some (.str (Txt.join blank (firstW wd :: strsD s))), v9', none] ∧ H G = none ∧ Ex H H' ∧ H' G = some (.lst (gs.map V.str)) ∧ H' S = some (.dK seckv) ∧ (H' D = some (.lst vs') ∧ D ≠ G ∧ DpAll K H' vs' (parts s)) ∧ gs = zs ++ (mrg wide ++ Txt.join blank (firstW (wordS s) :: strsD s)) :: ((parts s).zipIdx.take j).flatMap (lnP n (mrg wide) s))
              ⟨F, zs ++ [mrg wide ++ Txt.join blank (firstW wd :: strsD s)], _, rfl, f0, (f1B.trans e5).mut f0, by rw [upd_same, List.map_append]; rfl, (upd_ne nSF).trans (e5 _ _ f3B), ⟨(upd_ne nDF).trans (e5 _ _ a3B), nDF, dps_off (e5 _ _ f2B) tps (dpMs e5 _ _ a4B)⟩, hd1⟩ (fun j σ' H6 hj hJ => ?_) (fun σ' H' hJ => ?_)
            · obtain ⟨G, gs, v9', rfl, k1, k2, k3, k4, ⟨k5, k6, k7⟩, k8⟩ := hJ
              have hj2 : j < vs'.length := by omega
              obtain ⟨pd, hpd, hpv⟩ := dpAll_at k7 (List.getElem?_eq_getElem hj2)
              obtain ⟨ds, rfl, hLB2⟩ := hpt pd (List.mem_of_getElem? hpd)
              obtain ⟨m', tds⟩ := tts_tup (tps.at _ (List.mem_of_getElem? hpd))
              have c2 : cnt n ds ≤ 14 := by
                have k := mem_le_sum (f := fun p => cnt n (bodyOf p)) (List.mem_of_getElem? hpd)
                have k2 : cnt n (bodyOf (.tuple ds)) = cnt n ds := rfl
                try simp only at k
                omega
              have mz : (parts s).zipIdx[j]? = some (.tuple ds, j) := by
                rw [List.getElem?_zipIdx, hpd]
                simp
              generalize hgv : vs'[j] = pv0 at hpv
              cases hpv with
              | @tup pb pvs _ hpb hpvs =>
                have hix : vs'[j]? = some (.ref pb) := by rw [List.getElem?_eq_getElem hj2, hgv]
                have ltj := flat_le (lnP n (mrg wide) s) (parts s).zipIdx (j + 1)
                rw [flat_more (lnP n (mrg wide) s) mz, List.length_append] at ltj
                have lgs : gs.length = zs.length + (1 + (((parts s).zipIdx.take j).flatMap (lnP n (mrg wide) s)).length) := by
                  rw [k8, List.length_append, List.length_cons]
                  omega
                have ms := mrg_step wide
                have j0 : (0 : Int) + (j : Int) = (j : Int) := Int.zero_add _
                dsimp only [gName, List.set]
                refine q_when (b := decide (V.int (0 + (j : Nat)) = V.int 1)) (et_test (ev_op (ev_var rfl) ev_c (rv_eq rfl))) (fun hb H7 e7 => ?_) (fun hb H7 e7 => ?_)
                · have j1 : j = 1 := by
                    have e := of_decide_eq_true hb
                    injection e with e
                    omega
                  have two : 2 ≤ (parts s).length := by
                    have k := (List.getElem?_eq_some_iff.mp hpd).1
                    omega
                  have sw := two_secs hwf two
                  rw [ew] at sw
                  have lsec := sec_len wd
                  have pj : lnP n (mrg wide) s (.tuple ds, j) = [mrg wide ++ secondW wd] ++ lns n (mrg wide ++ step) ds := by
                    unfold lnP
                    rw [if_pos j1, ew]
                    rfl
                  rw [pj, List.length_append, List.length_singleton] at ltj
                  have a2 := app_len (mrg wide) (secondW wd)
                  refine ⟨.ref G, rfl, .inl ⟨rfl, _, sq_of (e7 _ _ k3)⟩, .int (wide : Nat), rfl, blank, wide, rfl, rfl, ⟨by omega, by omega⟩, ⟨by decide +kernel, by decide +kernel⟩, .ref S, rfl, .str wd, rfl, S, .str (secondW wd), rfl, .inl ⟨seckv, Sum.inr wd, .inl (e7 _ _ k4), rfl, (sec_val sw).symm⟩, mrg wide, _, rfl, rfl, fits (by omega), G, gs.map V.str, _, rfl, rfl, e7 _ _ k3, ?_, ?_⟩
                  · rw [List.length_map, sizeLine_eq]
                    omega
                  have hz : gs ++ [mrg wide ++ secondW wd] ++ lns n (mrg wide ++ step) ds = zs ++ (mrg wide ++ Txt.join blank (firstW (wordS s) :: strsD s)) :: ((parts s).zipIdx.take (j + 1)).flatMap (lnP n (mrg wide) s) := by
                    rw [flat_more (lnP n (mrg wide) s) mz, pj, k8]
                    simp only [List.append_assoc, List.cons_append]
                  have L8 : upd H7 G (.lst (gs.map V.str ++ [.str (mrg wide ++ secondW wd)])) G = some (.lst ((gs ++ [mrg wide ++ secondW wd]).map V.str)) := by
                    rw [upd_same, List.map_append]
                    rfl
                  have S8 := (upd_ne (o := .lst (gs.map V.str ++ [.str (mrg wide ++ secondW wd)])) (show S ≠ G from fun e => by rw [e, k3] at k4; cases k4)).trans (e7 _ _ k4)
                  have Q8 := (upd_ne (o := .lst (gs.map V.str ++ [.str (mrg wide ++ secondW wd)])) k6).trans (e7 _ _ k5)
                  have D8 := dps_off (o := .lst (gs.map V.str ++ [.str (mrg wide ++ secondW wd)])) (e7 _ _ k3) tps (dpMs e7 _ _ k7)
                  have B8 := dp_off (o := .lst (gs.map V.str ++ [.str (mrg wide ++ secondW wd)])) (e7 _ _ k3) (tps.at _ (List.mem_of_getElem? hpd)) (dpM e7 _ _ (.tup hpb hpvs))
                  have E8 : Ex H (upd H7 G (.lst (gs.map V.str ++ [.str (mrg wide ++ secondW wd)]))) := (k2.trans e7).mut k1
                  try dsimp only [gName, List.set]
                  refine ⟨.ref G, rfl, .ref D, rfl, .int (0 + (j : Nat)), rfl, D, vs', _, .ref pb, rfl, rfl, sq_of Q8, (by rw [j0]; exact atI_nat hix), .int (wide : Nat), rfl, (wide : Nat), 2, rfl, rfl, pb, wide + 2, ds, m', cs, rs, os, (by rw [show (((wide + 2 : Nat)) : Int) = (wide : Int) + 2 by omega]; rfl), B8, tds, hLB2, c2, hl12, ⟨by omega, by omega⟩, fun q2 H9 hq2 e9 h9 => ?_⟩
                  rw [ms] at h9
                  refine ⟨G, q2, ((gs ++ [mrg wide ++ secondW wd])).map V.str, (lns n (mrg wide ++ step) ds).map V.str, rfl, rfl, e9 _ _ L8, h9, fits ?_, fun G2 hG2 => ⟨G2, (gs ++ [mrg wide ++ secondW wd]) ++ lns n (mrg wide ++ step) ds, _, rfl, fresh_back (E8.trans e9) hG2, (E8.trans e9).trans (Ex.new hG2), by rw [upd_same, ← List.map_append], Ex.new hG2 _ _ (e9 _ _ S8), ⟨Ex.new hG2 _ _ (e9 _ _ Q8), ne_of_none (e9 _ _ Q8) hG2, dpMs (e9.trans (Ex.new hG2)) _ _ D8⟩, hz⟩⟩
                  rw [List.length_map, List.length_map]
                  have lz := congrArg List.length hz
                  rw [List.length_append, List.length_append, flat_more (lnP n (mrg wide) s) mz, pj, List.length_cons, List.length_append] at lz
                  try simp only [List.length_append, List.length_singleton] at lz ⊢
                  omega
                · have j1 : ¬ j = 1 := fun e => by
                    rw [e] at hb
                    exact absurd hb (by decide)
                  have pj : lnP n (mrg wide) s (.tuple ds, j) = lns n (mrg wide ++ step) ds := by
                    unfold lnP
                    rw [if_neg j1]
                    rfl
                  rw [pj] at ltj
                  have hz : gs ++ lns n (mrg wide ++ step) ds = zs ++ (mrg wide ++ Txt.join blank (firstW (wordS s) :: strsD s)) :: ((parts s).zipIdx.take (j + 1)).flatMap (lnP n (mrg wide) s) := by
                    rw [flat_more (lnP n (mrg wide) s) mz, pj, k8]
                    simp only [List.append_assoc, List.cons_append]
                  have L8 := e7 _ _ k3
                  have S8 := e7 _ _ k4
                  have Q8 := e7 _ _ k5
                  have D8 := dpMs e7 _ _ k7
                  have B8 := dpM e7 _ _ (.tup hpb hpvs)
                  have E8 := k2.trans e7
                  try dsimp only [gName, List.set]
                  refine ⟨.ref G, rfl, .ref D, rfl, .int (0 + (j : Nat)), rfl, D, vs', _, .ref pb, rfl, rfl, sq_of Q8, (by rw [j0]; exact atI_nat hix), .int (wide : Nat), rfl, (wide : Nat), 2, rfl, rfl, pb, wide + 2, ds, m', cs, rs, os, (by rw [show (((wide + 2 : Nat)) : Int) = (wide : Int) + 2 by omega]; rfl), B8, tds, hLB2, c2, hl12, ⟨by omega, by omega⟩, fun q2 H9 hq2 e9 h9 => ?_⟩
                  rw [ms] at h9
                  refine ⟨G, q2, (gs).map V.str, (lns n (mrg wide ++ step) ds).map V.str, rfl, rfl, e9 _ _ L8, h9, fits ?_, fun G2 hG2 => ⟨G2, gs ++ lns n (mrg wide ++ step) ds, _, rfl, fresh_back (E8.trans e9) hG2, (E8.trans e9).trans (Ex.new hG2), by rw [upd_same, ← List.map_append], Ex.new hG2 _ _ (e9 _ _ S8), ⟨Ex.new hG2 _ _ (e9 _ _ Q8), ne_of_none (e9 _ _ Q8) hG2, dpMs (e9.trans (Ex.new hG2)) _ _ D8⟩, hz⟩⟩
                  rw [List.length_map, List.length_map]
                  have lz := congrArg List.length hz
                  rw [List.length_append, List.length_append, flat_more (lnP n (mrg wide) s) mz, pj, List.length_cons, List.length_append] at lz
                  try simp only [List.length_append, List.length_singleton] at lz ⊢
                  omega
            · obtain ⟨G, gs, v9', rfl, k1, k2, k3, k4, k5, k8⟩ := hJ
              refine ⟨G, gs, _, _, _, _, _, _, rfl, k1, k2, k3, k4, ?_⟩
              rw [k8, flat_more (lnS n (mrg wide)) hs, f4, show (parts s).zipIdx.take (((vs'.length : Nat) : Int).toNat) = (parts s).zipIdx from List.take_of_length_le (by rw [List.length_zipIdx]; omega)]
              rfl
      · obtain ⟨F, zs, v4, v5, v6, v7, v8, v9, rfl, f0, f1, f2, f3, f4⟩ := hI
        rw [List.take_of_length_le (by omega)] at f4
        exact ⟨.ref F, rfl, kk F H' f0 f1 (by rw [f2, f4]; rfl)⟩

end
end K05
set_option Elab.async false
set_option linter.all false
set_option maxRecDepth 100000
set_option maxHeartbeats 8000000
namespace K05
open PySem PySem.Spec PyProof.Rows L2 He XH XV XR PEN TR Evl


theorem join_one (a x : Str) : Txt.join a [x] = x := by
  refine str_ext ?_
  have z : TL.tl (Txt.join a [x]) = TL.joinL (TL.tl a) ([x].map TL.tl) := by
    rw [TL.join_eq, TL.tl_join]
  exact z
theorem join_two (a x y : Str) : Txt.join a [x, y] = x ++ a ++ y := by
  refine str_ext ?_
  have z : TL.tl (Txt.join a [x, y]) = TL.joinL (TL.tl a) ([x, y].map TL.tl) := by
    rw [TL.join_eq, TL.tl_join]
  rw [app_codes, app_codes, List.append_assoc]
  exact z
theorem headL_one (y : Str) : y ++ (":" : Str) = headL y [] := (join_one _ _).symm
theorem headL_start (st : Str) : ("start: " : Str) ++ st = headL "start" [st] := by
  show _ = Txt.join blank [("start" : Str) ++ (":" : Str), st]
  rw [join_two]
  have e : ("start" : Str) ++ (":" : Str) ++ blank = ("start: " : Str) := by decide +kernel
  rw [e]
theorem mrg2 : mrg 2 = step := by decide +kernel
theorem txt_each {cs rs os : List Str} {st : Str} {bds : List (List PyData)} (hN : Names cs rs os st) (hB : ∀ ss ∈ bds, BodV cs rs os ss) : ∀ z ∈ txt cs rs os st bds, z.length ≤ 80 := by
  have l12 := hN.l12
  have z := hN.sz
  have lst : st.length ≤ 12 := l12 st (List.mem_append_right _ hN.st)
  have lc : ∀ z ∈ cs, z.length ≤ 12 := fun z hz => l12 z (List.mem_append_left _ (List.mem_append_left _ hz))
  have lr : ∀ z ∈ rs, z.length ≤ 12 := fun z hz => l12 z (List.mem_append_left _ (List.mem_append_right _ hz))
  have lo : ∀ z ∈ os, z.length ≤ 12 := fun z hz => l12 z (List.mem_append_right _ hz)
  have w1 : (("cells" : Str)).length ≤ 12 := by decide +kernel
  have w2 : (("rows" : Str)).length ≤ 12 := by decide +kernel
  have w3 : (("start" : Str)).length ≤ 12 := by decide +kernel
  intro z hz
  rcases List.mem_append.mp hz with hz | hz
  · simp only [List.mem_cons, List.not_mem_nil, or_false] at hz
    rcases hz with e | e | e
    · rw [e]
      exact Nat.le_trans (headL_len w1 lc (by omega)) (by decide)
    · rw [e]
      exact Nat.le_trans (headL_len w2 lr (by omega)) (by decide)
    · rw [e]
      exact Nat.le_trans (headL_len w3 (fun z hz => by rw [List.mem_singleton.mp hz]; omega) (by simp)) (by decide)
  · obtain ⟨p, hp, hz⟩ := List.mem_flatMap.mp hz
    obtain ⟨p1, p2⟩ := p
    have m1 := (List.of_mem_zip hp).1
    have m2 := (List.of_mem_zip hp).2
    rcases List.mem_cons.mp hz with e | hz
    · rw [e]
      exact Nat.le_trans (headL_len (lo _ m1) (fun z hz => nomatch hz) (by simp)) (by decide)
    · obtain ⟨_, hL, hc⟩ := bodv_all (hB _ m2)
      have k := lns_each l12 hL z hz
      have lst2 : step.length = 2 := by decide +kernel
      omega
theorem txt_few {cs rs os : List Str} {st : Str} {bds : List (List PyData)} (hN : Names cs rs os st) (hB : ∀ ss ∈ bds, BodV cs rs os ss) : 3 + ((os.zip bds).flatMap fnL).length ≤ 100 := by
  have z := hN.sz
  have k := sum_le (l := os.zip bds) (f := fun p => (headL p.1 [] :: lns 4 step p.2).length) (b := 29) fun p hp => by
    obtain ⟨p1, p2⟩ := p
    obtain ⟨_, hL, hc⟩ := bodv_all (hB _ (List.of_mem_zip hp).2)
    have k := lns_len (mg := step) hL
    show (_ :: lns 4 step p2).length ≤ 29
    rw [List.length_cons]
    omega
  have k2 : (os.zip bds).length ≤ 3 := by
    rw [List.length_zip]
    omega
  have k3 : (os.zip bds).length * 29 ≤ 3 * 29 := Nat.mul_le_mul_right _ k2
  rw [List.length_flatMap]
  have k4 : ((os.zip bds).map fun p => (fnL p).length).sum = ((os.zip bds).map fun p => (headL p.1 [] :: lns 4 step p.2).length).sum := rfl
  rw [k4]
  omega
def spTx (K : PySem.W.Frag) : Sp := fun vs H Q _ => ∃ pl cs rs os st bds, vs = [.ref pl] ∧ PlF K H pl cs rs os st bds ∧ Names cs rs os st ∧ (∀ ss ∈ bds, BodV cs rs os ss) ∧ ∀ q H', H q = none → Ex H H' → H' q = some (.lst ((txt cs rs os st bds).map V.str)) → Q (.ref q) H'
def spLaw (K : PySem.W.Frag) : Sp := fun vs H Q _ => ∃ (a : Addr) (ns : List Int), vs = [.ref a] ∧ SqL K H a (ns.map V.int) ∧ ns.length ≤ 63 ∧ ∀ H', Q (.bl true) H'

section
variable {P : Program} {w : World} {K : PySem.W.Frag} {mg : Str → Option Value} {base : Heap}

theorem ok_law_text {fd : FuncData} {k : Nat} (F : FnP K "_law_text" "_law_text" s_law_text (ga K "_law_text") fd) (T : Tx K w mg) (c_law_lines : Cl P w K mg base CX0 k (ga K "_law_lines") ["_law_body", "_law_wide"] (spLL K 4)) : FnOk P w K mg base CX0 (k + 1) (ga K "_law_text") fd ["_law_plan_here"] (spTx K) := by
  obtain ⟨fd_law_lines, G_law_lines, b_law_lines, kp_law_lines⟩ := c_law_lines
  refine FunD.ok F sc_law_text (fun vs H Q E h => ?_) (fun cdv A outer s H vs Q E hr h => ?_)
  · obtain ⟨pl, cs, rs, os, st, bds, rfl, _⟩ := h
    rfl
  · obtain ⟨pl, cs, rs, os, st, bds, rfl, hF, hN, hB, kk⟩ := h
    have g_law_lines := T.gl "_law_lines" (by decide +kernel)
    refine ⟨_, PSs.nox (pss_cons (ps_set (i := 1) sc_law_text.nd rfl (Or.inl rfl) (pe_lst (pa_cons (pe_join pe_str (pe_op op_cat (pe_lst (pa_cons pe_str pa_nil)) (pe_dget (Nat.lt_of_le_of_lt (Nat.add_le_add_left (by decide) _) hr.units) (pv 0) pe_str (fun _ _ => rfl)))) (pa_cons (pe_join pe_str (pe_op op_cat (pe_lst (pa_cons pe_str pa_nil)) (pe_dget (Nat.lt_of_le_of_lt (Nat.add_le_add_left (by decide) _) hr.units) (pv 0) pe_str (fun _ _ => rfl)))) (pa_cons (pe_op op_add_str pe_str (pe_dget (Nat.lt_of_le_of_lt (Nat.add_le_add_left (by decide) _) hr.units) (pv 0) pe_str (fun _ _ => rfl))) pa_nil)))))
      (pss_cons (ps_for PassesOwn.never rfl (pi_list (pe_dget (Nat.lt_of_le_of_lt (Nat.add_le_add_left (by decide) _) hr.units) (pv 0) pe_str (fun _ _ => rfl))) (pg_name (i := 2) sc_law_text.nd rfl (Or.inl rfl))
      (pss_one (ps_set (i := 1) sc_law_text.nd rfl (Or.inl rfl) (pe_op op_cat (pe_op op_cat (pv 1) (pe_lst (pa_cons (pe_op op_add_str (pv 2) pe_str) pa_nil))) (pe_call G_law_lines (hr.mono (by omega)) (by rfl) g_law_lines kp_law_lines b_law_lines .nil pass0 (pa_cons (pe_dget (Nat.lt_of_le_of_lt (Nat.add_le_add_left (by decide) _) hr.units) (pe_dget (Nat.lt_of_le_of_lt (Nat.add_le_add_left (by decide) _) hr.units) (pv 0) pe_str (fun _ _ => rfl)) (pv 2) (fun _ _ => rfl)) (pa_cons pe_int pa_nil)))))))
      (pss_one (ps_ret (pv 1))))), ?_⟩
    obtain ⟨kvs, c, r, o, bd, bk, k1, k2, k3, k4, k5, k6, k7, k8, k9, k10, k11, k12⟩ := id hF
    have l12 := hN.l12
    have z := hN.sz
    have lc : ∀ z ∈ cs, z.length ≤ 12 := fun z hz => l12 z (List.mem_append_left _ (List.mem_append_left _ hz))
    have lr : ∀ z ∈ rs, z.length ≤ 12 := fun z hz => l12 z (List.mem_append_left _ (List.mem_append_right _ hz))
    have lo : ∀ z ∈ os, z.length ≤ 12 := fun z hz => l12 z (List.mem_append_right _ hz)
    have lst : st.length ≤ 12 := lo st hN.st
    have few := txt_few hN hB
    have sc := sum_lens lc
    have sr := sum_lens lr
    have b1 : (blank).length = 1 := by decide +kernel
    have b2 : (("cells:" : Str)).length = 6 := by decide +kernel
    have b3 : (("rows:" : Str)).length = 5 := by decide +kernel
    have b4 : (("start: " : Str)).length = 7 := by decide +kernel
    have b5 : ((":" : Str)).length = 1 := by decide +kernel
    refine ⟨⟨_, rfl⟩, (show 1 ≤ sizeLine by decide), fun l1 hl1 => ?_⟩
    have e1 := Ex.new (o := .lst [.str "cells:"]) hl1
    refine ⟨.ref pl, rfl, pl, .ref c, rfl, .inl ⟨kvs, Sum.inr "cells", .inl (e1 _ _ k1), rfl, k2.symm⟩, l1, c, _, _, rfl, rfl, upd_same, e1 _ _ k7, fits (by show 1 + (cs.map V.str).length ≤ 1000; rw [List.length_map]; omega), fun p1 hp1 => ?_⟩
    have e2 := e1.trans (Ex.new (o := .lst ([.str "cells:"] ++ cs.map V.str)) hp1)
    refine ⟨blank, p1, ("cells:" : Str) :: cs, rfl, rfl, .inl (sq_of upd_same), by rw [List.map_cons, List.sum_cons, List.length_cons, b1, b2]; omega, ?_⟩
    refine ⟨⟨_, rfl⟩, (show 1 ≤ sizeLine by decide), fun l2 hl2 => ?_⟩
    have e3 := e2.trans (Ex.new (o := .lst [.str "rows:"]) hl2)
    refine ⟨.ref pl, rfl, pl, .ref r, rfl, .inl ⟨kvs, Sum.inr "rows", .inl (e3 _ _ k1), rfl, k3.symm⟩, l2, r, _, _, rfl, rfl, upd_same, e3 _ _ k8, fits (by show 1 + (rs.map V.str).length ≤ 1000; rw [List.length_map]; omega), fun p2 hp2 => ?_⟩
    have e4 := e3.trans (Ex.new (o := .lst ([.str "rows:"] ++ rs.map V.str)) hp2)
    refine ⟨blank, p2, ("rows:" : Str) :: rs, rfl, rfl, .inl (sq_of upd_same), by rw [List.map_cons, List.sum_cons, List.length_cons, b1, b3]; omega, ?_⟩
    refine ⟨.ref pl, rfl, pl, .str st, rfl, .inl ⟨kvs, Sum.inr "start", .inl (e4 _ _ k1), rfl, k5.symm⟩, ("start: " : Str), st, rfl, rfl, fits (by omega), (show 3 ≤ sizeLine by decide), fun F hF0 => ?_⟩
    have hc1 : Txt.join blank (("cells:" : Str) :: cs) = headL "cells" cs := rfl
    have hc2 : Txt.join blank (("rows:" : Str) :: rs) = headL "rows" rs := rfl
    have hF0' := hF0
    dsimp only [gName, List.set]
    have gF : ∀ HX : Hp, upd HX F (.lst [.str (Txt.join blank (("cells:" : Str) :: cs)), .str (Txt.join blank (("rows:" : Str) :: rs)), .str (("start: " : Str) ++ st)]) F = some (.lst ([headL "cells" cs, headL "rows" rs, headL "start" [st]].map V.str)) := fun HX => by
      rw [upd_same, headL_start, hc1, hc2]
      rfl
    have e5 := e4.trans (Ex.new (o := .lst [.str (Txt.join blank (("cells:" : Str) :: cs)), .str (Txt.join blank (("rows:" : Str) :: rs)), .str (("start: " : Str) ++ st)]) hF0)
    refine ⟨.ref pl, rfl, pl, .ref o, rfl, .inl ⟨kvs, Sum.inr "order", .inl (e5 _ _ k1), rfl, k4.symm⟩, o, rfl, ⟨_, sq_of (e5 _ _ k9)⟩, ?_⟩
    refine for_list (xs := os.map V.str) (fun i σ' H' => ∃ G zs v2, σ' = [some (.ref pl), some (.ref G), v2] ∧ H G = none ∧ Ex H H' ∧ H' G = some (.lst (zs.map V.str)) ∧ zs = [headL "cells" cs, headL "rows" rs, headL "start" [st]] ++ ((os.zip bds).take i).flatMap fnL)
      ⟨F, [headL "cells" cs, headL "rows" rs, headL "start" [st]], _, rfl, fresh_back e4 hF0, e5, gF _, rfl⟩ (fun i σ' H' _ hI => ?_) (fun i x σ' H' hx hI => ?_) (fun σ' H' hI => ?_)
    · obtain ⟨G, zs, v2, rfl, f0, f1, f2, f3⟩ := hI
      exact sq_of (f1 _ _ k9)
    · obtain ⟨G, zs, v2, rfl, f0, f1, f2, f3⟩ := hI
      rw [List.getElem?_map] at hx
      cases w1 : os[i]? with
      | none =>
        rw [w1] at hx
        cases hx
      | some y =>
        rw [w1] at hx
        cases hx
        have hi := (List.getElem?_eq_some_iff.mp w1).1
        have w2 : bds[i]? = some (bds[i]'(by rw [k11]; exact hi)) := List.getElem?_eq_getElem _
        generalize bds[i]'(by rw [k11]; exact hi) = ss at w2
        obtain ⟨ba, hba, dba⟩ := k12.1 i y ss w1 w2
        have mz : (os.zip bds)[i]? = some (y, ss) := by
          rw [List.getElem?_zip_eq_some]
          exact ⟨w1, w2⟩
        obtain ⟨⟨m, hts⟩, hL, hc⟩ := bodv_all (hB ss (List.mem_of_getElem? w2))
        have ly := lo y (List.mem_of_getElem? w1)
        have lt := flat_le fnL (os.zip bds) (i + 1)
        rw [flat_more fnL mz, List.length_append] at lt
        have lfn : (fnL (y, ss)).length = 1 + (lns 4 step ss).length := by
          show (_ :: lns 4 step ss).length = _
          rw [List.length_cons]
          omega
        have lzs : zs.length = 3 + (((os.zip bds).take i).flatMap fnL).length := by
          rw [f3, List.length_append]
          rfl
        dsimp only [gName, List.set]
        refine ⟨.ref G, rfl, .str y, rfl, y, (":" : Str), rfl, rfl, fits (by omega), (show 1 ≤ sizeLine by decide), fun q1 hq1 => ?_⟩
        have e6 := Ex.new (o := .lst [.str (y ++ (":" : Str))]) hq1
        refine ⟨G, q1, zs.map V.str, [.str (y ++ (":" : Str))], rfl, rfl, e6 _ _ f2, upd_same, fits (by rw [List.length_map]; show zs.length + 1 ≤ 1000; omega), fun q2 hq2 => ?_⟩
        have e7 := e6.trans (Ex.new (o := .lst (zs.map V.str ++ [.str (y ++ (":" : Str))])) hq2)
        have fe := f1.trans e7
        refine ⟨.ref pl, rfl, pl, .ref bd, rfl, .inl ⟨kvs, Sum.inr "bodies", .inl (fe _ _ k1), rfl, k6.symm⟩, .str y, rfl, bd, .ref ba, rfl, .inl ⟨bk, Sum.inr y, .inl (fe _ _ k10), rfl, hba.symm⟩, ba, 2, ss, m, cs, rs, os, rfl, dpM fe _ _ dba, hts, hL, hc, l12, ⟨by decide, by decide⟩, fun q3 H9 hq3 e9 h9 => ?_⟩
        rw [mrg2] at h9
        refine ⟨q2, q3, _, _, rfl, rfl, e9 _ _ upd_same, h9, fits ?_, fun G2 hG2 => ⟨G2, zs ++ [y ++ (":" : Str)] ++ lns 4 step ss, _, rfl, fresh_back (fe.trans e9) hG2, (fe.trans e9).trans (Ex.new hG2), ?_, ?_⟩⟩
        · rw [List.length_append, List.length_map, List.length_map]
          show zs.length + 1 + (lns 4 step ss).length ≤ 1000
          omega
        · rw [upd_same, List.map_append, List.map_append]
          rfl
        · rw [flat_more fnL mz, f3, headL_one, List.append_assoc, List.append_assoc]
          rfl
    · obtain ⟨G, zs, v2, rfl, f0, f1, f2, f3⟩ := hI
      have lf : (os.zip bds).length = os.length := by
        rw [List.length_zip, k11, Nat.min_self]
      rw [List.length_map, List.take_of_length_le (by omega)] at f3
      exact ⟨.ref G, rfl, kk G H' f0 f1 (by rw [f2, f3]; rfl)⟩

end
end K05
set_option Elab.async false
set_option linter.all false
set_option maxRecDepth 100000
set_option maxHeartbeats 8000000
namespace K05
open PySem PySem.Spec PyProof.Rows L2 He XH XV XR PEN TR Evl


/-! ### a text cut again -/
theorem blank_tl : TL.tl blank = [32] := by decide +kernel
theorem nl_tl : TL.tl nl = [10] := by decide +kernel
theorem step_tl : TL.tl step = [32, 32] := by decide +kernel
theorem split_blank {zs : List Str} (hne : zs ≠ []) (h : ∀ z ∈ zs, 32 ∉ TL.tl z) : Txt.split (Txt.join blank zs) blank = zs := TL.split_join blank_tl (by decide +kernel) hne h
theorem split_nl {zs : List Str} (hne : zs ≠ []) (h : ∀ z ∈ zs, 10 ∉ TL.tl z) : Txt.split (Txt.join nl zs) nl = zs := TL.split_join nl_tl (by decide +kernel) hne h
theorem starts_eq (l m : Str) : Txt.startswith l m = ((TL.tl l).take m.length == TL.tl m) := by
  unfold Txt.startswith
  rw [PySem.StrLaws.subAt_eq, List.drop_zero]
  show (decide (0 + m.length ≤ l.length) && ((TL.tl l).take m.length == TL.tl m)) = _
  cases h : ((TL.tl l).take m.length == TL.tl m) with
  | false => rw [Bool.and_false]
  | true =>
    have e := eq_of_beq h
    have k := congrArg List.length e
    rw [List.length_take] at k
    have l1 := TL.len_tl l
    have l2 := TL.len_tl m
    rw [decide_eq_true (by omega)]
    rfl
theorem starts_app (a x : Str) : Txt.startswith (a ++ x) a = true := by
  rw [starts_eq, TL.tl_append, TL.len_tl a, List.take_left]
  exact beq_self_eq_true _
/-- a margin -/
def mgn : Nat → Str
  | 0 => ""
  | n + 1 => mgn n ++ step
theorem mgn_tl : ∀ n : Nat, TL.tl (mgn n) = List.replicate (2 * n) 32
  | 0 => by decide +kernel
  | n + 1 => by
    show TL.tl (mgn n ++ step) = _
    rw [TL.tl_append, mgn_tl n, step_tl, show 2 * (n + 1) = 2 * n + 2 by omega, ← List.replicate_append_replicate]
    rfl
theorem mgn_len (n : Nat) : (mgn n).length = 2 * n := by
  rw [TL.len_tl, mgn_tl, List.length_replicate]
theorem mgn_one : mgn 1 = step := by decide +kernel
/-- no blank at the head -/
def NoB (x : Str) : Prop := ∀ c, (TL.tl x)[0]? = some c → c ≠ 32
theorem starts_gt {d e : Nat} {x : Str} (h : d < e) (hx : NoB x) : Txt.startswith (mgn d ++ x) (mgn e) = false := by
  rw [starts_eq, TL.tl_append, mgn_tl, mgn_tl, mgn_len]
  refine beq_eq_false_iff_ne.mpr fun q => ?_
  have k := congrArg (fun l => l[2 * d]?) q
  try simp only at k
  rw [List.getElem?_take, if_pos (by omega), List.getElem?_append_right (by rw [List.length_replicate]; exact Nat.le_refl _), List.length_replicate, Nat.sub_self, List.getElem?_replicate, if_pos (by omega)] at k
  exact hx 32 k rfl
theorem cut_app (a x : Str) : cutS (a ++ x) (some ((a.length : Nat) : Int)) none = x := by
  refine TL.ext_tl ?_
  unfold cutS
  rw [HT.sIx_nat, HT.sIx_none, TL.tl_mk, app_len]
  show ((TL.tl (a ++ x)).drop _).take _ = _
  have m : min a.length (a.length + x.length) = a.length := by omega
  rw [m, TL.tl_append]
  have l1 := TL.len_tl a
  have l2 := TL.len_tl x
  rw [l1, List.drop_left]
  exact List.take_of_length_le (by omega)
theorem cut_last (a : Str) (c : Str) (hc : c.length = 1) : cutS (a ++ c) none (some (-1)) = a := by
  refine TL.ext_tl ?_
  have l1 := TL.len_tl a
  have e1 : HT.sIx (a ++ c).length 0 none = 0 := by rw [HT.sIx_none]
  have e2 : HT.sIx (a ++ c).length (a ++ c).length (some (-1)) = a.length := by
    rw [app_len, hc]
    simp [HT.sIx]
    omega
  unfold cutS
  rw [e1, e2, TL.tl_mk]
  show ((TL.tl (a ++ c)).drop 0).take (a.length - 0) = _
  rw [List.drop_zero, Nat.sub_zero, TL.tl_append, l1, List.take_left]
theorem ends_app (a c : Str) : Txt.endswith (a ++ c) c = true := by
  unfold Txt.endswith
  rw [PySem.StrLaws.subAt_eq, app_len]
  show (decide (0 + c.length ≤ a.length + c.length) && (((TL.tl (a ++ c)).drop (a.length + c.length - c.length)).take c.length == TL.tl c)) = true
  have l1 := TL.len_tl a
  have l2 := TL.len_tl c
  rw [decide_eq_true (by omega), Nat.add_sub_cancel, TL.tl_append, l1, List.drop_left, l2, List.take_length]
  exact beq_self_eq_true _
/-! ### what is in a line -/
theorem words_let : ∀ p ∈ ENT, (TL.tl p.1).all (fun c => decide (97 ≤ c) && decide (c ≤ 122)) = true := by decide +kernel
theorem let_of {z : Str} (h : (TL.tl z).all (fun c => decide (97 ≤ c) && decide (c ≤ 122)) = true) : Let z := fun c hc => by
  have k := List.all_eq_true.mp h c hc
  rw [Bool.and_eq_true] at k
  exact ⟨of_decide_eq_true k.1, of_decide_eq_true k.2⟩
theorem ent_let {p : Str × List Str} (h : p ∈ ENT) : Let p.1 := let_of (words_let p h)
theorem let_free {z : Str} (h : Let z) {c : Nat} (hc : c < 97) : c ∉ TL.tl z := fun hm => by
  have k := h c hm
  omega
theorem let_nob {z : Str} (h : Let z) : NoB z := fun c hc e => by
  have k := h c (List.mem_of_getElem? hc)
  omega
theorem let_first {w : Str} (h : Let w) : Let (firstW w) := by
  unfold firstW
  split
  · exact let_of (by decide +kernel)
  · exact h
theorem join_cons (z : Str) (zs : List Str) : ∃ y : Str, Txt.join blank (z :: zs) = z ++ y := by
  match zs with
  | [] =>
    refine ⟨"", TL.ext_tl ?_⟩
    rw [TL.join_eq, TL.tl_join, TL.tl_append]
    show TL.tl z = TL.tl z ++ []
    rw [List.append_nil]
  | q :: r =>
    refine ⟨blank ++ Str.join blank (q :: r), TL.ext_tl ?_⟩
    rw [TL.join_eq, TL.tl_join, TL.tl_append, TL.tl_append, TL.tl_join]
    rfl
theorem nob_app {z y : Str} (h : NoB z) (hl : 1 ≤ z.length) : NoB (z ++ y) := fun c hc => by
  have l1 := TL.len_tl z
  rw [TL.tl_append, List.getElem?_append_left (by omega)] at hc
  exact h c hc
def LetS (zs : List Str) : Prop := ∀ z ∈ zs, Let z ∧ 1 ≤ z.length ∧ z.length ≤ 12
theorem good_of {z : Str} (h : Let z ∧ 1 ≤ z.length ∧ z.length ≤ 12) : goodN z = true := by
  unfold goodN
  rw [decide_eq_true h.2.1, decide_eq_true h.2.2, Bool.true_and, Bool.true_and]
  refine List.all_eq_true.mpr fun c hc => ?_
  have k := h.1 c hc
  have z : ∀ i : Fin 26, decide (97 + i.1 ∈ alphabet.cps.toList) = true := by decide +kernel
  have e := z ⟨c - 97, by omega⟩
  rw [show 97 + (c - 97) = c by omega] at e
  exact e

end K05
set_option Elab.async false
set_option linter.all false
set_option maxRecDepth 100000
set_option maxHeartbeats 8000000
namespace K05
open PySem PySem.Spec PyProof.Rows L2 He XH XV XR PEN TR Evl


structure Td (K : PySem.W.Frag) (w : World) (mg : Str → Option Value) : Prop extends Te K w mg where
  fj : ∀ x ∈ [("cell" : Str), "row", "function"], PySem.W.nsIn K (ga K "FIXED_WORDS") x = some none
  ed : ∀ p ∈ ENT, ∃ a, PySem.W.nsIn K (ga K "ENTRIES") p.1 = some (some (.ref a)) ∧ (∀ H, SqT K H a (p.2.map V.str)) ∧ ∃ o, K.lookup a = some o ∧ o.cls = .type "tuple" ∧ o.dict = none
def spLine (K : PySem.W.Frag) : Sp := fun vs H Q _ => ∃ (L : Addr) (ls : List Str) (i : Nat), vs = [.ref L, .int (i : Nat)] ∧ H L = some (.lst (ls.map V.str)) ∧ ∀ H', Ex H H' → Q (.str (ls.getD i "")) H'
def spWordOf : Sp := fun vs H Q _ => ∃ w, vs = [.str (firstW w)] ∧ w ∈ words ∧ ∀ H', Ex H H' → Q (.str w) H'
def spReads : Sp := fun vs H Q _ => ∃ z k, vs = [.str z, .str k] ∧ z.length ≤ 1000 ∧ ((k = "how" ∧ z ∈ [("copy" : Str), "view"]) ∨ (k = "end" ∧ z ∈ [("found" : Str), "none"]) ∨ (k ∈ [("cell" : Str), "row", "function"] ∧ goodN z = true)) ∧ ∀ H', Ex H H' → Q (.bl true) H'
theorem first_not : ∀ w ∈ words, firstW w ≠ "lastly" := by decide +kernel
theorem first_do : ∀ w ∈ words, (firstW w = "do" → w = "lastly") ∧ (firstW w ≠ "do" → firstW w = w) := by decide +kernel
theorem rv_kd {K : PySem.W.Frag} {d : Addr} {H : Hp} {z : Str} {r : Option Value} (h : PySem.W.nsIn K d z = some r) : RV (fun x y H Q => ∃ (z : Str) (r : Option Value), x = .str z ∧ y = .ref d ∧ PySem.W.nsIn K d z = some r ∧ Q (.bl r.isSome) H) (.str z) (.ref d) H (.bl r.isSome) := fun H1 _ Q q => ⟨z, r, rfl, rfl, h, q H1 (Ex.refl _)⟩
theorem rv_nkd {K : PySem.W.Frag} {d : Addr} {H : Hp} {z : Str} {r : Option Value} (h : PySem.W.nsIn K d z = some r) : RV (fun x y H Q => ∃ (z : Str) (r : Option Value), x = .str z ∧ y = .ref d ∧ PySem.W.nsIn K d z = some r ∧ Q (.bl (!r.isSome)) H) (.str z) (.ref d) H (.bl (!r.isSome)) := fun H1 _ Q q => ⟨z, r, rfl, rfl, h, q H1 (Ex.refl _)⟩
theorem rv_kix {K : PySem.W.Frag} {w : World} {d a : Addr} {H : Hp} {z : Str} {es : List (Str × Option Value)} {n : Nat} (D : True) (h : KDct K w d z (.ref a)) : RV (rIxD K w) (.ref d) (.str z) H (.ref a) := fun H1 _ Q q => ⟨d, z, .ref a, rfl, rfl, h, q H1 (Ex.refl _)⟩

section
variable {P : Program} {w : World} {K : PySem.W.Frag} {mg : Str → Option Value} {base : Heap}

theorem ok_line_at {fd : FuncData} (F : FnP K "line_at" "line_at" s_line_at (ga K "line_at") fd) (T : Tx K w mg) : FnOk P w K mg base CX0 (0 + 1) (ga K "line_at") fd ["lines", "at"] (spLine K) := by
  refine FunD.ok F sc_line_at (fun vs H Q E h => ?_) (fun cdv A outer s H vs Q E hr h => ?_)
  · obtain ⟨l, ls, i, rfl, _⟩ := h
    rfl
  · obtain ⟨l, ls, i, rfl, hl, kk⟩ := h
    have n_len := T.fr "len" (by decide +kernel)
    refine ⟨_, PSs.nox (pss_one (ps_ret (pe_ifExp (pt_cmpR op_lt (pv 1) (pe_callB call_len_seq (by rfl) n_len (by decide +kernel) (pa_cons (pv 0) pa_nil)) (nomark _)) (pe_ix ix_list (pv 0) (pv 1) (fun _ _ => rfl)) pe_str))), ?_⟩
    refine s_ret (v := .str (ls.getD i "")) (ev_if (b := decide ((i : Int) < ((ls.map V.str).length : Nat))) (et_test (ev_op (ev_var rfl) (ev_len (K := K) (ev_var rfl) (sq_of hl)) rv_I0)) (fun hb => ?_) (fun hb => ?_)) fun H1 e1 => kk H1 e1
    · have h := of_decide_eq_true hb
      rw [List.length_map] at h
      have hi : i < ls.length := by omega
      have e : ls[i]? = some (ls.getD i "") := by
        rw [List.getD_eq_getElem?_getD, List.getElem?_eq_getElem hi]
        rfl
      exact ev_op (ev_var rfl) (ev_var rfl) (rv_ixL (sq_of hl) (atI_nat (by rw [List.getElem?_map, e]; rfl)))
    · have h := of_decide_eq_false hb
      rw [List.length_map] at h
      rw [List.getD_eq_getElem?_getD, List.getElem?_eq_none (by omega)]
      exact ev_c

theorem ok_word_of {fd : FuncData} (F : FnP K "word_of" "word_of" s_word_of (ga K "word_of") fd) (T : Tx K w mg) : FnOk P w K mg base CX0 (0 + 1) (ga K "word_of") fd ["first"] spWordOf := by
  refine FunD.ok F sc_word_of (fun vs H Q E h => ?_) (fun cdv A outer s H vs Q E hr h => ?_)
  · obtain ⟨w, rfl, _⟩ := h
    rfl
  · obtain ⟨wd, rfl, hw, kk⟩ := h
    refine ⟨_, PSs.nox (pss_cons (ps_if (pt_cmpR op_eq (pv 0) pe_str (nomark _))
      (pss_one (ps_ret pe_str))
      pss_nil)
      (pss_one (ps_ret (pe_ifExp (pt_cmpR op_eq (pv 0) pe_str (nomark _)) pe_str (pv 0))))), ?_⟩
    refine q_when (b := decide (firstW wd = "lastly")) (et_test (ev_op (ev_var rfl) ev_c rv_eqS)) (fun hb => absurd (of_decide_eq_true hb) (first_not wd hw)) (fun _ H1 e1 => ?_)
    obtain ⟨h1, h2⟩ := first_do wd hw
    refine s_ret (v := .str wd) (ev_if (b := decide (firstW wd = "do")) (et_test (ev_op (ev_var rfl) ev_c rv_eqS)) (fun hb => ?_) (fun hb => ?_)) fun H2 e2 => kk H2 (e1.trans e2)
    · rw [h1 (of_decide_eq_true hb)]
      exact ev_c
    · exact ev_is (ev_var rfl) (by rw [h2 (of_decide_eq_false hb)])

theorem ok_reads_as {fd : FuncData} (F : FnP K "reads_as" "reads_as" s_reads_as (ga K "reads_as") fd) (T : Td K w mg) (c_is_name : Cl P w K mg base CX0 1 (ga K "is_name") ["word"] spIsName) : FnOk P w K mg base CX0 (1 + 1) (ga K "reads_as") fd ["entry", "kind"] spReads := by
  obtain ⟨fd_is_name, G_is_name, b_is_name, kp_is_name⟩ := c_is_name
  refine FunD.ok F sc_reads_as (fun vs H Q E h => ?_) (fun cdv A outer s H vs Q E hr h => ?_)
  · obtain ⟨z, k, rfl, _⟩ := h
    rfl
  · obtain ⟨z, k, rfl, hz, hk, kk⟩ := h
    have g_FIXED_WORDS := T.gl "FIXED_WORDS" (by decide +kernel)
    have g_is_name := T.gl "is_name" (by decide +kernel)
    obtain ⟨es, n, fa, fb, DF, ⟨fh1, fh2⟩, fe1, fe2⟩ := T.fx
    refine ⟨_, PSs.nox (pss_cons (ps_if (pt_cmpR (op_in_kd DF) (pv 1) (pe_glob (v := .ref _) (by rfl) g_FIXED_WORDS rfl) (by rfl))
      (pss_one (ps_ret (pe_cmpR (op_in_seq : OpR _ _ (rIn K false)) (pv 0) (pe_ix ix_kdict (pe_glob (v := .ref _) (by rfl) g_FIXED_WORDS rfl) (pv 1) (fun _ _ => rfl)) (by rfl))))
      pss_nil)
      (pss_one (ps_ret (pe_call G_is_name (hr.mono (by decide)) (by rfl) g_is_name kp_is_name b_is_name .nil pass0 (pa_cons (pv 0) pa_nil))))), ?_⟩
    have DF2 := DF
    rcases hk with ⟨rfl, hz2⟩ | ⟨rfl, hz2⟩ | ⟨hk, hg⟩
    · refine q_when (b := true) (et_is (et_test (ev_op (ev_var rfl) ev_c (rv_kd fh1))) rfl) (fun _ H1 e1 => ?_) (fun h => nomatch h)
      refine s_ret (v := .bl true) (ev_is (ev_op (ev_var rfl) (ev_op (z := .ref fa) ev_c (ev_var rfl) (fun H2 _ Q q => ⟨_, "how", .ref fa, rfl, rfl, ⟨es, n, _, DF2.at_, DF2.lit, fh1, rfl⟩, q H2 (Ex.refl _)⟩)) (rv_inT (neg := false) (fh2 _) rfl rfl)) ?_) fun H2 e2 => kk H2 (e1.trans e2)
      show V.bl (inV (.str z) ([("copy" : Str), "view"].map V.str)) = _
      rw [inV_strs, decide_eq_true hz2]
    · refine q_when (b := true) (et_is (et_test (ev_op (ev_var rfl) ev_c (rv_kd fe1))) rfl) (fun _ H1 e1 => ?_) (fun h => nomatch h)
      refine s_ret (v := .bl true) (ev_is (ev_op (ev_var rfl) (ev_op (z := .ref fb) ev_c (ev_var rfl) (fun H2 _ Q q => ⟨_, "end", .ref fb, rfl, rfl, ⟨es, n, _, DF2.at_, DF2.lit, fe1, rfl⟩, q H2 (Ex.refl _)⟩)) (rv_inT (neg := false) (fe2 _) rfl rfl)) ?_) fun H2 e2 => kk H2 (e1.trans e2)
      show V.bl (inV (.str z) ([("found" : Str), "none"].map V.str)) = _
      rw [inV_strs, decide_eq_true hz2]
    · refine q_when (b := false) (et_is (et_test (ev_op (ev_var rfl) ev_c (rv_kd (T.fj k hk)))) rfl) (fun h => nomatch h) (fun _ H1 e1 => ?_)
      refine s_ret (v := .bl true) (ev_call (ea_cons (ev_var rfl) ea_nil) fun H2 e2 R q _ => ⟨z, rfl, hz, fun H3 e3 => by rw [hg]; exact q H3 e3⟩) fun H2 e2 => kk H2 (e1.trans e2)

end
end K05
set_option Elab.async false
set_option linter.all false
set_option maxRecDepth 100000
set_option maxHeartbeats 8000000
namespace K05
open PySem PySem.Spec PyProof.Rows L2 He XH XV XR PEN TR Evl


section
variable {K : PySem.W.Frag} {σ : L2.St} {H : Hp}
theorem ev_m1 {r : V → List V → Hp → VK → Prop} {ta tb : TE} {a : Str} {y z : V} (h : Ev ta σ H (.str a)) (h2 : Ev tb σ H y) (hr : ∀ H1, Ex H H1 → ∀ Q : VK, Q z H1 → r (.str a) [y] H1 Q) : Ev (tM1 r ta tb) σ H z := fun H1 e Q q =>
  h H1 e _ fun H2 e2 => ⟨⟨a, rfl⟩, h2 H2 (e.trans e2) _ fun H3 e3 => hr H3 ((e.trans e2).trans e3) Q (q H3 (e2.trans e3))⟩
theorem ev_slS {te : TE} {tl th : TO} {lo hi : Option Int} {z : Str} (h : Ev te σ H (.str z)) (h1 : EvO tl σ H lo) (h2 : EvO th σ H hi) (hz : z.length ≤ 1000) : Ev (L2.tSl rSlS te tl th) σ H (.str (cutS z lo hi)) := fun H1 e Q q =>
  h H1 e _ fun H2 e2 => h1 H2 (e.trans e2) _ fun H3 e3 => h2 H3 ((e.trans e2).trans e3) _ fun H4 e4 => ⟨z, rfl, fits hz, q H4 ((e2.trans e3).trans e4)⟩
theorem el_lcT {a : Addr} {xs : List V} {tl te : TE} {t : TT} {j : Nat} {vs : List Nat} (f : Nat → Bool) (v : Nat → V) (h : Ev tl σ H (.ref a)) (hx : ∀ H1, Ex H H1 → SqT K H1 a xs) (hz : xs.length ≤ 40000) (hw : ∀ x, wipe ((wipe σ vs).set j (some x)) vs = wipe σ vs)
    (ht : ∀ (i : Nat) (x : V) H1, Ex H H1 → xs[i]? = some x → EvT t ((wipe σ vs).set j (some x)) H1 (f i)) (he : ∀ (i : Nat) (x : V) H1, Ex H H1 → xs[i]? = some x → f i = true → Ev te ((wipe σ vs).set j (some x)) H1 (v i)) :
    EvL (tLc (iTup K tl) (gName j) t te vs) σ H (given xs.length f v) := fun H0 e Q q => h H0 e _ fun H1 e1 => ⟨a, rfl, ⟨xs, hx _ (e.trans e1)⟩, fun Dl hD =>
  lc_tup (xs := xs) (Cw H1 f v Dl) ⟨hD, Ex.new hD, upd_same⟩ (fun i H' _ p => hx _ ((e.trans e1).trans p.2.1)) (fun i x H' hi p => ⟨hw x, cw_turn p (by have := (List.getElem?_eq_some_iff.mp hi).1; omega) (ht i x H1 (e.trans e1) hi) (fun hf => he i x H1 (e.trans e1) hi hf)⟩)
    (fun H' p => q Dl H' (fresh_back e1 p.1) (e1.trans p.2.1) p.2.2)⟩
theorem given_all : ∀ n : Nat, given n (fun _ => true) (fun _ => V.bl true) = (List.replicate n true).map V.bl
  | 0 => rfl
  | n + 1 => by
    rw [given_yes rfl, given_all n, List.replicate_succ', List.map_append]
    rfl
theorem ev_all {te : TE} {n : Nat} (h : EvL te σ H (given n (fun _ => true) (fun _ => V.bl true))) : Ev (tCB (rAll K) (tCons te tNil)) σ H (.bl true) := fun H1 e Q q => h H1 e _ fun p H2 hp e2 g =>
  ⟨p, List.replicate n true, rfl, sq_of (by rw [g, given_all]), by
    rw [show (List.replicate n true).all id = true by simp [List.all_replicate]]
    exact q H2 e2⟩
theorem given_filter {α : Type} (p : α → Bool) (g : α → V) (d : α) (l : List α) : ∀ n : Nat, n ≤ l.length → given n (fun i => p (l.getD i d)) (fun i => g (l.getD i d)) = ((l.take n).filter p).map g
  | 0, _ => rfl
  | n + 1, h => by
    have e : l[n]? = some (l.getD n d) := by
      rw [List.getD_eq_getElem?_getD, List.getElem?_eq_getElem (by omega)]
      rfl
    rw [List.take_add_one, e]
    show _ = ((l.take n ++ [l.getD n d]).filter p).map g
    rw [List.filter_append, List.map_append, ← given_filter p g d l n (by omega)]
    cases hp : p (l.getD n d) with
    | true =>
      rw [given_yes hp, List.filter_cons, if_pos hp]
      rfl
    | false =>
      rw [given_no hp, List.filter_cons, if_neg (by rw [hp]; exact Bool.false_ne_true)]
      show _ = _ ++ []
      rw [List.append_nil]
end
/-! ### a name's line, a heading -/
def spRName (K : PySem.W.Frag) : Sp := fun vs H Q _ => ∃ (L : Addr) (ls : List Str) (i : Nat) (z : Str), vs = [.ref L, .int (i : Nat)] ∧ H L = some (.lst (ls.map V.str)) ∧ ls[i]? = some (z ++ (":" : Str)) ∧ (Let z ∧ 1 ≤ z.length ∧ z.length ≤ 12) ∧ ∀ H', Ex H H' → Q (.str z) H'
def spRHead (K : PySem.W.Frag) : Sp := fun vs H Q _ => ∃ (L : Addr) (ls : List Str) (i : Nat) (w : Str) (zs : List Str), vs = [.ref L, .int (i : Nat), .str w] ∧ H L = some (.lst (ls.map V.str)) ∧ ls.getD i "" = headL w zs ∧ (Let w ∧ 1 ≤ w.length ∧ w.length ≤ 12) ∧ LetS zs ∧ zs.length ≤ 10 ∧ ∀ q H', H q = none → Ex H H' → H' q = some (.lst (zs.map V.str)) → Q (.ref q) H'
theorem colon_len : ((":" : Str)).length = 1 := by decide +kernel
theorem colon_tl : TL.tl (":" : Str) = [58] := by decide +kernel
theorem join_short {zs : List Str} {n : Nat} (hn : zs.length ≤ n) (h : ∀ z ∈ zs, z.length ≤ 13) : (Txt.join blank zs).length ≤ 14 * n := by
  have jl := join_len blank zs
  have kb : (blank).length = 1 := by decide +kernel
  have sl := sum_lens h
  rw [kb] at jl
  omega
theorem colon_free {w : Str} (h : Let w) : 32 ∉ TL.tl (w ++ (":" : Str)) := by
  rw [TL.tl_append, colon_tl]
  intro hm
  rcases List.mem_append.mp hm with k | k
  · exact let_free h (by decide) k
  · exact absurd (List.mem_singleton.mp k) (by decide)

section
variable {P : Program} {w : World} {K : PySem.W.Frag} {mg : Str → Option Value} {base : Heap}

theorem ok_read_name {fd : FuncData} (F : FnP K "read_name" "read_name" s_read_name (ga K "read_name") fd) (T : Tx K w mg) (c_is_name : Cl P w K mg base CX0 1 (ga K "is_name") ["word"] spIsName) : FnOk P w K mg base CX0 (1 + 1) (ga K "read_name") fd ["lines", "at"] (spRName K) := by
  obtain ⟨fd_is_name, G_is_name, b_is_name, kp_is_name⟩ := c_is_name
  refine FunD.ok F sc_read_name (fun vs H Q E h => ?_) (fun cdv A outer s H vs Q E hr h => ?_)
  · obtain ⟨l, ls, i, z, rfl, _⟩ := h
    rfl
  · obtain ⟨l, ls, i, z, rfl, hl, hi, hz, kk⟩ := h
    have g_is_name := T.gl "is_name" (by decide +kernel)
    refine ⟨_, PSs.nox (pss_cons (ps_set (i := 2) sc_read_name.nd rfl (Or.inl rfl) (pe_ix ix_list (pv 0) (pv 1) (fun _ _ => rfl)))
      (pss_cons (ps_if (PW.pt (pw_or (pt_not (pt_val (pe_m1 PySem.F.slot_str_endswith PySem.F.type_str_endswith mt_endswith (pv 2) pe_str))) (pw_or1 (pt_not (pt_val (pe_call G_is_name (hr.mono (by decide)) (by rfl) g_is_name kp_is_name b_is_name .nil pass0 (pa_cons (pe_slice sl_str (pv 2) po_none (po_some (pe_un un_neg pe_int))) pa_nil)))))))
      (pss_one ps_never)
      pss_nil)
      (pss_one (ps_ret (pe_slice sl_str (pv 2) po_none (po_some (pe_un un_neg pe_int))))))), ?_⟩
    have zl : (z ++ (":" : Str)).length ≤ 13 := by
      rw [app_len, colon_len]
      omega
    have cl : ∀ {σ : L2.St} {H1 : Hp}, σ[2]? = some (some (.str (z ++ (":" : Str)))) → Ev (L2.tSl rSlS (tVar 2) tNoPart (tPart (tUn (rU fun i => .int (-i)) (tC (.int 1))))) σ H1 (.str z) := fun h => ev_is (ev_slS (ev_var h) eo_none (eo_some (ev_un (x := .int 1) ev_c (fun H1 _ Q q => ⟨1, rfl, q H1 (Ex.refl _)⟩))) (by omega)) (by rw [cut_last z _ colon_len])
    refine q_asg (v := .str (z ++ (":" : Str))) (ev_op (ev_var rfl) (ev_var rfl) (rv_ixL (sq_of hl) (atI_nat (by rw [List.getElem?_map, hi]; rfl)))) fun H1 e1 => ?_
    try dsimp only [gName, List.set]
    refine q_when (b := false) (et_is (et_or (a := !true) (b := !true) (et_not (et_B (ev_m1 (ev_var rfl) ev_c fun H2 e2 Q q => ⟨_, _, rfl, rfl, by rw [ends_app]; exact q⟩))) fun _ => et_not (et_B (ev_call (ea_cons (cl rfl) ea_nil) fun H2 e2 R q _ => ⟨z, rfl, by omega, fun H3 e3 => by rw [let_good hz]; exact q H3 e3⟩))) rfl) (fun h => nomatch h) (fun _ H2 e2 => ?_)
    exact s_ret (cl rfl) fun H3 e3 => kk H3 ((e1.trans e2).trans e3)

theorem ok_read_heading {fd : FuncData} (F : FnP K "read_heading" "read_heading" s_read_heading (ga K "read_heading") fd) (T : Tx K w mg) (c_line_at : Cl P w K mg base CX0 1 (ga K "line_at") ["lines", "at"] (spLine K)) (c_is_name : Cl P w K mg base CX0 1 (ga K "is_name") ["word"] spIsName) : FnOk P w K mg base CX0 (1 + 1) (ga K "read_heading") fd ["lines", "at", "word"] (spRHead K) := by
  obtain ⟨fd_line_at, G_line_at, b_line_at, kp_line_at⟩ := c_line_at
  obtain ⟨fd_is_name, G_is_name, b_is_name, kp_is_name⟩ := c_is_name
  refine FunD.ok F sc_read_heading (fun vs H Q E h => ?_) (fun cdv A outer s H vs Q E hr h => ?_)
  · obtain ⟨l, ls, i, wd, zs, rfl, _⟩ := h
    rfl
  · obtain ⟨l, ls, i, wd, zs, rfl, hl, hi, hw, hz, hn, kk⟩ := h
    have g_line_at := T.gl "line_at" (by decide +kernel)
    have n_all := T.fr "all" (by decide +kernel)
    have g_is_name := T.gl "is_name" (by decide +kernel)
    refine ⟨_, PSs.nox (pss_cons (ps_asg (pe_split (pe_call G_line_at (hr.mono (by decide)) (by rfl) g_line_at kp_line_at b_line_at .nil pass0 (pa_cons (pv 0) (pa_cons (pv 1) pa_nil))) pe_str) (SU.pg_star1 rfl (pgs_cons (pg_name (i := 3) sc_read_heading.nd rfl (Or.inl rfl)) (SU.pgs_consS (pg_name (i := 4) sc_read_heading.nd rfl (Or.inl rfl)) pgs_nil))))
      (pss_cons (ps_if (PW.pt (pw_or (pt_cmpR op_ne (pv 3) (pe_joined (PJ.cons (pe_fmt (pv 2)) (PJ.cons pe_str PJ.nil))) (nomark _)) (pw_or1 (pt_not (pt_val (pe_callB (cr_all rfl) (by rfl) n_all (by decide +kernel) (pa_cons (pe_lc (own := [("name", 5)]) (g := gName 5) (by rfl) sc_read_heading.nd (pi_list (pv 4)) (blkOk_by (own := [("name", 5)]) (N := ["lines", "at", "word", "first", "names", "name"]) (sc := defScope s_read_heading) (by decide +kernel)) (fun _ _ _ _ _ => (pg_name (i := 5) sc_read_heading.nd rfl (Or.inl rfl))) (fun _ _ _ _ _ => pts_nil) (fun _ _ _ _ _ => (pe_call G_is_name (hr.mono (by decide)) (by rfl) g_is_name kp_is_name b_is_name .nil pass0 (pa_cons (pv 5) pa_nil)))) pa_nil)))))))
      (pss_one ps_never)
      pss_nil)
      (pss_one (ps_ret (pv 4))))), ?_⟩
    have l1 : (wd ++ (":" : Str)).length = wd.length + 1 := by rw [app_len, colon_len]
    have jl := join_short (zs := (wd ++ (":" : Str)) :: zs) (n := 11) (by rw [List.length_cons]; omega) (fun z h => by
      rcases List.mem_cons.mp h with e | h
      · rw [e]; omega
      · have := (hz z h).2.2
        omega)
    refine ⟨.ref l, rfl, .int (i : Nat), rfl, l, ls, i, rfl, hl, fun H1 e1 => ⟨⟨_, rfl⟩, _, blank, rfl, rfl, rfl, fits (by rw [hi]; show (Txt.join blank _).length + 2 ≤ 1000; omega), fun p hp => ?_⟩⟩
    have es : Txt.split (ls.getD i "") blank = (wd ++ (":" : Str)) :: zs := by
      rw [hi]
      refine split_blank (by simp) fun z h => ?_
      rcases List.mem_cons.mp h with e | h
      · rw [e]
        exact colon_free hw.1
      · exact let_free (hz z h).1 (by decide)
    rw [es]
    have hp0 : H p = none := fresh_back e1 hp
    refine ⟨p, .str (wd ++ (":" : Str)), zs.map V.str, rfl, sq_of upd_same, by rw [List.length_map]; omega, fun D hD => ⟨_, _, rfl, _, _, rfl, rfl, ?_⟩⟩
    have e2 := e1.trans ((Ex.new (o := .lst (((wd ++ (":" : Str)) :: zs).map V.str)) hp).trans (Ex.new (o := .lst (zs.map V.str)) hD))
    have hD0 : H D = none := fresh_back (e1.trans (Ex.new hp)) hD
    have gD : upd (upd H1 p (.lst (((wd ++ (":" : Str)) :: zs).map V.str))) D (.lst (zs.map V.str)) D = some (.lst (zs.map V.str)) := upd_same
    generalize upd (upd H1 p (.lst (((wd ++ (":" : Str)) :: zs).map V.str))) D (.lst (zs.map V.str)) = H2 at e2 gD
    try dsimp only [gName, List.set]
    refine q_when (b := false) (et_is (et_or (a := false) (b := !true) (et_test (ev_op (y := .str (wd ++ (":" : Str))) (ev_var rfl) (fun H3 e3 Q q => ⟨.str wd, rfl, .inl ⟨wd, rfl, fits (by omega), wd, rfl, by rw [empty_app]; exact fits (by omega), ":", rfl, by rw [empty_app, l1]; exact fits (by omega), by rw [empty_app]; exact q H3 (Ex.refl _)⟩⟩) rv_neS)) fun _ => et_not (et_B (ev_all (n := (zs.map V.str).length) (el_lcL (fun _ => true) (fun _ => .bl true) (ev_var rfl) (sq_of gD) (by rw [List.length_map]; omega) (fun _ => rfl) (fun _ _ _ _ _ => fun H3 _ Q q => q H3 (Ex.refl H3)) (fun j x H3 e3 hx _ => ?_))))) rfl) (fun h => nomatch h) (fun _ H3 e3 => ?_)
    · obtain ⟨z, hzm, rfl⟩ := List.mem_map.mp (List.mem_of_getElem? hx)
      have g := hz z hzm
      exact ev_call (ea_cons (ev_var rfl) ea_nil) fun H4 e4 R q _ => ⟨z, rfl, by omega, fun H5 e5 => by rw [let_good g]; exact q H5 e5⟩
    · exact ⟨.ref D, rfl, kk D H3 hD0 (e2.trans e3) (e3 _ _ gD)⟩

end
end K05
set_option Elab.async false
set_option linter.all false
set_option maxRecDepth 100000
set_option maxHeartbeats 8000000
namespace K05
open PySem PySem.Spec PyProof.Rows L2 He XH XV XR PEN TR Evl


def ReadOk (z k : Str) : Prop := (k = "how" ∧ z ∈ [("copy" : Str), "view"]) ∨ (k = "end" ∧ z ∈ [("found" : Str), "none"]) ∨ (k ∈ [("cell" : Str), "row", "function"] ∧ goodN z = true)
theorem fixed_let : ∀ z ∈ [("copy" : Str), "view", "found", "none"], ((TL.tl z).all (fun c => decide (97 ≤ c) && decide (c ≤ 122)) && (decide (1 ≤ z.length) && decide (z.length ≤ 12))) = true := by decide +kernel
theorem fixed_lets {z : Str} (h : z ∈ [("copy" : Str), "view", "found", "none"]) : Let z ∧ 1 ≤ z.length ∧ z.length ≤ 12 := by
  have k := fixed_let z h
  rw [Bool.and_eq_true, Bool.and_eq_true] at k
  exact ⟨let_of k.1, of_decide_eq_true k.2.1, of_decide_eq_true k.2.2⟩
theorem nms_ok {cs rs os : List Str} (h : LetS (cs ++ rs ++ os)) {k z : Str} (hk : k ∈ five) (hz : z ∈ nmsOf cs rs os k) : ReadOk z k ∧ (Let z ∧ 1 ≤ z.length ∧ z.length ≤ 12) := by
  unfold five at hk
  simp only [List.mem_cons, List.not_mem_nil, or_false] at hk
  rcases hk with rfl | rfl | rfl | rfl | rfl
  · have m : z ∈ cs := hz
    have g := h z (List.mem_append_left _ (List.mem_append_left _ m))
    exact ⟨.inr (.inr ⟨by simp, let_good g⟩), g⟩
  · have m : z ∈ rs := hz
    have g := h z (List.mem_append_left _ (List.mem_append_right _ m))
    exact ⟨.inr (.inr ⟨by simp, let_good g⟩), g⟩
  · have m : z ∈ os := hz
    have g := h z (List.mem_append_right _ m)
    exact ⟨.inr (.inr ⟨by simp, let_good g⟩), g⟩
  · have m : z ∈ [("copy" : Str), "view"] := hz
    exact ⟨.inl ⟨rfl, m⟩, fixed_lets (List.mem_append_left [("found" : Str), "none"] m)⟩
  · have m : z ∈ [("found" : Str), "none"] := hz
    exact ⟨.inr (.inl ⟨rfl, m⟩), fixed_lets (List.mem_append_right [("copy" : Str), "view"] m)⟩
theorem rv_neSS {H : Hp} {w z : Str} : RV rNe (.str w) (.str z) H (.bl (!decide (w = z))) := by
  rw [← e_str]
  exact rv_ne rfl
theorem rv_neII {H : Hp} {i j : Int} : RV rNe (.int i) (.int j) H (.bl (!decide (i = j))) := by
  have e : decide (V.int i = V.int j) = decide (i = j) := by
    rw [decide_eq_decide]
    exact ⟨fun h => by injection h, fun h => by rw [h]⟩
  rw [← e]
  exact rv_ne rfl
def np (k : Str) : Bool := !decide (k = "part")
/-- the names of a statement by the kinds of its word -/
theorem wf_reads {cs rs os : List Str} (h : LetS (cs ++ rs ++ os)) {w : Str} {ks : List Str} {args : List PyData} (hk : (w, ks) ∈ ENT) (hl : args.length = ks.length) (hf : ∀ (i : Nat) (k : Str) (x : PyData), ks[i]? = some k → args[i]? = some x → fitsP cs rs os k x) :
    (strsD (.tuple (.str w :: args))).length = (ks.filter np).length ∧ ∀ (i : Nat) (z k : Str), (strsD (.tuple (.str w :: args)))[i]? = some z → (ks.filter np)[i]? = some k → ReadOk z k ∧ (Let z ∧ 1 ≤ z.length ∧ z.length ≤ 12) := by
  have k9 := kinds9 _ hk
  simp only [List.mem_cons, List.not_mem_nil, or_false] at k9
  have none_ : strsD (.tuple (.str w :: args)) = [] → ks.filter np = [] → (strsD (.tuple (.str w :: args))).length = (ks.filter np).length ∧ ∀ (i : Nat) (z k : Str), (strsD (.tuple (.str w :: args)))[i]? = some z → (ks.filter np)[i]? = some k → ReadOk z k ∧ (Let z ∧ 1 ≤ z.length ∧ z.length ≤ 12) := by
    intro e1 e2
    rw [e1, e2]
    exact ⟨rfl, fun i z k h => nomatch h⟩
  have one_ : ∀ (y k0 : Str), strsD (.tuple (.str w :: args)) = [y] → ks.filter np = [k0] → k0 ∈ five → y ∈ nmsOf cs rs os k0 → (strsD (.tuple (.str w :: args))).length = (ks.filter np).length ∧ ∀ (i : Nat) (z k : Str), (strsD (.tuple (.str w :: args)))[i]? = some z → (ks.filter np)[i]? = some k → ReadOk z k ∧ (Let z ∧ 1 ≤ z.length ∧ z.length ≤ 12) := by
    intro y k0 e1 e2 h5 hm
    rw [e1, e2]
    refine ⟨rfl, fun i z k a b => ?_⟩
    match i, a, b with
    | 0, a, b =>
      cases a
      cases b
      exact nms_ok h h5 hm
  have one : ∀ k : Str, ¬ k = "part" → k ∈ five → ks = [k] → (strsD (.tuple (.str w :: args))).length = (ks.filter np).length ∧ ∀ (i : Nat) (z k : Str), (strsD (.tuple (.str w :: args)))[i]? = some z → (ks.filter np)[i]? = some k → ReadOk z k ∧ (Let z ∧ 1 ≤ z.length ∧ z.length ≤ 12) := by
    intro k hkn h5 e
    subst e
    match args, hl with
    | [x], _ =>
      obtain ⟨z, rfl, hz⟩ := str_of hkn (hf 0 k x rfl rfl)
      refine one_ z k rfl ?_ h5 hz
      rw [List.filter_cons, if_pos (by unfold np; rw [decide_eq_false hkn]; rfl)]
      rfl
  rcases k9 with e | e | e | e | e | e | e | e | e
  · subst e
    match args, hl with
    | [], _ => exact none_ rfl rfl
  · exact one _ (by decide +kernel) (by decide +kernel) e
  · exact one _ (by decide +kernel) (by decide +kernel) e
  · exact one _ (by decide +kernel) (by decide +kernel) e
  · exact one _ (by decide +kernel) (by decide +kernel) e
  · exact one _ (by decide +kernel) (by decide +kernel) e
  · subst e
    match args, hl with
    | [x], _ =>
      obtain ⟨ds, rfl⟩ := part_of (hf 0 _ x rfl rfl)
      exact none_ rfl (by decide +kernel)
  · subst e
    match args, hl with
    | [x, y], _ =>
      obtain ⟨ds, rfl⟩ := part_of (hf 0 _ x rfl rfl)
      obtain ⟨es, rfl⟩ := part_of (hf 1 _ y rfl rfl)
      exact none_ rfl (by decide +kernel)
  · subst e
    match args, hl with
    | [x, y, z], _ =>
      obtain ⟨a, rfl, ha⟩ := str_of (by decide +kernel) (hf 0 _ x rfl rfl)
      obtain ⟨ds, rfl⟩ := part_of (hf 1 _ y rfl rfl)
      obtain ⟨es, rfl⟩ := part_of (hf 2 _ z rfl rfl)
      exact one_ a "cell" rfl (by decide +kernel) (by decide +kernel) ha
def spHd (K : PySem.W.Frag) : Sp := fun vs H Q _ => ∃ line mg : Str, vs = [.str line, .str mg] ∧ line.length ≤ 900 ∧ mg.length ≤ 20 ∧
  (((Txt.startswith line mg = false ∨ 8 < mg.length) ∧ ∀ q H', H q = none → Ex H H' → H' q = some (.tup []) → Q (.ref q) H') ∨
   (∃ s cs rs os, mg.length ≤ 8 ∧ line = mg ++ Txt.join blank (firstW (wordS s) :: strsD s) ∧ Wf cs rs os s ∧ LetS (cs ++ rs ++ os) ∧ ∀ q H', H q = none → Ex H H' → H' q = some (.tup (.str (wordS s) :: (strsD s).map V.str)) → Q (.ref q) H'))

section
variable {P : Program} {w : World} {K : PySem.W.Frag} {mg : Str → Option Value} {base : Heap}

theorem ok_read_head {fd : FuncData} (F : FnP K "read_head" "read_head" s_read_head (ga K "read_head") fd) (T : Td K w mg) (c_word_of : Cl P w K mg base CX0 1 (ga K "word_of") ["first"] spWordOf) (c_reads_as : Cl P w K mg base CX0 2 (ga K "reads_as") ["entry", "kind"] spReads) : FnOk P w K mg base CX0 (2 + 1) (ga K "read_head") fd ["line", "margin"] (spHd K) := by
  obtain ⟨fd_word_of, G_word_of, b_word_of, kp_word_of⟩ := c_word_of
  obtain ⟨fd_reads_as, G_reads_as, b_reads_as, kp_reads_as⟩ := c_reads_as
  refine FunD.ok F sc_read_head (fun vs H Q E h => ?_) (fun cdv A outer s H vs Q E hr h => ?_)
  · obtain ⟨line, mg, rfl, _⟩ := h
    rfl
  · obtain ⟨line, mg, rfl, hl, hm, hc⟩ := h
    have n_len := T.fr "len" (by decide +kernel)
    obtain ⟨tk_WIDEST_MARGIN, g_WIDEST_MARGIN⟩ := T.c_WIDEST_MARGIN
    have g_word_of := T.gl "word_of" (by decide +kernel)
    have g_ENTRIES := T.gl "ENTRIES" (by decide +kernel)
    have n_all := T.fr "all" (by decide +kernel)
    have n_zip := T.fr "zip" (by decide +kernel)
    have g_reads_as := T.gl "reads_as" (by decide +kernel)
    obtain ⟨es, n, DE, hE⟩ := T.en
    refine ⟨_, PSs.nox (pss_cons (ps_if (PW.pt (pw_or (pt_cmpR op_gt (pe_callB call_len_str (by rfl) n_len (by decide +kernel) (pa_cons (pv 1) pa_nil)) (pe_glob (v := .int _) (by rfl) g_WIDEST_MARGIN ⟨_, rfl⟩) (nomark _)) (pw_or1 (pt_not (pt_val (pe_m1 PySem.F.slot_str_startswith PySem.F.type_str_startswith mt_startswith (pv 0) (pv 1)))))))
      (pss_one (ps_ret (pe_tup pa_nil)))
      pss_nil)
      (pss_cons (ps_asg (pe_split (pe_slice sl_str (pv 0) (po_some (pe_callB call_len_str (by rfl) n_len (by decide +kernel) (pa_cons (pv 1) pa_nil))) po_none) pe_str) (SU.pg_star1 rfl (pgs_cons (pg_name (i := 2) sc_read_head.nd rfl (Or.inl rfl)) (SU.pgs_consS (pg_name (i := 3) sc_read_head.nd rfl (Or.inl rfl)) pgs_nil))))
      (pss_cons (ps_set (i := 4) sc_read_head.nd rfl (Or.inl rfl) (pe_call G_word_of (hr.mono (by decide)) (by rfl) g_word_of kp_word_of b_word_of .nil pass0 (pa_cons (pv 2) pa_nil)))
      (pss_cons (ps_if (pt_cmpR (op_notIn_kd DE) (pv 4) (pe_glob (v := .ref _) (by rfl) g_ENTRIES rfl) (by rfl))
      (pss_one (ps_ret (pe_tup pa_nil)))
      pss_nil)
      (pss_cons (ps_setLc (i := 5) (own := [("kind", 6)]) (g := gName 6) (by rfl) sc_read_head.nd rfl rfl (sw_true rfl rfl rfl (by decide +kernel)) (pi_tup (pe_ix ix_kdict (pe_glob (v := .ref _) (by rfl) g_ENTRIES rfl) (pv 4) (fun _ _ => rfl))) (blkOk_by (own := [("kind", 6)]) (N := ["line", "margin", "first", "rest", "word", "kinds", "kind", "entry"]) (sc := defScope s_read_head) (by decide +kernel)) (fun _ _ _ _ _ => (pg_name (i := 6) sc_read_head.nd rfl (Or.inl rfl))) (fun _ _ _ _ _ => (pts_one (pt_cmpR op_ne (pv 6) pe_str (nomark _)))) (fun _ _ _ _ _ => (pv 6)))
      (pss_cons (ps_if (PW.pt (pw_or (pt_cmpR op_ne (pe_callB call_len_seq (by rfl) n_len (by decide +kernel) (pa_cons (pv 3) pa_nil)) (pe_callB call_len_seq (by rfl) n_len (by decide +kernel) (pa_cons (pv 5) pa_nil)) (nomark _)) (pw_or1 (pt_not (pt_val (pe_callB (cr_all rfl) (by rfl) n_all (by decide +kernel) (pa_cons (pe_lc (own := [("entry", 7), ("kind", 6)]) (g := _) (by rfl) sc_read_head.nd (RZ.pi_zipA (by rfl) n_zip (pa_cons (pv 3) (pa_cons (pv 5) pa_nil))) (blkOk_by (own := [("entry", 7), ("kind", 6)]) (N := ["line", "margin", "first", "rest", "word", "kinds", "kind", "entry"]) (sc := defScope s_read_head) (by decide +kernel)) (fun _ _ _ _ _ => (pg_tupc (K := K) (n := 2) rfl rfl (pgs_cons (pg_name (i := 7) sc_read_head.nd rfl (Or.inl rfl)) (pgs_cons (pg_name (i := 6) sc_read_head.nd rfl (Or.inl rfl)) pgs_nil)))) (fun _ _ _ _ _ => pts_nil) (fun _ _ _ _ _ => (pe_call G_reads_as (hr.mono (by decide)) (by rfl) g_reads_as kp_reads_as b_reads_as .nil pass0 (pa_cons (pv 7) (pa_cons (pv 6) pa_nil))))) pa_nil)))))))
      (pss_one (ps_ret (pe_tup pa_nil)))
      pss_nil)
      (pss_one (ps_ret (pe_tup (pa_cons (pv 4) (StX.pa_star (pv 3) pa_nil))))))))))), ?_⟩
    have lenE : ∀ {σ : L2.St} {H1 : Hp}, σ[1]? = some (some (.str mg)) → Ev (tCB (fun xs H Q => ∃ z : Str, xs = [.str z] ∧ z.length ≤ sizeLine ∧ Q (.int (z.length : Nat)) H) (tCons (tVar 1) tNil)) σ H1 (.int (mg.length : Nat)) := fun h => ev_cb (ea_cons (ev_var h) ea_nil) fun H2 _ Q q => ⟨mg, rfl, fits (by omega), q H2 (Ex.refl _)⟩
    have t0 : ∀ {σ : L2.St} {H1 : Hp}, σ[0]? = some (some (.str line)) → σ[1]? = some (some (.str mg)) → EvT (tNot (tB (tM1 (fun x xs H Q => ∃ a b, x = .str a ∧ xs = [.str b] ∧ Q (.bl (Txt.startswith a b)) H) (tVar 0) (tVar 1)))) σ H1 (!Txt.startswith line mg) := fun h0 h1 => et_not (et_B (ev_m1 (ev_var h0) (ev_var h1) fun H2 e2 Q q => ⟨_, _, rfl, rfl, q⟩))
    rcases hc with ⟨hc, kk⟩ | ⟨st, cs, rs, os, hm8, hline, hwf, hLet, kk⟩
    · refine q_when (b := true) (et_is (et_or (a := decide ((8 : Int) < (mg.length : Nat))) (b := !Txt.startswith line mg) (et_test (ev_op (lenE rfl) ev_c rv_I0)) fun _ => t0 rfl rfl) ?_) (fun _ H1 e1 => ?_) (fun h => nomatch h)
      · rcases hc with h | h
        · rw [h]
          simp
        · rw [decide_eq_true (by omega), Bool.true_or]
      · exact s_retU (eu_tup ea_nil (by decide)) fun q H2 hq e2 g => kk q H2 (fresh_back e1 hq) (e1.trans e2) g
    · have hs : Txt.startswith line mg = true := by rw [hline, starts_app]
      refine q_when (b := false) (et_is (et_or (a := decide ((8 : Int) < (mg.length : Nat))) (b := !Txt.startswith line mg) (et_test (ev_op (lenE rfl) ev_c rv_I0)) fun _ => t0 rfl rfl) (by rw [hs, decide_eq_false (by omega)]; rfl)) (fun h => nomatch h) (fun _ H1 e1 => ?_)
      obtain ⟨wd, ks, args, es_, hk, hkl, hf⟩ := id hwf
      have ew : wordS st = wd := by rw [es_]; rfl
      obtain ⟨hrl, hrd⟩ := wf_reads hLet hk hkl hf
      rw [← es_] at hrl hrd
      have k3 := ent3 _ hk
      simp only at k3
      have lf : (ks.filter np).length ≤ ks.length := List.length_filter_le ..
      rw [ew] at hline kk
      have hw : wd ∈ words := List.mem_map.mpr ⟨_, hk, rfl⟩
      have lw : Let (firstW wd) := let_first (ent_let hk)
      have all_ : ∀ z ∈ strsD st, Let z ∧ 1 ≤ z.length ∧ z.length ≤ 12 := fun z hz => by
        obtain ⟨i, hi⟩ := List.mem_iff_getElem?.mp hz
        have hi2 := (List.getElem?_eq_some_iff.mp hi).1
        exact (hrd i z _ hi (List.getElem?_eq_getElem (by omega))).2
      have ecut : cutS line (some ((mg.length : Nat) : Int)) none = Txt.join blank (firstW wd :: strsD st) := by rw [hline, cut_app]
      have esp : Txt.split (Txt.join blank (firstW wd :: strsD st)) blank = firstW wd :: strsD st := split_blank (by simp) fun z h => by
        rcases List.mem_cons.mp h with e | h
        · rw [e]
          exact let_free lw (by decide)
        · exact let_free (all_ z h).1 (by decide)
      have jlen : (Txt.join blank (firstW wd :: strsD st)).length ≤ 900 := by
        rw [hline, app_len] at hl
        omega
      refine (ev_slS (ev_var rfl) (eo_some (lenE rfl)) eo_none (by omega)) H1 (Ex.refl _) _ fun H2 e2 => ⟨⟨_, rfl⟩, _, blank, rfl, rfl, rfl, fits (by rw [ecut]; omega), fun p hp => ?_⟩
      rw [ecut, esp]
      refine ⟨p, .str (firstW wd), (strsD st).map V.str, rfl, sq_of upd_same, by rw [List.length_map]; omega, fun D hD => ⟨_, _, rfl, _, _, rfl, rfl, ?_⟩⟩
      have e3 := (e1.trans e2).trans ((Ex.new (o := .lst ((firstW wd :: strsD st).map V.str)) hp).trans (Ex.new (o := .lst ((strsD st).map V.str)) hD))
      have gD : upd (upd H2 p (.lst ((firstW wd :: strsD st).map V.str))) D (.lst ((strsD st).map V.str)) D = some (.lst ((strsD st).map V.str)) := upd_same
      generalize upd (upd H2 p (.lst ((firstW wd :: strsD st).map V.str))) D (.lst ((strsD st).map V.str)) = H3 at e3 gD
      try dsimp only [gName, List.set]
      refine q_asg (v := .str wd) (ev_call (ea_cons (ev_var rfl) ea_nil) fun H4 e4 R q _ => ⟨wd, rfl, hw, fun H5 e5 => q H5 e5⟩) fun H4 e4 => ?_
      try dsimp only [gName, List.set]
      obtain ⟨ak, hak, hat⟩ := hE _ hk
      refine q_when (b := false) (et_is (et_test (ev_op (ev_var rfl) ev_c (rv_nkd hak))) rfl) (fun h => nomatch h) (fun _ H5 e5 => ?_)
      refine q_asgL (xs := (ks.filter np).map V.str) ?_ fun Kd H6 hKd e6 gK => ?_
      · have z := el_lcT (K := K) (σ := [some (.str line), some (.str mg), some (.str (firstW wd)), some (.ref D), some (.str wd), none, none, none]) (H := H5) (tl := tOp (rIxD K w) (tC (.ref (ga K "ENTRIES"))) (tVar 4)) (te := tVar 6) (t := tTest (tOp rNe (tVar 6) (tC (.str "part")))) (j := 6) (vs := [6]) (a := ak) (xs := ks.map V.str) (fun i => np (ks.getD i "")) (fun i => V.str (ks.getD i "")) (ev_op ev_c (ev_var rfl) fun H6 _ Q q => ⟨_, wd, .ref ak, rfl, rfl, ⟨es, n, _, DE.at_, DE.lit, hak, rfl⟩, q H6 (Ex.refl _)⟩) (fun H6 _ => hat H6) (by rw [List.length_map]; omega) (fun _ => rfl) ?_ ?_
        · rw [List.length_map] at z
          rw [given_filter np V.str "" ks ks.length (Nat.le_refl _), List.take_length] at z
          exact z
        · intro i x H6 e6 hx
          rw [List.getElem?_map] at hx
          cases hki : ks[i]? with
          | none =>
            rw [hki] at hx
            cases hx
          | some k =>
            rw [hki] at hx
            cases hx
            have ek : ks.getD i "" = k := by
              rw [List.getD_eq_getElem?_getD, hki]
              rfl
            rw [ek]
            exact et_test (ev_op (ev_var rfl) ev_c (rv_neSS))
        · intro i x H6 e6 hx _
          rw [List.getElem?_map] at hx
          cases hki : ks[i]? with
          | none =>
            rw [hki] at hx
            cases hx
          | some k =>
            rw [hki] at hx
            cases hx
            have ek : ks.getD i "" = k := by
              rw [List.getD_eq_getElem?_getD, hki]
              rfl
            rw [ek]
            exact ev_var rfl
      have e46 := (e4.trans e5).trans e6
      have gD6 := e46 _ _ gD
      try dsimp only [gName, List.set]
      refine q_when (b := false) (et_is (et_or (a := false) (b := !true) (et_is (et_test (ev_op (ev_len (K := K) (ev_var rfl) (sq_of gD6)) (ev_len (K := K) (ev_var rfl) (sq_of gK)) rv_neII)) ?_) fun _ => et_not (et_B fun H7 e7 Q q => ?_)) rfl) (fun h => nomatch h) (fun _ H7 e7 => ?_)
      · rw [List.length_map, List.length_map, hrl]
        simp
      · refine ⟨.ref D, rfl, .ref Kd, rfl, D, Kd, _, _, rfl, .inl ⟨sq_of (e7 _ _ gD6), sq_of (e7 _ _ gK), fun A hA => ?_⟩⟩
        refine lc_it (walk_zip (xs := (strsD st).map V.str) (ys := (ks.filter np).map V.str) rfl) (fun i H' => Ex H7 H' ∧ H' A = some (.lst ((List.replicate i true).map V.bl))) ⟨Ex.new hA, upd_same⟩ (fun i H' _ hI => ?_) (fun i x H8 H9 hi hI hy => ?_) (fun H8 hI => ?_)
        · exact ⟨sq_of (hI.1 _ _ (e7 _ _ gD6)), sq_of (hI.1 _ _ (e7 _ _ gK))⟩
        · obtain ⟨f2, f3⟩ := hI
          obtain ⟨tq, x1, y1, rfl, hT, rfl, p1, p2⟩ := hy
          replace p1 : ((strsD st).map V.str)[i]? = some x1 := p1
          replace p2 : ((ks.filter np).map V.str)[i]? = some y1 := p2
          rw [List.getElem?_map] at p1 p2
          cases hz : (strsD st)[i]? with
          | none =>
            rw [hz] at p1
            cases p1
          | some z =>
            cases hki : (ks.filter np)[i]? with
            | none =>
              rw [hki] at p2
              cases p2
            | some k =>
              rw [hz] at p1
              rw [hki] at p2
              cases p1
              cases p2
              obtain ⟨hr1, hr2⟩ := hrd i z k hz hki
              have hi3 := (List.getElem?_eq_some_iff.mp hz).1
              refine ⟨tq, [.str z, .str k], rfl, st_of upd_same, rfl, .str z, [.str k], rfl, .str k, [], rfl, rfl, rfl, yes_go ?_⟩
              refine ⟨.str z, rfl, .str k, rfl, z, k, rfl, by omega, hr1, fun H10 e10 => ⟨_, e10 _ _ (Ex.new hT _ _ f3), small1000 ?_, ((f2.trans (Ex.new hT)).trans e10).mut hA, ?_⟩⟩
              · simp only [List.length_map, List.length_replicate]
                omega
              · rw [upd_same, List.replicate_succ', List.map_append]
                rfl
        · obtain ⟨f2, f3⟩ := hI
          refine ⟨A, _, rfl, sq_of f3, ?_⟩
          rw [show ∀ n : Nat, (List.replicate n true).all id = true from fun n => by simp [List.all_replicate]]
          exact q H8 f2
      have gD7 := e7 _ _ gD6
      have e17 := (e3.trans e46).trans e7
      refine ⟨.str wd, rfl, .ref D, rfl, D, _, rfl, .inr (sq_of gD7), ?_, fun q hq => kk q _ (fresh_back e17 hq) (e17.trans (Ex.new hq)) (by rw [upd_same, List.append_nil])⟩
      show (_ :: ((strsD st).map V.str ++ [])).length ≤ sizeLine
      rw [List.append_nil, List.length_cons, List.length_map]
      exact fits (by omega)

end
end K05
set_option Elab.async false
set_option linter.all false
set_option maxRecDepth 100000
set_option maxHeartbeats 8000000
namespace K05
open PySem PySem.Spec PyProof.Rows L2 He XH XV XR PEN TR Evl


theorem rv_eqI {H : Hp} {i j : Int} : RV rEq (.int i) (.int j) H (.bl (decide (i = j))) := by
  have e : decide (V.int i = V.int j) = decide (i = j) := by
    rw [decide_eq_decide]
    exact ⟨fun h => by injection h, fun h => by rw [h]⟩
  rw [← e]
  exact rv_eq rfl
def Ends (e : Nat) (rest : List Str) : Prop := ∃ d x, rest.headD "" = mgn d ++ x ∧ d < e ∧ NoB x
theorem Ends.more {e : Nat} {rest : List Str} (h : Ends e rest) : Ends (e + 1) rest := by
  obtain ⟨d, x, h1, h2, h3⟩ := h
  exact ⟨d, x, h1, by omega, h3⟩
theorem Ends.no {e : Nat} {rest : List Str} (h : Ends e rest) : Txt.startswith (rest.headD "") (mgn e) = false := by
  obtain ⟨d, x, h1, h2, h3⟩ := h
  rw [h1]
  exact starts_gt h2 h3
theorem getD_drop (ls : List Str) (i : Nat) : ls.getD i "" = (ls.drop i).headD "" := by
  rw [List.getD_eq_getElem?_getD, List.headD_eq_head?_getD, List.head?_drop]
theorem drop_more {α : Type} {ls X Y : List α} {i : Nat} (h : ls.drop i = X ++ Y) : ls.drop (i + X.length) = Y := by
  rw [← List.drop_drop, h, List.drop_left]
def Short (ls : List Str) : Prop := ∀ z ∈ ls, z.length ≤ 900
theorem short_at {ls : List Str} (h : Short ls) (i : Nat) : (ls.getD i "").length ≤ 900 := by
  rw [List.getD_eq_getElem?_getD]
  cases q : ls[i]? with
  | none => decide +kernel
  | some z => exact h z (List.mem_of_getElem? q)
theorem second_nob (w : Str) : NoB (secondW w) := by
  unfold secondW
  split
  · exact let_nob (let_of (by decide +kernel))
  · split
    · exact let_nob (let_of (by decide +kernel))
    · split
      · exact let_nob (let_of (by decide +kernel))
      · split
        · exact let_nob (let_of (by decide +kernel))
        · exact let_nob (let_of (by decide +kernel))
theorem firstW_len : ∀ w ∈ words, 1 ≤ (firstW w).length := by
  have k : ∀ w ∈ words, decide (1 ≤ (firstW w).length) = true := by decide +kernel
  exact fun w h => of_decide_eq_true (k w h)
/-- a statement's line ends what stands deeper -/
theorem ends_line {cs rs os : List Str} {s : PyData} (h : Wf cs rs os s) (e : Nat) (n : Nat) (rest : List Str) : Ends (e + 1) (lnS n (mgn e) s ++ rest) := by
  obtain ⟨wd, ks, args, es, hk, _⟩ := h
  have ew : wordS s = wd := by rw [es]; rfl
  have hw : wd ∈ words := List.mem_map.mpr ⟨_, hk, rfl⟩
  obtain ⟨y, hy⟩ := join_cons (firstW (wordS s)) (strsD s)
  refine ⟨e, firstW (wordS s) ++ y, ?_, by omega, ?_⟩
  · show mgn e ++ Txt.join blank (firstW (wordS s) :: strsD s) = _
    rw [hy]
  · rw [ew]
    exact nob_app (let_nob (let_first (ent_let hk))) (firstW_len wd hw)
theorem ends_flat {cs rs os : List Str} {n e : Nat} {ss rest : _} (h : LB cs rs os (n + 1) ss) (he : Ends e rest) : Ends (e + 1) (ss.flatMap (lnS n (mgn e)) ++ rest) := by
  match ss, h with
  | [], _ => exact he.more
  | s :: r, h =>
    rw [List.flatMap_cons, List.append_assoc]
    exact ends_line (h s List.mem_cons_self).1 e n _
theorem parts2 {cs rs os : List Str} {s : PyData} (h : Wf cs rs os s) : (parts s).length ≤ 2 := by
  obtain ⟨w, ks, args, rfl, hk, hl, hf⟩ := h
  have hsp := Wf.split ⟨w, ks, args, rfl, hk, hl, hf⟩
  have k9 := kinds9 _ hk
  simp only [List.mem_cons, List.not_mem_nil, or_false] at k9
  have z : (parts (.tuple (.str w :: args))).length ≤ args.length := List.length_filter_le ..
  rcases k9 with e | e | e | e | e | e | e | e | e
  all_goals (rw [e] at hl; simp only [List.length_cons, List.length_nil] at hl)
  all_goals first
    | omega
    | skip
  subst e
  match args, hl with
  | [x, y, z], _ =>
    obtain ⟨a, rfl, ha⟩ := str_of (by decide +kernel) (hf 0 _ x rfl rfl)
    obtain ⟨ds, rfl⟩ := part_of (hf 1 _ y rfl rfl)
    obtain ⟨es, rfl⟩ := part_of (hf 2 _ z rfl rfl)
    exact Nat.le_refl 2
theorem part_count {cs rs os : List Str} {w : Str} {ks : List Str} {args : List PyData} (hk : (w, ks) ∈ ENT) (hl : args.length = ks.length) (hf : ∀ (i : Nat) (k : Str) (x : PyData), ks[i]? = some k → args[i]? = some x → fitsP cs rs os k x) : (ks.countP fun y => decide (y = ("part" : Str))) = (parts (.tuple (.str w :: args))).length := by
  have k9 := kinds9 _ hk
  simp only [List.mem_cons, List.not_mem_nil, or_false] at k9
  have one : ∀ k : Str, ¬ k = "part" → ks = [k] → (ks.countP fun y => decide (y = ("part" : Str))) = (parts (.tuple (.str w :: args))).length := by
    intro k hkn e
    subst e
    match args, hl with
    | [x], _ =>
      obtain ⟨z, rfl, _⟩ := str_of hkn (hf 0 k x rfl rfl)
      rw [List.countP_cons, if_neg (by rw [decide_eq_false hkn]; exact Bool.false_ne_true)]
      rfl
  rcases k9 with e | e | e | e | e | e | e | e | e
  · subst e
    match args, hl with
    | [], _ => rfl
  · exact one _ (by decide +kernel) e
  · exact one _ (by decide +kernel) e
  · exact one _ (by decide +kernel) e
  · exact one _ (by decide +kernel) e
  · exact one _ (by decide +kernel) e
  · subst e
    match args, hl with
    | [x], _ =>
      obtain ⟨ds, rfl⟩ := part_of (hf 0 _ x rfl rfl)
      show _ = 1
      decide +kernel
  · subst e
    match args, hl with
    | [x, y], _ =>
      obtain ⟨ds, rfl⟩ := part_of (hf 0 _ x rfl rfl)
      obtain ⟨es, rfl⟩ := part_of (hf 1 _ y rfl rfl)
      show _ = 2
      decide +kernel
  · subst e
    match args, hl with
    | [x, y, z], _ =>
      obtain ⟨a, rfl, _⟩ := str_of (by decide +kernel) (hf 0 _ x rfl rfl)
      obtain ⟨ds, rfl⟩ := part_of (hf 1 _ y rfl rfl)
      obtain ⟨es, rfl⟩ := part_of (hf 2 _ z rfl rfl)
      show _ = 2
      decide +kernel
def spPart2 (K : PySem.W.Frag) (n : Nat) : Sp := fun vs H Q _ => ∃ (L : Addr) (ls : List Str) (i e : Nat) (ss : List PyData) (rest cs rs os : List Str) (m : Nat), vs = [.ref L, .int (i : Nat), .str (mgn e)] ∧ H L = some (.lst (ls.map V.str)) ∧ Short ls ∧ ls.drop i = lns n (mgn e) ss ++ rest ∧ Ends e rest ∧ LB cs rs os n ss ∧ Tts m ss ∧ LetS (cs ++ rs ++ os) ∧ e + n ≤ 5 ∧ ss.length ≤ 100 ∧
  ∀ t b H', Ex H H' → SqT K H' t [.ref b, .int ((i + (lns n (mgn e) ss).length : Nat))] → Dp K H' (.ref b) (.tuple ss) → Q (.ref t) H'
def spParts2 (K : PySem.W.Frag) (n : Nat) : Sp := fun vs H Q _ => ∃ (L : Addr) (ls : List Str) (i e : Nat) (s : PyData) (rest cs rs os : List Str) (m : Nat), vs = [.ref L, .int (i : Nat), .str (mgn e), .str (wordS s)] ∧ H L = some (.lst (ls.map V.str)) ∧ Short ls ∧ ls.drop i = (parts s).zipIdx.flatMap (lnP n (mgn e) s) ++ rest ∧ Ends (e + 1) rest ∧ Wf cs rs os s ∧ (∀ p ∈ parts s, ∃ ds, p = .tuple ds ∧ ds.length ≤ 100 ∧ LB cs rs os n ds) ∧ Tts m (parts s) ∧ LetS (cs ++ rs ++ os) ∧ e + 1 + n ≤ 5 ∧
  ∀ t b H', Ex H H' → SqT K H' t [.ref b, .int ((i + ((parts s).zipIdx.flatMap (lnP n (mgn e) s)).length : Nat))] → Dp K H' (.ref b) (.tuple (parts s)) → Q (.ref t) H'

section
variable {P : Program} {w : World} {K : PySem.W.Frag} {mg : Str → Option Value} {base : Heap}

theorem ok_read_parts {fd : FuncData} {n k : Nat} (hk1 : 1 ≤ k) (F : FnP K "read_parts" "read_parts" s_read_parts (ga K "read_parts") fd) (T : Td K w mg) (c_line_at : Cl P w K mg base CX0 1 (ga K "line_at") ["lines", "at"] (spLine K)) (c_read_part : Cl P w K mg base CX0 k (ga K "read_part") ["lines", "at", "margin"] (spPart2 K n)) : FnOk P w K mg base CX0 (k + 1) (ga K "read_parts") fd ["lines", "at", "margin", "word"] (spParts2 K n) := by
  obtain ⟨fd_line_at, G_line_at, b_line_at, kp_line_at⟩ := c_line_at
  obtain ⟨fd_read_part, G_read_part, b_read_part, kp_read_part⟩ := c_read_part
  refine FunD.ok F sc_read_parts (fun vs H Q E h => ?_) (fun cdv A outer s H vs Q E hr h => ?_)
  · obtain ⟨l, ls, i, e, st, rest, cs, rs, os, m, rfl, _⟩ := h
    rfl
  · obtain ⟨l, ls, i, e, st, rest, cs, rs, os, m, rfl, hl, hsh, hdrop, hends, hwf, hpt, hts, hLet, hen, kk⟩ := h
    have n_range := T.fr "range" (by decide +kernel)
    have g_ENTRIES := T.gl "ENTRIES" (by decide +kernel)
    have g_line_at := T.gl "line_at" (by decide +kernel)
    have g_SECOND_WORDS := T.gl "SECOND_WORDS" (by decide +kernel)
    have g_read_part := T.gl "read_part" (by decide +kernel)
    obtain ⟨tk_STEP, g_STEP⟩ := T.c_STEP
    have n_tuple := T.fr "tuple" (by decide +kernel)
    obtain ⟨esE, nE, DE, hE⟩ := T.en
    refine ⟨_, PSs.nox (pss_cons (ps_set (i := 4) sc_read_parts.nd rfl (Or.inl rfl) (pe_lst pa_nil))
      (pss_cons (ps_for PassesOwn.never rfl (pi_range1 (by rfl) n_range (pa_cons (pe_bm PySem.F.plainAttrs_tuple PySem.F.slot_tuple_count PySem.F.type_tuple_count (SU.mt_tcount hr.units) (pe_ix ix_kdict (pe_glob (v := .ref _) (by rfl) g_ENTRIES rfl) (pv 3) (fun _ _ => rfl)) (pa_cons pe_str pa_nil)) pa_nil)) (pg_name (i := 5) sc_read_parts.nd rfl (Or.inl rfl))
      (pss_cut (ps_if (pt_cmpR op_eq (pv 5) pe_int (nomark _))
      (pss_cons (ps_if (pt_cmpR op_ne (pe_call G_line_at (hr.mono (by omega)) (by rfl) g_line_at kp_line_at b_line_at .nil pass0 (pa_cons (pv 0) (pa_cons (pv 1) pa_nil))) (pe_op op_add_str (pv 2) (pe_ix ix_kdict (pe_glob (v := .ref _) (by rfl) g_SECOND_WORDS rfl) (pv 3) (fun _ _ => rfl))) (nomark _))
      (pss_one ps_never)
      pss_nil)
      (pss_one (ps_aug (i := 1) sc_read_parts.nd rfl (Or.inl rfl) pe_int ip_add)))
      pss_nil)
      (pss_cons (ps_asg (pe_call G_read_part (hr.mono (by omega)) (by rfl) g_read_part kp_read_part b_read_part .nil pass0 (pa_cons (pv 0) (pa_cons (pv 1) (pa_cons (pe_op op_add_str (pv 2) (pe_glob (v := .str _) (by rfl) g_STEP ⟨_, rfl⟩)) pa_nil)))) (pg_tup rfl (pgs_cons (pg_name (i := 6) sc_read_parts.nd rfl (Or.inl rfl)) (pgs_cons (pg_name (i := 1) sc_read_parts.nd rfl (Or.inl rfl)) pgs_nil))))
      (pss_one (ps_expr (pe_bm PySem.F.plainAttrs_list PySem.F.slot_list_append PySem.F.type_list_append mt_append (pv 4) (pa_cons (pv 6) pa_nil)))))))
      (pss_one (ps_ret (pe_tup (pa_cons (pe_callTy call_tuple_of (by rfl) n_tuple (by decide +kernel) (pa_cons (pv 4) pa_nil)) (pa_cons (pv 1) pa_nil))))))), ?_⟩
    obtain ⟨wd, ks, args, es_, hk, hkl, hf⟩ := id hwf
    have ew : wordS st = wd := by rw [es_]; rfl
    have hpc := part_count hk hkl hf
    rw [← es_] at hpc
    have hp2 := parts2 hwf
    obtain ⟨ak, hak, hat, ok_, ho1, ho2, ho3⟩ := T.ed _ hk
    have ml := mgn_len e
    have sl : step.length = 2 := by decide +kernel
    rw [ew]
    refine q_asgL (el_lst ea_nil (by decide)) fun D H1 hD e1 g1 => ?_
    try dsimp only [gName, List.set]
    refine q_forR1 (n := ((parts st).length : Nat)) (ea_cons (fun H2 e2 Q q => ⟨.str wd, rfl, _, wd, .ref ak, rfl, rfl, ⟨esE, nE, _, DE.at_, DE.lit, hak, rfl⟩, .inr (.inl ⟨rfl, ok_, ho1, ho2, ho3⟩), ak, ks, "part", rfl, rfl, hat _, by rw [hpc]; exact q H2 (Ex.refl _)⟩) ea_nil) ⟨by omega, by omega⟩
      (fun j σ' H' => ∃ (v5 v6 : Option V) (vs : List V), σ' = [some (.ref l), some (.int ((i + (((parts st).zipIdx.take j).flatMap (lnP n (mgn e) st)).length : Nat) : Int)), some (.str (mgn e)), some (.str wd), some (.ref D), v5, v6] ∧ H' D = some (.lst vs) ∧ DpAll K H' vs ((parts st).take j) ∧ Ex H H')
      (fun H2 e2 => ⟨_, _, [], rfl, e2 _ _ g1, .nil, e1.trans e2⟩) (fun j σ' H2 hj hI => ?_) (fun σ' H2 hI => ?_)
    · obtain ⟨v5, v6, vs, rfl, gD, dvs, e2⟩ := hI
      have hj2 : j < (parts st).length := by omega
      obtain ⟨pd, hpd⟩ : ∃ pd, (parts st)[j]? = some pd := ⟨_, List.getElem?_eq_getElem hj2⟩
      have hpm := List.mem_of_getElem? hpd
      obtain ⟨ds, rfl, hds, hLB⟩ := hpt pd hpm
      have tds := hts.at _ hpm
      obtain ⟨m', ttds⟩ : ∃ m', Tts m' ds := by
        cases tds with
        | tup _ h => exact ⟨_, h⟩
      have mz : (parts st).zipIdx[j]? = some (.tuple ds, j) := by
        rw [List.getElem?_zipIdx, hpd]
        simp
      have fm := flat_more (lnP n (mgn e) st) mz
      have pj : lnP n (mgn e) st (.tuple ds, j) = (if j = 1 then [mgn e ++ secondW wd] else []) ++ lns n (mgn (e + 1)) ds := by
        unfold lnP
        rw [ew]
        rfl
      rw [pj] at fm
      have spl : (parts st).zipIdx.flatMap (lnP n (mgn e) st) = ((parts st).zipIdx.take (j + 1)).flatMap (lnP n (mgn e) st) ++ ((parts st).zipIdx.drop (j + 1)).flatMap (lnP n (mgn e) st) := by
        rw [← List.flatMap_append, List.take_append_drop]
      rw [spl, fm, List.append_assoc, List.append_assoc] at hdrop
      have hd2 := drop_more hdrop
      rw [List.append_assoc] at hd2
      have lvs := dpAll_len dvs
      rw [List.length_take] at lvs
      have ends2 : Ends (e + 1) (((parts st).zipIdx.drop (j + 1)).flatMap (lnP n (mgn e) st) ++ rest) := by
        cases q : (parts st)[j + 1]? with
        | none =>
          have hq := List.getElem?_eq_none_iff.mp q
          rw [List.drop_of_length_le (by rw [List.length_zipIdx]; exact hq)]
          exact hends
        | some p2 =>
          have hq := (List.getElem?_eq_some_iff.mp q).1
          have j0 : j = 0 := by omega
          subst j0
          have mz2 : (parts st).zipIdx[0 + 1]? = some (p2, 0 + 1) := by
            rw [List.getElem?_zipIdx, q]
            simp
          have hq2 := List.getElem?_eq_some_iff.mp mz2
          obtain ⟨hq3, hq4⟩ := hq2
          rw [List.drop_eq_getElem_cons hq3, hq4, List.flatMap_cons]
          exact ⟨e, secondW (wordS st), rfl, by omega, second_nob _⟩
      generalize hA : (((parts st).zipIdx.take j).flatMap (lnP n (mgn e) st)).length = A at hd2
      have flen : (((parts st).zipIdx.take (j + 1)).flatMap (lnP n (mgn e) st)).length = A + ((if j = 1 then [mgn e ++ secondW wd] else []).length + (lns n (mgn (e + 1)) ds).length) := by
        rw [fm, List.length_append, List.length_append, hA]
      try dsimp only [gName, List.set]
      -- the second word
      refine q_cut (M := fun σ' H' => σ' = [some (.ref l), some (.int ((i + A + (if j = 1 then [mgn e ++ secondW wd] else []).length : Nat) : Int)), some (.str (mgn e)), some (.str wd), some (.ref D), some (.int (j : Nat)), v6] ∧ Ex H2 H') ?_ fun σ3 H3 hM => ?_
      · refine s_when (b := decide ((j : Int) = 1)) (et_test (ev_op (ev_var rfl) ev_c rv_eqI)) (fun hb H3 e3 => ?_) (fun hb H3 e3 => ?_)
        · have j1 : j = 1 := by have := of_decide_eq_true hb; omega
          rw [if_pos j1] at hd2
          obtain ⟨hsec, lsec⟩ := sec_word T.toTx (z := wd) (by rw [← ew]; exact two_secs hwf (by omega))
          have hline : ls.getD (i + A) "" = mgn e ++ secondW wd := by
            rw [getD_drop, hd2]
            rfl
          refine q_when (b := false) (et_is (et_test (ev_op (ev_call (z := .str (mgn e ++ secondW wd)) (ea_cons (ev_var rfl) (ea_cons (ev_var rfl) ea_nil)) fun H4 e4 R q _ => ⟨l, ls, i + A, rfl, (e2.trans (e3.trans e4)) _ _ hl, fun H5 e5 => by rw [hline]; exact q H5 e5⟩) (y := .str (mgn e ++ secondW wd)) (fun H4 e4 Q q => ⟨.str (mgn e), rfl, .str wd, rfl, _, wd, .str (secondW wd), rfl, rfl, hsec, mgn e, _, rfl, rfl, fits (by omega), q H4 (Ex.refl _)⟩) rv_neS)) rfl) (fun h => nomatch h) (fun _ H4 e4 => ?_)
          refine s_aug (f := fun a b => a + b) rfl ev_c fun H5 e5 => ⟨?_, (e3.trans e4).trans e5⟩
          rw [if_pos j1]
          rfl
        · have j1 : ¬ j = 1 := fun h => by have := of_decide_eq_false hb; omega
          refine ⟨?_, e3⟩
          rw [if_neg j1]
          rfl
      obtain ⟨rfl, e3⟩ := hM
      have hd3 := drop_more hd2
      generalize hB : (if j = 1 then [mgn e ++ secondW wd] else []).length = B at hd3 flen
      have e23 := e2.trans e3
      refine ⟨.ref l, rfl, .int ((i + A + B : Nat) : Int), rfl, .str (mgn e), rfl, mgn e, step, rfl, rfl, fits (by omega), l, ls, i + A + B, e + 1, ds, _, cs, rs, os, m', rfl, e23 _ _ hl, hsh, hd3, ends2, hLB, ttds, hLet, by omega, hds, fun t b H4 e4 ht db => ?_⟩
      refine ⟨t, [.ref b, .int ((i + A + B + (lns n (mgn (e + 1)) ds).length : Nat) : Int)], rfl, ht, rfl, .ref b, [.int ((i + A + B + (lns n (mgn (e + 1)) ds).length : Nat) : Int)], rfl, .int ((i + A + B + (lns n (mgn (e + 1)) ds).length : Nat) : Int), [], rfl, rfl, ?_⟩
      try dsimp only [gName, List.set]
      have gD4 := e4 _ _ (e3 _ _ gD)
      have dv4 := dpMs (e3.trans e4) _ _ dvs
      refine ⟨.ref D, rfl, .inl ⟨rfl, _, sq_of gD4⟩, .ref b, rfl, D, vs, .ref b, rfl, rfl, gD4, small1000 (by omega), some (.int (j : Nat)), some (.ref b), vs ++ [.ref b], ?_, upd_same, ?_, (e23.trans e4).mut hD⟩
      · rw [flen, show i + (A + (B + (lns n (mgn (e + 1)) ds).length)) = i + A + B + (lns n (mgn (e + 1)) ds).length by omega]
      · rw [take_more hpd]
        exact dpAll_add (dps_off gD4 (Tts.of fun d hd => hts.at d (List.mem_of_mem_take hd)) dv4) (dp_off gD4 tds db)
    · obtain ⟨v5, v6, vs, rfl, gD, dvs, e2⟩ := hI
      rw [Int.toNat_natCast, List.take_length] at dvs
      rw [Int.toNat_natCast, List.take_of_length_le (by rw [List.length_zipIdx]; exact Nat.le_refl _)]
      refine ⟨.ref D, rfl, D, vs, rfl, .inl ⟨sq_of gD, fun u hu => ⟨.int _, rfl, (show 2 ≤ sizeLine by decide), fun t ht => kk t u _ (e2.trans ((Ex.new hu).trans (Ex.new ht))) (st_of upd_same) (dpM (Ex.new ht) _ _ (.tup (st_of upd_same) (dpMs (Ex.new hu) _ _ dvs)))⟩⟩⟩

end
end K05
set_option Elab.async false
set_option linter.all false
set_option maxRecDepth 100000
set_option maxHeartbeats 8000000
namespace K05
open PySem PySem.Spec PyProof.Rows L2 He XH XV XR PEN TR Evl


/-- what a head is: of the next statement, or of none -/
def HeadOk (K : PySem.W.Frag) (H : Hp) (hd : Addr) : List PyData → Prop
  | [] => H hd = some (.tup [])
  | s :: _ => H hd = some (.tup (.str (wordS s) :: (strsD s).map V.str))
theorem HeadOk.mono {K : PySem.W.Frag} {H H' : Hp} (e : Ex H H') {hd : Addr} : ∀ {ss : List PyData}, HeadOk K H hd ss → HeadOk K H' hd ss
  | [], h => e _ _ h
  | _ :: _, h => e _ _ h
theorem dp_strs2 {K : PySem.W.Frag} {H : Hp} : ∀ zs : List Str, DpAll K H (zs.map V.str) (zs.map PyData.str)
  | [] => .nil
  | z :: r => .cons (.str z) (dp_strs2 r)
theorem wf_tup {cs rs os : List Str} {s : PyData} (h : Wf cs rs os s) : PyData.tuple ((.str (wordS s) :: (strsD s).map PyData.str) ++ parts s) = s := by
  have hsp := h.split
  obtain ⟨w, ks, args, rfl, _⟩ := h
  show PyData.tuple (.str w :: (((strsD (.tuple (.str w :: args))).map PyData.str) ++ parts (.tuple (.str w :: args)))) = _
  rw [← hsp]
  rfl
theorem tts_mem {m : Nat} {ss : List PyData} {s : PyData} (h : Tts m ss) (hs : s ∈ ss) : ∃ m', Tts m' (parts s) := parts_tts (h.at s hs)

section
variable {P : Program} {w : World} {K : PySem.W.Frag} {mg : Str → Option Value} {base : Heap}

theorem ok_read_part0 {fd : FuncData} (F : FnP K "read_part" "read_part" s_read_part (ga K "read_part") fd) (T : Td K w mg) (c_line_at : Cl P w K mg base CX0 1 (ga K "line_at") ["lines", "at"] (spLine K)) (c_read_head : Cl P w K mg base CX0 3 (ga K "read_head") ["line", "margin"] (spHd K)) : FnOk P w K mg base CX0 (3 + 1) (ga K "read_part") fd ["lines", "at", "margin"] (spPart2 K 0) := by
  obtain ⟨fd_line_at, G_line_at, b_line_at, kp_line_at⟩ := c_line_at
  obtain ⟨fd_read_head, G_read_head, b_read_head, kp_read_head⟩ := c_read_head
  refine FunD.ok F sc_read_part (fun vs H Q E h => ?_) (fun cdv A outer s H vs Q E hr h => ?_)
  · obtain ⟨l, ls, i, e, ss, rest, cs, rs, os, m, rfl, _⟩ := h
    rfl
  · obtain ⟨l, ls, i, e, ss, rest, cs, rs, os, m, rfl, hl, hsh, hdrop, hends, hLB, hts, hLet, hen, hss, kk⟩ := h
    have g_read_head := T.gl "read_head" (by decide +kernel)
    have g_line_at := T.gl "line_at" (by decide +kernel)
    have n_tuple := T.fr "tuple" (by decide +kernel)
    refine ⟨_, PSs.nox (pss_cons (ps_set (i := 3) sc_read_part.nd rfl (Or.inl rfl) (pe_lst pa_nil))
      (pss_cons (ps_set (i := 4) sc_read_part.nd rfl (Or.inl rfl) (pe_call G_read_head (hr.mono (by decide)) (by rfl) g_read_head kp_read_head b_read_head .nil pass0 (pa_cons (pe_call G_line_at (hr.mono (by decide)) (by rfl) g_line_at kp_line_at b_line_at .nil pass0 (pa_cons (pv 0) (pa_cons (pv 1) pa_nil))) (pa_cons (pv 2) pa_nil))))
      (pss_cons (ps_while PassesOwn.never (pt_truth (pv 4) (fun _ => rfl))
      (pss_cons ps_never (pss_cons ps_never (pss_one ps_never))))
      (pss_one (ps_ret (pe_tup (pa_cons (pe_callTy call_tuple_of (by rfl) n_tuple (by decide +kernel) (pa_cons (pv 3) pa_nil)) (pa_cons (pv 1) pa_nil)))))))), ?_⟩
    have e0 : ss = [] := hLB
    subst e0
    have ml := mgn_len e
    have hdrop : ls.drop i = rest := hdrop
    have hdE : ∀ {σ : L2.St} {H1 : Hp} {Q' : VK} {ss' : List PyData} {at_ : Nat} {E1 E2 : XK}, Ex H H1 → σ[0]? = some (some (.ref l)) → σ[1]? = some (some (.int (at_ : Nat))) → σ[2]? = some (some (.str (mgn e))) → ls.drop at_ = ss'.flatMap (lnS 0 (mgn e)) ++ rest → (∀ s ∈ ss', e ≤ 4 ∧ Wf cs rs os s) → (∀ q H2, H1 q = none → Ex H1 H2 → HeadOk K H2 q ss' → Q' (.ref q) H2) → tCall (spHd K) [] E1 (tCons (tCall (spLine K) [] E2 (tCons (tVar 0) (tCons (tVar 1) tNil))) (tCons (tVar 2) tNil)) σ H1 Q' := by
      intro σ H1 Q' ss' at_ E1 E2 ex s0 s1 s2 hdr hwf kq
      refine ⟨.ref l, s0, .int (at_ : Nat), s1, l, ls, at_, rfl, ex _ _ hl, fun H2 e2 => ⟨.str (mgn e), s2, ls.getD at_ "", mgn e, rfl, short_at hsh at_, by omega, ?_⟩⟩
      match ss', hdr, hwf, kq with
      | [], hdr, hwf, kq =>
        refine .inl ⟨.inl ?_, fun q H3 hq e3 g => kq q H3 (fresh_back e2 hq) (e2.trans e3) g⟩
        rw [getD_drop, hdr]
        exact hends.no
      | s :: r, hdr, hwf, kq =>
        obtain ⟨h4, hw⟩ := hwf s List.mem_cons_self
        refine .inr ⟨s, cs, rs, os, by omega, ?_, hw, hLet, fun q H3 hq e3 g => kq q H3 (fresh_back e2 hq) (e2.trans e3) g⟩
        rw [getD_drop, hdr]
        rfl
    refine q_asgL (el_lst ea_nil (by decide)) fun D H1 hD e1 g1 => ?_
    try dsimp only [gName, List.set]
    refine hdE (σ := [some (.ref l), some (.int (i : Nat)), some (.str (mgn e)), some (.ref D), none, none]) (ss' := []) (at_ := i) e1 rfl rfl rfl hdrop (fun s h => nomatch h) fun q H2 hq e2 hok => ?_
    try dsimp only [gName, List.set]
    refine q_while (fun m' σ' H' => σ' = [some (.ref l), some (.int (i : Nat)), some (.str (mgn e)), some (.ref D), some (.ref q), none] ∧ Ex H2 H') 0 ⟨rfl, Ex.refl _⟩ (fun m' σ' H' hW => ?_)
    obtain ⟨rfl, e3⟩ := hW
    refine ⟨false, fun H4 e4 Q' k => ⟨.ref q, rfl, false, .inr (.inl ⟨[], st_of (e4 _ _ (e3 _ _ hok)), rfl⟩), k H4 (Ex.refl _)⟩, (fun h => nomatch h), fun _ H4 e4 => ?_⟩
    have gD := e4 _ _ (e3 _ _ (e2 _ _ g1))
    have ex := (e1.trans e2).trans (e3.trans e4)
    exact ⟨.ref D, rfl, D, [], rfl, .inl ⟨sq_of gD, fun u hu => ⟨.int _, rfl, (show 2 ≤ sizeLine by decide), fun t ht => kk t u _ (ex.trans ((Ex.new hu).trans (Ex.new ht))) (st_of upd_same) (dpM (Ex.new ht) _ _ (.tup (st_of upd_same) .nil))⟩⟩⟩

theorem ok_read_partS {fd : FuncData} {n k : Nat} (hk3 : 3 ≤ k) (F : FnP K "read_part" "read_part" s_read_part (ga K "read_part") fd) (T : Td K w mg) (c_line_at : Cl P w K mg base CX0 1 (ga K "line_at") ["lines", "at"] (spLine K)) (c_read_head : Cl P w K mg base CX0 3 (ga K "read_head") ["line", "margin"] (spHd K)) (c_read_parts : Cl P w K mg base CX0 k (ga K "read_parts") ["lines", "at", "margin", "word"] (spParts2 K n)) : FnOk P w K mg base CX0 (k + 1) (ga K "read_part") fd ["lines", "at", "margin"] (spPart2 K (n + 1)) := by
  obtain ⟨fd_line_at, G_line_at, b_line_at, kp_line_at⟩ := c_line_at
  obtain ⟨fd_read_head, G_read_head, b_read_head, kp_read_head⟩ := c_read_head
  obtain ⟨fd_read_parts, G_read_parts, b_read_parts, kp_read_parts⟩ := c_read_parts
  refine FunD.ok F sc_read_part (fun vs H Q E h => ?_) (fun cdv A outer s H vs Q E hr h => ?_)
  · obtain ⟨l, ls, i, e, ss, rest, cs, rs, os, m, rfl, _⟩ := h
    rfl
  · obtain ⟨l, ls, i, e, ss, rest, cs, rs, os, m, rfl, hl, hsh, hdrop, hends, hLB, hts, hLet, hen, hss, kk⟩ := h
    have g_read_head := T.gl "read_head" (by decide +kernel)
    have g_line_at := T.gl "line_at" (by decide +kernel)
    have g_read_parts := T.gl "read_parts" (by decide +kernel)
    have n_tuple := T.fr "tuple" (by decide +kernel)
    refine ⟨_, PSs.nox (pss_cons (ps_set (i := 3) sc_read_part.nd rfl (Or.inl rfl) (pe_lst pa_nil))
      (pss_cons (ps_set (i := 4) sc_read_part.nd rfl (Or.inl rfl) (pe_call G_read_head (hr.mono (by omega)) (by rfl) g_read_head kp_read_head b_read_head .nil pass0 (pa_cons (pe_call G_line_at (hr.mono (by omega)) (by rfl) g_line_at kp_line_at b_line_at .nil pass0 (pa_cons (pv 0) (pa_cons (pv 1) pa_nil))) (pa_cons (pv 2) pa_nil))))
      (pss_cons (ps_while PassesOwn.never (pt_truth (pv 4) (fun _ => rfl))
      (pss_cons (ps_asg (pe_call G_read_parts (hr.mono (by omega)) (by rfl) g_read_parts kp_read_parts b_read_parts .nil pass0 (pa_cons (pv 0) (pa_cons (pe_op op_add (pv 1) pe_int) (pa_cons (pv 2) (pa_cons (pe_ix ix_tup (pv 4) pe_int (fun _ _ => rfl)) pa_nil))))) (pg_tup rfl (pgs_cons (pg_name (i := 5) sc_read_part.nd rfl (Or.inl rfl)) (pgs_cons (pg_name (i := 1) sc_read_part.nd rfl (Or.inl rfl)) pgs_nil))))
      (pss_cons (ps_expr (pe_bm PySem.F.plainAttrs_list PySem.F.slot_list_append PySem.F.type_list_append mt_append (pv 3) (pa_cons (pe_op PZ.op_cat2 (pv 4) (pv 5)) pa_nil)))
      (pss_one (ps_set (i := 4) sc_read_part.nd rfl (Or.inl rfl) (pe_call G_read_head (hr.mono (by omega)) (by rfl) g_read_head kp_read_head b_read_head .nil pass0 (pa_cons (pe_call G_line_at (hr.mono (by omega)) (by rfl) g_line_at kp_line_at b_line_at .nil pass0 (pa_cons (pv 0) (pa_cons (pv 1) pa_nil))) (pa_cons (pv 2) pa_nil))))))))
      (pss_one (ps_ret (pe_tup (pa_cons (pe_callTy call_tuple_of (by rfl) n_tuple (by decide +kernel) (pa_cons (pv 3) pa_nil)) (pa_cons (pv 1) pa_nil)))))))), ?_⟩
    have ml := mgn_len e
    have hdrop : ls.drop i = ss.flatMap (lnS n (mgn e)) ++ rest := hdrop
    have hdE : ∀ {σ : L2.St} {H1 : Hp} {Q' : VK} {ss' : List PyData} {at_ : Nat} {E1 E2 : XK}, Ex H H1 → σ[0]? = some (some (.ref l)) → σ[1]? = some (some (.int (at_ : Nat))) → σ[2]? = some (some (.str (mgn e))) → ls.drop at_ = ss'.flatMap (lnS n (mgn e)) ++ rest → (∀ s ∈ ss', e ≤ 4 ∧ Wf cs rs os s) → (∀ q H2, H1 q = none → Ex H1 H2 → HeadOk K H2 q ss' → Q' (.ref q) H2) → tCall (spHd K) [] E1 (tCons (tCall (spLine K) [] E2 (tCons (tVar 0) (tCons (tVar 1) tNil))) (tCons (tVar 2) tNil)) σ H1 Q' := by
      intro σ H1 Q' ss' at_ E1 E2 ex s0 s1 s2 hdr hwf kq
      refine ⟨.ref l, s0, .int (at_ : Nat), s1, l, ls, at_, rfl, ex _ _ hl, fun H2 e2 => ⟨.str (mgn e), s2, ls.getD at_ "", mgn e, rfl, short_at hsh at_, by omega, ?_⟩⟩
      match ss', hdr, hwf, kq with
      | [], hdr, hwf, kq =>
        refine .inl ⟨.inl ?_, fun q H3 hq e3 g => kq q H3 (fresh_back e2 hq) (e2.trans e3) g⟩
        rw [getD_drop, hdr]
        exact hends.no
      | s :: r, hdr, hwf, kq =>
        obtain ⟨h4, hw⟩ := hwf s List.mem_cons_self
        refine .inr ⟨s, cs, rs, os, by omega, ?_, hw, hLet, fun q H3 hq e3 g => kq q H3 (fresh_back e2 hq) (e2.trans e3) g⟩
        rw [getD_drop, hdr]
        rfl
    refine q_asgL (el_lst ea_nil (by decide)) fun D H1 hD e1 g1 => ?_
    try dsimp only [gName, List.set]
    refine hdE (ss' := ss) (at_ := i) e1 rfl rfl rfl hdrop (fun s h => ⟨by omega, (hLB s h).1⟩) fun q H2 hq e2 hok => ?_
    try dsimp only [gName, List.set]
    have hD0 : H D = none := hD
    refine q_while (fun m' σ' H' => ∃ (j : Nat) (vs : List V) (hd : Addr) (v5 : Option V), j ≤ ss.length ∧ m' = ss.length - j ∧ σ' = [some (.ref l), some (.int ((i + ((ss.take j).flatMap (lnS n (mgn e))).length : Nat) : Int)), some (.str (mgn e)), some (.ref D), some (.ref hd), v5] ∧ H' D = some (.lst vs) ∧ DpAll K H' vs (ss.take j) ∧ Ex H H' ∧ HeadOk K H' hd (ss.drop j) ∧ hd ≠ D) ss.length
      ⟨0, [], q, none, Nat.zero_le _, rfl, rfl, e2 _ _ g1, .nil, e1.trans e2, hok, fun e => by rw [e, g1] at hq; cases hq⟩ (fun m' σ' H' hW => ?_)
    obtain ⟨j, vs, hd, v5, hj, rfl, rfl, gD, dvs, eH, hok2, hne⟩ := hW
    have lvs := dpAll_len dvs
    rw [List.length_take] at lvs
    cases hss2 : ss[j]? with
    | none =>
      have hj2 : j = ss.length := by
        have := List.getElem?_eq_none_iff.mp hss2
        omega
      subst hj2
      rw [List.drop_length] at hok2
      rw [List.take_length] at dvs ⊢
      refine ⟨false, fun H4 e4 Q' k => ⟨.ref hd, rfl, false, .inr (.inl ⟨[], st_of (e4 _ _ hok2), rfl⟩), k H4 (Ex.refl _)⟩, (fun h => nomatch h), fun _ H4 e4 => ?_⟩
      refine ⟨.ref D, rfl, D, vs, rfl, .inl ⟨sq_of (e4 _ _ gD), fun u hu => ⟨.int _, rfl, (show 2 ≤ sizeLine by decide), fun t ht => kk t u _ ((eH.trans e4).trans ((Ex.new hu).trans (Ex.new ht))) (st_of upd_same) (dpM (Ex.new ht) _ _ (.tup (st_of upd_same) (dpMs (e4.trans (Ex.new hu)) _ _ dvs)))⟩⟩⟩
    | some s =>
      have hj2 := (List.getElem?_eq_some_iff.mp hss2).1
      have hsm := List.mem_of_getElem? hss2
      have edr : ss.drop j = s :: ss.drop (j + 1) := by
        rw [List.drop_eq_getElem_cons hj2]
        rw [List.getElem?_eq_getElem hj2] at hss2
        rw [Option.some.inj hss2]
      rw [edr] at hok2
      have hok3 : H' hd = some (.tup (.str (wordS s) :: (strsD s).map V.str)) := hok2
      obtain ⟨hwf, hpt⟩ := hLB s hsm
      have hts2 := hts.at s hsm
      obtain ⟨mp, hps⟩ := tts_mem hts hsm
      have fm := flat_more (lnS n (mgn e)) hss2
      have spl : ss.flatMap (lnS n (mgn e)) = (ss.take (j + 1)).flatMap (lnS n (mgn e)) ++ (ss.drop (j + 1)).flatMap (lnS n (mgn e)) := by
        rw [← List.flatMap_append, List.take_append_drop]
      have hdj := hdrop
      rw [spl, List.append_assoc] at hdj
      have hdn := drop_more hdj
      rw [fm, List.append_assoc] at hdj
      have hds := drop_more hdj
      have hLB2 : LB cs rs os (n + 1) (ss.drop (j + 1)) := fun x hx => hLB x (List.mem_of_mem_drop hx)
      have ends2 := ends_flat hLB2 hends
      have flen : ((ss.take (j + 1)).flatMap (lnS n (mgn e))).length = ((ss.take j).flatMap (lnS n (mgn e))).length + (1 + ((parts s).zipIdx.flatMap (lnP n (mgn e) s)).length) := by
        rw [fm, List.length_append]
        show _ + (_ :: (parts s).zipIdx.flatMap (lnP n (mgn e) s)).length = _
        rw [List.length_cons]
        omega
      have hds1 : ls.drop (i + ((ss.take j).flatMap (lnS n (mgn e))).length + 1) = (parts s).zipIdx.flatMap (lnP n (mgn e) s) ++ ((ss.drop (j + 1)).flatMap (lnS n (mgn e)) ++ rest) := by
        rw [← List.drop_drop, hds]
        rfl
      generalize hA : ((ss.take j).flatMap (lnS n (mgn e))).length = A at hds1 flen
      have pl100 : ∀ p ∈ parts s, ∃ ds, p = .tuple ds ∧ ds.length ≤ 100 ∧ LB cs rs os n ds := fun p hp => by
        obtain ⟨ds, rfl, h⟩ := hpt p hp
        refine ⟨ds, rfl, ?_, h⟩
        cases hps.at _ hp with
        | tup l _ => exact l
      refine ⟨true, fun H4 e4 Q' k => ⟨.ref hd, rfl, true, .inr (.inl ⟨_, st_of (e4 _ _ hok3), rfl⟩), k H4 (Ex.refl _)⟩, fun _ H3 e3 => ?_, (fun h => nomatch h)⟩
      refine ⟨fun σ' H' => ∃ (vs : List V) (hd v5 : _), σ' = [some (.ref l), some (.int ((i + ((ss.take (j + 1)).flatMap (lnS n (mgn e))).length : Nat) : Int)), some (.str (mgn e)), some (.ref D), some (.ref hd), v5] ∧ H' D = some (.lst vs) ∧ DpAll K H' vs (ss.take (j + 1)) ∧ Ex H H' ∧ HeadOk K H' hd (ss.drop (j + 1)) ∧ hd ≠ D, fun σ' H' h => ?_, ?_⟩
      · obtain ⟨vs, hd, v5, h1, h2, h3, h4, h5, h6⟩ := h
        exact ⟨ss.length - (j + 1), by omega, j + 1, vs, hd, v5, hj2, rfl, h1, h2, h3, h4, h5, h6⟩
      try dsimp only [gName, List.set]
      have eH3 := eH.trans e3
      have hh3 := e3 _ _ hok3
      refine ⟨.ref l, rfl, .int ((i + A : Nat) : Int), rfl, ((i + A : Nat) : Int), 1, rfl, rfl, .str (mgn e), rfl, .ref hd, rfl, hd, _, 0, .str (wordS s), rfl, rfl, st_of hh3, atI_nat (j := 0) rfl, l, ls, i + A + 1, e, s, _, cs, rs, os, mp, rfl, eH3 _ _ hl, hsh, hds1, ends2, hwf, pl100, hps, hLet, by omega, fun t b H4 e4 ht db => ?_⟩
      refine ⟨t, [.ref b, .int ((i + A + 1 + ((parts s).zipIdx.flatMap (lnP n (mgn e) s)).length : Nat) : Int)], rfl, ht, rfl, .ref b, [.int ((i + A + 1 + ((parts s).zipIdx.flatMap (lnP n (mgn e) s)).length : Nat) : Int)], rfl, .int ((i + A + 1 + ((parts s).zipIdx.flatMap (lnP n (mgn e) s)).length : Nat) : Int), [], rfl, rfl, ?_⟩
      try dsimp only [gName, List.set]
      have gD4 := e4 _ _ (e3 _ _ gD)
      refine ⟨.ref D, rfl, .inl ⟨rfl, _, sq_of gD4⟩, ?_⟩
      have p3 := parts2 hwf
      have s3 : (strsD s).length ≤ 3 := by
        have hsp := congrArg List.length hwf.split
        obtain ⟨w, ks, args, rfl, hk, hkl, _⟩ := hwf
        have k3 := ent3 _ hk
        simp only at k3
        rw [List.length_append, List.length_map] at hsp
        have ea : (argsOf (.tuple (.str w :: args))).length = args.length := rfl
        omega
      refine (PZ.ed_cat (ed_of (ev_var rfl) (.tup (st_of (e4 _ _ hh3)) (.cons (.str _) (dp_strs2 (strsD s))))) (ed_of (ev_var rfl) db) (by rw [List.length_cons, List.length_map]; omega)) H4 (Ex.refl _) _ fun v H5 e5 dv => ?_
      rw [wf_tup hwf] at dv
      have gD5 := e5 _ _ gD4
      refine ⟨D, vs, v, rfl, rfl, gD5, small1000 (by omega), ?_⟩
      have eH5 := (eH3.trans (e4.trans e5)).mut (p := D) (o := .lst (vs ++ [v])) hD0
      have dv6 : DpAll K (upd H5 D (.lst (vs ++ [v]))) (vs ++ [v]) (ss.take (j + 1)) := by
        rw [take_more hss2]
        exact dpAll_add (dps_off gD5 (Tts.of fun d hd => hts.at d (List.mem_of_mem_take hd)) (dpMs ((e3.trans e4).trans e5) _ _ dvs)) (dp_off gD5 hts2 dv)
      have eat : i + A + 1 + ((parts s).zipIdx.flatMap (lnP n (mgn e) s)).length = i + ((ss.take (j + 1)).flatMap (lnS n (mgn e))).length := by omega
      rw [eat]
      refine hdE (ss' := ss.drop (j + 1)) eH5 rfl rfl rfl hdn (fun x hx => ⟨by omega, (hLB2 x hx).1⟩) fun q2 H6 hq2 e6 hok6 => ?_
      try dsimp only [gName, List.set]
      exact ⟨vs ++ [v], q2, some (.ref b), rfl, e6 _ _ upd_same, dpMs e6 _ _ dv6, eH5.trans e6, hok6, fun e => by rw [e, upd_same] at hq2; cases hq2⟩

end
end K05
set_option Elab.async false
set_option linter.all false
set_option maxRecDepth 100000
set_option maxHeartbeats 8000000
namespace K05
open PySem PySem.Spec PyProof.Rows L2 He XH XV XR PEN TR Evl


theorem bodt_tl {ss : List PyData} (h : BodT ss) : TL 10 (.tuple ss) ∧ frz (.tuple ss) = .tuple ss := by
  obtain ⟨⟨m, hm9, tt⟩, _⟩ := h
  exact tt_tl (ttUp hm9 tt)
theorem mem_joinL {c : Nat} {S : List Nat} : ∀ {ls : List (List Nat)}, c ∈ TL.joinL S ls → (∃ p ∈ ls, c ∈ p) ∨ c ∈ S
  | [], h => nomatch h
  | [p], h => .inl ⟨p, List.mem_singleton.mpr rfl, h⟩
  | p :: q :: r, h => by
    have h' : c ∈ p ++ (S ++ TL.joinL S (q :: r)) := h
    rcases List.mem_append.mp h' with h | h
    · exact .inl ⟨p, List.mem_cons_self, h⟩
    · rcases List.mem_append.mp h with h | h
      · exact .inr h
      · rcases mem_joinL h with ⟨p2, m, k⟩ | k
        · exact .inl ⟨p2, List.mem_cons_of_mem _ m, k⟩
        · exact .inr k
theorem join_free {zs : List Str} (h : ∀ z ∈ zs, 10 ∉ TL.tl z) : 10 ∉ TL.tl (Txt.join blank zs) := by
  rw [TL.join_eq, TL.tl_join, blank_tl]
  intro hm
  rcases mem_joinL hm with ⟨p, hp, k⟩ | k
  · obtain ⟨z, hz, rfl⟩ := List.mem_map.mp hp
    exact h z hz k
  · exact absurd (List.mem_singleton.mp k) (by decide)
theorem app_free {a b : Str} (h1 : 10 ∉ TL.tl a) (h2 : 10 ∉ TL.tl b) : 10 ∉ TL.tl (a ++ b) := by
  rw [TL.tl_append]
  intro hm
  rcases List.mem_append.mp hm with k | k
  · exact h1 k
  · exact h2 k
theorem mgn_free (e : Nat) : 10 ∉ TL.tl (mgn e) := by
  rw [mgn_tl]
  intro hm
  exact absurd (List.eq_of_mem_replicate hm) (by decide)
theorem second_free (w : Str) : 10 ∉ TL.tl (secondW w) := by
  unfold secondW
  split
  · decide +kernel
  · split
    · decide +kernel
    · split
      · decide +kernel
      · split <;> decide +kernel
theorem strs_let {cs rs os : List Str} (hL : LetS (cs ++ rs ++ os)) {s : PyData} (h : Wf cs rs os s) : ∀ z ∈ strsD s, Let z := fun z hz => by
  obtain ⟨w, ks, args, rfl, hk, hl, hf⟩ := h
  obtain ⟨h1, h2⟩ := wf_reads hL hk hl hf
  obtain ⟨i, hi⟩ := List.mem_iff_getElem?.mp hz
  have hi2 := (List.getElem?_eq_some_iff.mp hi).1
  exact (h2 i z _ hi (List.getElem?_eq_getElem (by omega))).2.1
theorem lns_free {cs rs os : List Str} (hL : LetS (cs ++ rs ++ os)) : ∀ {n e : Nat} {ss : List PyData}, LB cs rs os n ss → ∀ z ∈ lns n (mgn e) ss, 10 ∉ TL.tl z
  | 0, _, _, _, _, hz => nomatch hz
  | n + 1, e, ss, h, z, hz => by
    rw [lns_S] at hz
    obtain ⟨s, hs, hz⟩ := List.mem_flatMap.mp hz
    obtain ⟨hwf, hpt⟩ := h s hs
    rcases List.mem_cons.mp hz with q | hz
    · rw [q]
      refine app_free (mgn_free e) (join_free fun y hy => ?_)
      rcases List.mem_cons.mp hy with q | hy
      · rw [q]
        obtain ⟨w, ks, args, rfl, hk, _⟩ := hwf
        exact let_free (let_first (ent_let hk)) (by decide)
      · exact let_free (strs_let hL hwf y hy) (by decide)
    · obtain ⟨p, hp, hz⟩ := List.mem_flatMap.mp hz
      rcases List.mem_append.mp hz with hz | hz
      · by_cases q : p.2 = 1
        · rw [if_pos q] at hz
          rw [List.mem_singleton.mp hz]
          exact app_free (mgn_free e) (second_free _)
        · rw [if_neg q] at hz
          cases hz
      · have hm : p.1 ∈ parts s := by
          obtain ⟨_, z2, z3⟩ := List.mem_zipIdx hp
          rw [z3]
          exact List.getElem_mem _
        obtain ⟨ds, q, hb⟩ := hpt _ hm
        rw [q] at hz
        exact lns_free hL (e := e + 1) hb z hz
theorem head_free {w : Str} {zs : List Str} (hw : Let w) (hz : LetS zs) : 10 ∉ TL.tl (headL w zs) := by
  refine join_free fun y hy => ?_
  rcases List.mem_cons.mp hy with q | hy
  · rw [q]
    exact app_free (let_free hw (by decide)) (by decide +kernel)
  · exact let_free (hz y hy).1 (by decide)
theorem Names.lets {cs rs os : List Str} {st : Str} (h : Names cs rs os st) : LetS (cs ++ rs ++ os) := fun z hz => h.ok.2 z hz
theorem txt_free {cs rs os : List Str} {st : Str} {bds : List (List PyData)} (hN : Names cs rs os st) (hB : ∀ ss ∈ bds, BodV cs rs os ss) : ∀ z ∈ txt cs rs os st bds, 10 ∉ TL.tl z := by
  have hL := hN.lets
  intro z hz
  rcases List.mem_append.mp hz with hz | hz
  · simp only [List.mem_cons, List.not_mem_nil, or_false] at hz
    rcases hz with q | q | q
    · rw [q]
      exact head_free (let_of (by decide +kernel)) fun y hy => hL y (List.mem_append_left _ (List.mem_append_left _ hy))
    · rw [q]
      exact head_free (let_of (by decide +kernel)) fun y hy => hL y (List.mem_append_left _ (List.mem_append_right _ hy))
    · rw [q]
      exact head_free (let_of (by decide +kernel)) fun y hy => by
        rw [List.mem_singleton.mp hy]
        exact hL st (List.mem_append_right _ hN.st)
  · obtain ⟨⟨p1, p2⟩, hp, hz⟩ := List.mem_flatMap.mp hz
    have m1 := (List.of_mem_zip hp).1
    have m2 := (List.of_mem_zip hp).2
    rcases List.mem_cons.mp hz with q | hz
    · rw [q]
      exact head_free (hL p1 (List.mem_append_right _ m1)).1 fun y hy => nomatch hy
    · obtain ⟨_, hLB, _⟩ := bodv_all (hB _ m2)
      refine lns_free hL (e := 1) hLB z ?_
      rw [mgn_one]
      exact hz
theorem ends_fns {cs rs os : List Str} {l : List (Str × List PyData)} (hL : LetS (cs ++ rs ++ os)) (h : ∀ p ∈ l, p.1 ∈ os) : Ends 1 (l.flatMap fnL) := by
  match l, h with
  | [], _ => exact ⟨0, "", by decide +kernel, by decide, fun c hc => by
      have e : TL.tl ("" : Str) = [] := by decide +kernel
      rw [e] at hc
      cases hc⟩
  | (y, ss) :: r, h =>
    have g := hL y (List.mem_append_right _ (h _ List.mem_cons_self))
    refine ⟨0, y ++ (":" : Str), ?_, by decide, nob_app (let_nob g.1) g.2.1⟩
    show headL y [] = ("" : Str) ++ (y ++ (":" : Str))
    rw [headL_one]
    exact (empty_app _).symm
def spRead (K : PySem.W.Frag) : Sp := fun vs H Q _ => ∃ cs rs os st bds, vs = [.str (Txt.join nl (txt cs rs os st bds))] ∧ Names cs rs os st ∧ bds.length = os.length ∧ (∀ ss ∈ bds, BodV cs rs os ss) ∧ ∀ a c r f fos H', Ex H H' → Cd K H' a c r f cs rs os st fos bds → (∀ p ∈ fos, H p = none) → Q (.ref a) H'

section
variable {P : Program} {w : World} {K : PySem.W.Frag} {mg : Str → Option Value} {base : Heap}

theorem ok_read_code {fd : FuncData} (F : FnP K "read_code" "read_code" s_read_code (ga K "read_code") fd) (T : Td K w mg) (c_read_heading : Cl P w K mg base CX0 2 (ga K "read_heading") ["lines", "at", "word"] (spRHead K)) (c_read_name : Cl P w K mg base CX0 2 (ga K "read_name") ["lines", "at"] (spRName K)) (c_read_part : Cl P w K mg base CX0 12 (ga K "read_part") ["lines", "at", "margin"] (spPart2 K 4)) (c_Function_init : Cl P w K mg base CX0 12 (ma K (ga K "Function") "__init__") ["self", "name", "body"] (spFI K)) (c_Code_init : Cl P w K mg base CX0 8 (ma K (ga K "Code") "__init__") ["self", "cells", "rows", "functions", "start"] (spCI K)) : FnOk P w K mg base CX0 (14 + 1) (ga K "read_code") fd ["text"] (spRead K) := by
  obtain ⟨fd_read_heading, G_read_heading, b_read_heading, kp_read_heading⟩ := c_read_heading
  obtain ⟨fd_read_name, G_read_name, b_read_name, kp_read_name⟩ := c_read_name
  obtain ⟨fd_read_part, G_read_part, b_read_part, kp_read_part⟩ := c_read_part
  obtain ⟨fd_Function_init, G_Function_init, b_Function_init, kp_Function_init⟩ := c_Function_init
  obtain ⟨fd_Code_init, G_Code_init, b_Code_init, kp_Code_init⟩ := c_Code_init
  refine FunD.ok F sc_read_code (fun vs H Q E h => ?_) (fun cdv A outer s H vs Q E hr h => ?_)
  · obtain ⟨cs, rs, os, st, bds, rfl, _⟩ := h
    rfl
  · obtain ⟨cs, rs, os, st, bds, rfl, hN, hbl, hB, kk⟩ := h
    have g_read_heading := T.gl "read_heading" (by decide +kernel)
    have n_len := T.fr "len" (by decide +kernel)
    have g_read_name := T.gl "read_name" (by decide +kernel)
    have g_read_part := T.gl "read_part" (by decide +kernel)
    obtain ⟨tk_STEP, g_STEP⟩ := T.c_STEP
    have g_Function := T.gl "Function" (by decide +kernel)
    have g_Code := T.gl "Code" (by decide +kernel)
    refine ⟨_, PSs.nox (pss_cons (ps_set (i := 1) sc_read_code.nd rfl (Or.inl rfl) (pe_split (pv 0) pe_str))
      (pss_cons (ps_set (i := 2) sc_read_code.nd rfl (Or.inl rfl) (pe_call G_read_heading (hr.mono (by decide)) (by rfl) g_read_heading kp_read_heading b_read_heading .nil pass0 (pa_cons (pv 1) (pa_cons pe_int (pa_cons pe_str pa_nil)))))
      (pss_cons (ps_set (i := 3) sc_read_code.nd rfl (Or.inl rfl) (pe_call G_read_heading (hr.mono (by decide)) (by rfl) g_read_heading kp_read_heading b_read_heading .nil pass0 (pa_cons (pv 1) (pa_cons pe_int (pa_cons pe_str pa_nil)))))
      (pss_cons (ps_set (i := 4) sc_read_code.nd rfl (Or.inl rfl) (pe_call G_read_heading (hr.mono (by decide)) (by rfl) g_read_heading kp_read_heading b_read_heading .nil pass0 (pa_cons (pv 1) (pa_cons pe_int (pa_cons pe_str pa_nil)))))
      (pss_cons (ps_if (pt_cmpR op_ne (pe_callB call_len_seq (by rfl) n_len (by decide +kernel) (pa_cons (pv 4) pa_nil)) pe_int (nomark _))
      (pss_one ps_never)
      pss_nil)
      (pss_cons (ps_set (i := 5) sc_read_code.nd rfl (Or.inl rfl) (pe_lst pa_nil))
      (pss_cons (ps_set (i := 6) sc_read_code.nd rfl (Or.inl rfl) pe_int)
      (pss_cons (ps_while PassesOwn.never (pt_cmpR op_lt (pv 6) (pe_callB call_len_seq (by rfl) n_len (by decide +kernel) (pa_cons (pv 1) pa_nil)) (nomark _))
      (pss_cons (ps_set (i := 7) sc_read_code.nd rfl (Or.inl rfl) (pe_call G_read_name (hr.mono (by decide)) (by rfl) g_read_name kp_read_name b_read_name .nil pass0 (pa_cons (pv 1) (pa_cons (pv 6) pa_nil))))
      (pss_cons (ps_asg (pe_call G_read_part (hr.mono (by decide)) (by rfl) g_read_part kp_read_part b_read_part .nil pass0 (pa_cons (pv 1) (pa_cons (pe_op op_add (pv 6) pe_int) (pa_cons (pe_glob (v := .str _) (by rfl) g_STEP ⟨_, rfl⟩) pa_nil)))) (pg_tup rfl (pgs_cons (pg_name (i := 8) sc_read_code.nd rfl (Or.inl rfl)) (pgs_cons (pg_name (i := 6) sc_read_code.nd rfl (Or.inl rfl)) pgs_nil))))
      (pss_one (ps_expr (pe_bm PySem.F.plainAttrs_list PySem.F.slot_list_append PySem.F.type_list_append mt_append (pv 5) (pa_cons (pe_make T.mf G_Function_init (hr.mono (by decide)) (by rfl) g_Function b_Function_init .nil pass0 (pa_cons (pv 7) (pa_cons (pv 8) pa_nil))) pa_nil)))))))
      (pss_one (ps_ret (pe_make T.mc G_Code_init (hr.mono (by decide)) (by rfl) g_Code b_Code_init .nil pass0 (pa_cons (pv 2) (pa_cons (pv 3) (pa_cons (pv 5) (pa_cons (pe_ix ix_list (pv 4) pe_int (fun _ _ => rfl)) pa_nil))))))))))))))), ?_⟩
    have hLet := hN.lets
    have sz := hN.sz
    have few := txt_few hN hB
    have kl : (txt cs rs os st bds).length = 3 + ((os.zip bds).flatMap fnL).length := by
      unfold txt
      rw [List.length_append]
      rfl
    have each := txt_each hN hB
    have hsh : Short (txt cs rs os st bds) := fun z hz => Nat.le_trans (each z hz) (by decide)
    have jl : (Txt.join nl (txt cs rs os st bds)).length + 2 ≤ sizeLine := by
      have k := join_len nl (txt cs rs os st bds)
      have kn : nl.length = 1 := by decide +kernel
      have k2 := sum_lens each
      rw [kn] at k
      have k3 : (txt cs rs os st bds).length * 80 ≤ 100 * 80 := Nat.mul_le_mul_right _ (by omega)
      rw [sizeLine_eq]
      omega
    have esp : Txt.split (Txt.join nl (txt cs rs os st bds)) nl = txt cs rs os st bds := split_nl (by unfold txt; simp) (txt_free hN hB)
    refine ⟨.str _, rfl, ⟨_, rfl⟩, _, nl, rfl, rfl, rfl, jl, fun l hl => ?_⟩
    rw [esp]
    have e1 := Ex.new (o := .lst ((txt cs rs os st bds).map V.str)) hl
    have gl : upd H l (.lst ((txt cs rs os st bds).map V.str)) l = some (.lst ((txt cs rs os st bds).map V.str)) := upd_same
    generalize upd H l (.lst ((txt cs rs os st bds).map V.str)) = H1 at e1 gl
    have hdr0 : (txt cs rs os st bds).drop 3 = (os.zip bds).flatMap fnL := rfl
    have d0 : (txt cs rs os st bds).getD 0 "" = headL "cells" cs := rfl
    have d1 : (txt cs rs os st bds).getD 1 "" = headL "rows" rs := rfl
    have d2 : (txt cs rs os st bds).getD 2 "" = headL "start" [st] := rfl
    generalize txt cs rs os st bds = ls at gl hsh kl hdr0 d0 d1 d2 few
    try dsimp only [gName, List.set]
    refine ⟨.ref l, rfl, l, ls, 0, "cells", cs, rfl, gl, d0, ⟨let_of (by decide +kernel), by decide +kernel, by decide +kernel⟩, fun y hy => hLet y (List.mem_append_left _ (List.mem_append_left _ hy)), by omega, fun qc H2 hqc e2 gc => ?_⟩
    try dsimp only [gName, List.set]
    refine ⟨.ref l, rfl, l, ls, 1, "rows", rs, rfl, e2 _ _ gl, d1, ⟨let_of (by decide +kernel), by decide +kernel, by decide +kernel⟩, fun y hy => hLet y (List.mem_append_left _ (List.mem_append_right _ hy)), by omega, fun qr H3 hqr e3 gr => ?_⟩
    try dsimp only [gName, List.set]
    refine ⟨.ref l, rfl, l, ls, 2, "start", [st], rfl, e3 _ _ (e2 _ _ gl), d2, ⟨let_of (by decide +kernel), by decide +kernel, by decide +kernel⟩, fun y hy => (by rw [List.mem_singleton.mp hy]; exact hLet st (List.mem_append_right _ hN.st)), by simp, fun qs H4 hqs e4 gs => ?_⟩
    try dsimp only [gName, List.set]
    refine q_when (b := false) (et_is (et_test (ev_op (ev_len (K := K) (ev_var rfl) (sq_of gs)) ev_c rv_neII)) rfl) (fun h => nomatch h) (fun _ H5 e5 => ?_)
    have gl5 := e5 _ _ (e4 _ _ (e3 _ _ (e2 _ _ gl)))
    have gc5 := e5 _ _ (e4 _ _ (e3 _ _ gc))
    have gr5 := e5 _ _ (e4 _ _ gr)
    have gs5 := e5 _ _ gs
    have e15 := e1.trans (e2.trans (e3.trans (e4.trans e5)))
    clear e2 e3 e4 e5 gl gc gr gs hqc hqr hqs d0 d1 d2
    refine q_asgL (el_lst ea_nil (by decide)) fun D H6 hD e6 g6 => ?_
    try dsimp only [gName, List.set]
    refine q_asg (v := .int 3) ev_c fun H7 e7 => ?_
    try dsimp only [gName, List.set]
    refine q_while (fun m' σ' H' => ∃ (k : Nat) (fos : List Addr) (v7 v8 : Option V), k ≤ os.length ∧ m' = os.length - k ∧ σ' = [some (.str (Txt.join nl ls)), some (.ref l), some (.ref qc), some (.ref qr), some (.ref qs), some (.ref D), some (.int ((3 + (((os.zip bds).take k).flatMap fnL).length : Nat) : Int)), v7, v8] ∧ fos.length = k ∧ (∀ (k : Nat) (f : Addr) (z : Str) (ss : List PyData), fos[k]? = some f → os[k]? = some z → bds[k]? = some ss → Fn K H' f z ss) ∧ H' D = some (.lst (fos.map V.ref)) ∧ Ex H5 H' ∧ ∀ p ∈ fos, H p = none) os.length
      ⟨0, [], none, none, Nat.zero_le _, rfl, rfl, rfl, (fun k f z ss h => nomatch h), e7 _ _ g6, e6.trans e7, fun p hp => nomatch hp⟩ (fun m' σ' H' hW => ?_)
    obtain ⟨k, fos, v7, v8, hk, rfl, rfl, ef, hFn, gD, eH, hfr⟩ := hW
    have lz : (os.zip bds).length = os.length := by rw [List.length_zip, hbl, Nat.min_self]
    have spl : (os.zip bds).flatMap fnL = ((os.zip bds).take k).flatMap fnL ++ ((os.zip bds).drop k).flatMap fnL := by
      rw [← List.flatMap_append, List.take_append_drop]
    have hdk : ls.drop (3 + (((os.zip bds).take k).flatMap fnL).length) = ((os.zip bds).drop k).flatMap fnL := drop_more (by rw [hdr0, ← spl])
    have tst : ∀ {b : Bool}, decide (((3 + (((os.zip bds).take k).flatMap fnL).length : Nat) : Int) < ((ls.map V.str).length : Nat)) = b → EvT (tTest (tOp (rI0 fun i j => .bl (decide (i < j))) (tVar 6) (tCB (rLenS K) (tCons (tVar 1) tNil)))) [some (.str (Txt.join nl ls)), some (.ref l), some (.ref qc), some (.ref qr), some (.ref qs), some (.ref D), some (.int ((3 + (((os.zip bds).take k).flatMap fnL).length : Nat) : Int)), v7, v8] H' b := fun h => et_is (et_test (ev_op (ev_var rfl) (ev_len (K := K) (ev_var rfl) (sq_of (eH _ _ gl5))) rv_I0)) h
    cases hz : os[k]? with
    | none =>
      have hk2 : k = os.length := by
        have := List.getElem?_eq_none_iff.mp hz
        omega
      subst hk2
      refine ⟨false, tst (decide_eq_false ?_), (fun h => nomatch h), fun _ H8 e8 => ?_⟩
      · rw [List.length_map, kl, List.take_of_length_le (by omega)]
        omega
      have e58 := eH.trans e8
      have hFs : Fns K H8 fos os bds := ⟨ef, hbl, fun i f z ss h1 h2 h3 => (hFn i f z ss h1 h2 h3).mono e8⟩
      refine ⟨.ref qc, rfl, .ref qr, rfl, .ref D, rfl, .ref qs, rfl, qs, _, 0, .str st, rfl, rfl, sq_of (e58 _ _ gs5), atI_nat (j := 0) rfl, fun x dx hx hdx hne => ?_⟩
      have hx2 : upd H8 dx (.own x) x = none := (upd_ne (Ne.symm hne)).trans hx
      have a3 := (Ex.new (o := .own x) hdx).trans (Ex.new (o := .ins (ga K "Code") dx []) hx2)
      refine ⟨x, qc, qr, D, cs, rs, os, st, fos, bds, dx, rfl, upd_same, a3 _ _ (e58 _ _ gc5), a3 _ _ (e58 _ _ gr5), a3 _ _ (e8 _ _ gD), hFs.mono a3, hN, hB, fun u1 u2 u3 H9 x9 hC => ⟨rfl, ?_⟩⟩
      exact kk x u1 u2 u3 fos H9 ((e15.trans e58).trans (Xa.new a3 hx x9)) hC hfr
    | some y =>
      have hk2 := (List.getElem?_eq_some_iff.mp hz).1
      obtain ⟨ss, hss⟩ : ∃ ss, bds[k]? = some ss := ⟨_, List.getElem?_eq_getElem (by omega)⟩
      have hV := hB ss (List.mem_of_getElem? hss)
      obtain ⟨⟨mt, hts⟩, hLB, _⟩ := bodv_all hV
      have hl14 : ss.length ≤ 15 := hV.1.2.1
      have mz : (os.zip bds)[k]? = some (y, ss) := by
        rw [List.getElem?_zip_eq_some]
        exact ⟨hz, hss⟩
      have mz2 := (List.getElem?_eq_some_iff.mp mz).1
      have edr : (os.zip bds).drop k = (y, ss) :: (os.zip bds).drop (k + 1) := by
        rw [List.drop_eq_getElem_cons mz2]
        rw [List.getElem?_eq_getElem mz2] at mz
        rw [Option.some.inj mz]
      have fm := flat_more fnL mz
      rw [edr, List.flatMap_cons] at hdk
      have hln : ls[3 + (((os.zip bds).take k).flatMap fnL).length]? = some (y ++ (":" : Str)) := by
        rw [← List.head?_drop, hdk, headL_one]
        rfl
      have hd1 : ls.drop (3 + (((os.zip bds).take k).flatMap fnL).length + 1) = lns 4 (mgn 1) ss ++ ((os.zip bds).drop (k + 1)).flatMap fnL := by
        rw [← List.drop_drop, hdk, mgn_one]
        rfl
      have flen : (((os.zip bds).take (k + 1)).flatMap fnL).length = (((os.zip bds).take k).flatMap fnL).length + (1 + (lns 4 (mgn 1) ss).length) := by
        rw [fm, List.length_append, mgn_one]
        show _ + (_ :: lns 4 step ss).length = _
        rw [List.length_cons]
        omega
      have hend : Ends 1 (((os.zip bds).drop (k + 1)).flatMap fnL) := ends_fns hLet fun p hp => (List.of_mem_zip (List.mem_of_mem_drop hp)).1
      generalize hA : (((os.zip bds).take k).flatMap fnL).length = A at hln hd1 flen
      refine ⟨true, (by
        have z := tst (b := true) (decide_eq_true (by
          have := (List.getElem?_eq_some_iff.mp hln).1
          rw [List.length_map, hA]
          omega))
        rw [hA] at z
        exact z), fun _ H8 e8 => ?_, (fun h => nomatch h)⟩
      refine ⟨fun σ' H' => ∃ (fos : List Addr) (v7 v8 : Option V), σ' = [some (.str (Txt.join nl ls)), some (.ref l), some (.ref qc), some (.ref qr), some (.ref qs), some (.ref D), some (.int ((3 + (((os.zip bds).take (k + 1)).flatMap fnL).length : Nat) : Int)), v7, v8] ∧ fos.length = k + 1 ∧ (∀ (k : Nat) (f : Addr) (z : Str) (ss : List PyData), fos[k]? = some f → os[k]? = some z → bds[k]? = some ss → Fn K H' f z ss) ∧ H' D = some (.lst (fos.map V.ref)) ∧ Ex H5 H' ∧ ∀ p ∈ fos, H p = none, fun σ' H' h => ?_, ?_⟩
      · obtain ⟨fos, v7, v8, h1, h2⟩ := h
        exact ⟨os.length - (k + 1), by omega, k + 1, fos, v7, v8, hk2, rfl, h1, h2⟩
      have e58 := eH.trans e8
      have gD8 := e8 _ _ gD
      try dsimp only [gName, List.set]
      refine ⟨.ref l, rfl, .int ((3 + A : Nat) : Int), rfl, l, ls, 3 + A, y, rfl, e58 _ _ gl5, hln, hLet y (List.mem_append_right _ (List.mem_of_getElem? hz)), fun H9 e9 => ?_⟩
      try dsimp only [gName, List.set]
      refine ⟨.ref l, rfl, .int ((3 + A : Nat) : Int), rfl, ((3 + A : Nat) : Int), 1, rfl, rfl, l, ls, 3 + A + 1, 1, ss, _, cs, rs, os, mt, (by rw [mgn_one]; rfl), e9 _ _ (e58 _ _ gl5), hsh, hd1, hend, hLB, hts, hLet, by decide, by omega, fun t b H10 e10 ht db => ?_⟩
      refine ⟨t, [.ref b, .int ((3 + A + 1 + (lns 4 (mgn 1) ss).length : Nat) : Int)], rfl, ht, rfl, .ref b, [.int ((3 + A + 1 + (lns 4 (mgn 1) ss).length : Nat) : Int)], rfl, .int ((3 + A + 1 + (lns 4 (mgn 1) ss).length : Nat) : Int), [], rfl, rfl, ?_⟩
      try dsimp only [gName, List.set]
      have e810 := e9.trans e10
      refine ⟨.ref D, rfl, .inl ⟨rfl, _, sq_of (e810 _ _ gD8)⟩, .str y, rfl, .ref b, rfl, fun x dx hx hdx hne => ?_⟩
      have hx2 : upd H10 dx (.own x) x = none := (upd_ne (Ne.symm hne)).trans hx
      have a5 : Ex H10 (upd (upd H10 dx (.own x)) x (.ins (ga K "Function") dx [])) := (Ex.new hdx).trans (Ex.new hx2)
      refine ⟨x, y, b, ss, dx, .tuple ss, rfl, upd_same, dpM a5 _ _ db, bodt_tl hV.1, hV.1, fun H11 x11 hFx => ⟨rfl, ?_⟩⟩
      have a7 : Ex H10 H11 := Xa.new a5 hx x11
      have e811 := e810.trans a7
      have hDl := e811 _ _ gD8
      have fnu : ∀ {f : Addr} {z : Str} {ss : List PyData}, ss ∈ bds → Fn K H11 f z ss → Fn K (upd H11 D (.lst (fos.map V.ref ++ [.ref x]))) f z ss := by
        intro f z ss hm hf
        obtain ⟨dx2, b, n, g1, g2⟩ := hf
        obtain ⟨m, _, tt⟩ := (hB ss hm).1.1
        refine ⟨dx2, b, n, (upd_ne ?_).trans g1, dp_off hDl tt g2.1, g2.2⟩
        rintro rfl
        rw [hDl] at g1
        cases g1
      refine ⟨D, fos.map V.ref, .ref x, rfl, rfl, hDl, ?_, fos ++ [x], some (.str y), some (.ref b), ?_, ?_, ?_, ?_, (e58.trans e811).mut hD, fun p hp => ?_⟩
      · rw [List.length_map]
        exact small1000 (by omega)
      · rw [flen, show 3 + (A + (1 + (lns 4 (mgn 1) ss).length)) = 3 + A + 1 + (lns 4 (mgn 1) ss).length by omega]
      · rw [List.length_append, ef]
        rfl
      · intro j f z s2 hj hz2 hb2
        rcases Nat.lt_or_ge j fos.length with h | h
        · rw [List.getElem?_append_left h] at hj
          exact fnu (List.mem_of_getElem? hb2) ((hFn j f z s2 hj hz2 hb2).mono (e8.trans e811))
        · rw [List.getElem?_append_right h] at hj
          have j0 : j - fos.length = 0 := by
            rcases Nat.eq_zero_or_pos (j - fos.length) with y0 | y0
            · exact y0
            · rw [List.getElem?_eq_none (show [x].length ≤ j - fos.length from y0)] at hj
              cases hj
          rw [j0] at hj
          cases hj
          have kj : j = k := by omega
          subst kj
          rw [hz] at hz2
          rw [hss] at hb2
          cases hz2
          cases hb2
          exact fnu (List.mem_of_getElem? hss) hFx
      · rw [upd_same, List.map_append]
        rfl
      · rcases List.mem_append.mp hp with h | h
        · exact hfr p h
        · rw [List.mem_singleton.mp h]
          exact fresh_back ((e15.trans e58).trans e810) hx

end
end K05
set_option Elab.async false
set_option linter.all false
set_option maxRecDepth 100000
set_option maxHeartbeats 8000000
namespace K05
open PySem PySem.Spec PyProof.Rows L2 He XH XV XR PEN TR Evl

theorem eqv_self {n : Nat} {d : PyData} (h : Tt n d) : PyData.eqv d d = true := SeqAt.eqv_refl_plain _ (tt_plain h)
theorem feq_self {n : Nat} {z : Str} {ss : List PyData} (h : Tt n (.tuple ss)) : fEq z ss z ss = true := by
  unfold fEq
  rw [eqv_self h, decide_eq_true rfl]
  rfl
theorem ceq_self {cs rs os : List Str} {st : Str} {bds : List (List PyData)} (h : ∀ ss ∈ bds, ∃ m, Tt m (.tuple ss)) : cEq cs rs os st bds cs rs os st bds = true := by
  have f : fnsEq os bds os bds = true := by
    unfold fnsEq
    rw [Bool.and_eq_true]
    refine ⟨List.all_eq_true.mpr fun j _ => ?_, by simp⟩
    cases q : bds[j]? with
    | none =>
      rw [List.getD_eq_getElem?_getD (l := bds), q]
      exact feq_self (n := 1) (ss := []) (.tup (Nat.zero_le _) .nil)
    | some ss =>
      rw [List.getD_eq_getElem?_getD (l := bds), q]
      obtain ⟨m, t⟩ := h ss (List.mem_of_getElem? q)
      exact feq_self t
  unfold cEq
  rw [f, decide_eq_true rfl, decide_eq_true rfl, decide_eq_true rfl]
  rfl
theorem bodt_20 {ss : List PyData} (h : BodT ss) : Tt 20 (.tuple ss) := by
  obtain ⟨⟨m, hm9, tt⟩, _⟩ := h
  have z := ttUpN (19 - m) tt
  rw [show m + 1 + (19 - m) = 20 by omega] at z
  exact z
theorem Names.lens {cs rs os : List Str} {st : Str} {bds : List (List PyData)} (h : Names cs rs os st) (hB : ∀ ss ∈ bds, BodV cs rs os ss) : Lens cs rs os st bds := by
  have l := h.l12
  have z := h.sz
  exact ⟨⟨by omega, fun y hy => Nat.le_trans (l y (List.mem_append_left _ (List.mem_append_left _ hy))) (by decide)⟩, ⟨by omega, fun y hy => Nat.le_trans (l y (List.mem_append_left _ (List.mem_append_right _ hy))) (by decide)⟩, fun ss hs => bodt_20 (hB ss hs).1⟩
theorem Fns.some {K : PySem.W.Frag} {H : Hp} {fos : List Addr} {os : List Str} {bds : List (List PyData)} (h : Fns K H fos os bds) {p : Addr} (hp : p ∈ fos) : H p ≠ none := by
  obtain ⟨i, hi⟩ := List.mem_iff_getElem?.mp hp
  obtain ⟨z, ss, _, _, hF⟩ := h.at hi
  obtain ⟨dx, b, n, g, _⟩ := hF
  exact fun e => by rw [e] at g; cases g


/-! ### two plans' texts differ -/
theorem app_cancel {a x y : Str} (h : a ++ x = a ++ y) : x = y := by
  have k := congrArg TL.tl h
  rw [TL.tl_append, TL.tl_append] at k
  exact TL.ext_tl (List.append_cancel_left k)
theorem app_cancel2 {a x y : Str} (h : x ++ a = y ++ a) : x = y := by
  have k := congrArg TL.tl h
  rw [TL.tl_append, TL.tl_append] at k
  exact TL.ext_tl (List.append_cancel_right k)
theorem join_inj {a b : List Str} (ha : a ≠ []) (hb : b ≠ []) (h1 : ∀ z ∈ a, 32 ∉ TL.tl z) (h2 : ∀ z ∈ b, 32 ∉ TL.tl z) (h : Txt.join blank a = Txt.join blank b) : a = b := by
  rw [← split_blank ha h1, h, split_blank hb h2]
theorem headL_inj {w w' : Str} {zs zs' : List Str} (hw : Let w) (hw' : Let w') (h1 : LetS zs) (h2 : LetS zs') (h : headL w zs = headL w' zs') : w = w' ∧ zs = zs' := by
  have k := join_inj (by simp) (by simp) (fun z hz => by
    rcases List.mem_cons.mp hz with e | hz
    · rw [e]; exact colon_free hw
    · exact let_free (h1 z hz).1 (by decide)) (fun z hz => by
    rcases List.mem_cons.mp hz with e | hz
    · rw [e]; exact colon_free hw'
    · exact let_free (h2 z hz).1 (by decide)) h
  injection k with k1 k2
  exact ⟨app_cancel2 k1, k2⟩
theorem ent_fun : ∀ p ∈ ENT, ∀ q ∈ ENT, p.1 = q.1 → p.2 = q.2 := by decide +kernel
theorem first_inj : ∀ w ∈ words, ∀ z ∈ words, firstW w = firstW z → w = z := by decide +kernel
/-- the line of a statement tells its word and its names -/
theorem line_inj {cs rs os cs' rs' os' : List Str} {s s' : PyData} {e : Nat} (h : Wf cs rs os s) (h' : Wf cs' rs' os' s') (hL : LetS (cs ++ rs ++ os)) (hL' : LetS (cs' ++ rs' ++ os')) (q : mgn e ++ Txt.join blank (firstW (wordS s) :: strsD s) = mgn e ++ Txt.join blank (firstW (wordS s') :: strsD s')) : wordS s = wordS s' ∧ strsD s = strsD s' ∧ (parts s).length = (parts s').length := by
  have f1 := strs_let hL h
  have f2 := strs_let hL' h'
  obtain ⟨w, ks, args, es, hk, hl, hf⟩ := id h
  obtain ⟨w', ks', args', es', hk', hl', hf'⟩ := id h'
  have ew : wordS s = w := by rw [es]; rfl
  have ew' : wordS s' = w' := by rw [es']; rfl
  have hw : w ∈ words := List.mem_map.mpr ⟨_, hk, rfl⟩
  have hw' : w' ∈ words := List.mem_map.mpr ⟨_, hk', rfl⟩
  rw [ew, ew'] at q
  have k := join_inj (by simp) (by simp) (fun z hz => by
    rcases List.mem_cons.mp hz with e | hz
    · rw [e]; exact let_free (let_first (ent_let hk)) (by decide)
    · exact let_free (f1 z hz) (by decide)) (fun z hz => by
    rcases List.mem_cons.mp hz with e | hz
    · rw [e]; exact let_free (let_first (ent_let hk')) (by decide)
    · exact let_free (f2 z hz) (by decide)) (app_cancel q)
  injection k with k1 k2
  have k3 := first_inj w hw w' hw' k1
  have k4 := ent_fun _ hk _ hk' k3
  simp only at k4
  have c1 := part_count hk hl hf
  have c2 := part_count hk' hl' hf'
  rw [← es] at c1
  rw [← es'] at c2
  exact ⟨by rw [ew, ew', k3], k2, by rw [← c1, ← c2, k4]⟩
theorem no_line {e : Nat} {x : Str} {rest : List Str} (h : Ends e rest) (q : rest.headD "" = mgn e ++ x) : False := by
  have k := h.no
  rw [q, starts_app] at k
  cases k
theorem lns_inj {cs rs os cs' rs' os' : List Str} (hL : LetS (cs ++ rs ++ os)) (hL' : LetS (cs' ++ rs' ++ os')) : ∀ {n e : Nat} {ss ss' : List PyData} {rest rest' : List Str}, LB cs rs os n ss → LB cs' rs' os' n ss' → Ends e rest → Ends e rest' → lns n (mgn e) ss ++ rest = lns n (mgn e) ss' ++ rest' → ss = ss' ∧ rest = rest'
  | 0, e, ss, ss', rest, rest', h, h', _, _, q => by
    have a : ss = [] := h
    have b : ss' = [] := h'
    subst a b
    exact ⟨rfl, q⟩
  | n + 1, e, [], [], rest, rest', _, _, _, _, q => ⟨rfl, q⟩
  | n + 1, e, [], s' :: r', rest, rest', _, h', he, _, q => by
    refine (no_line he (x := Txt.join blank (firstW (wordS s') :: strsD s')) ?_).elim
    have q2 : rest = lns (n + 1) (mgn e) (s' :: r') ++ rest' := q
    rw [q2]
    rfl
  | n + 1, e, s :: r, [], rest, rest', h, _, _, he, q => by
    refine (no_line he (x := Txt.join blank (firstW (wordS s) :: strsD s)) ?_).elim
    have q2 : lns (n + 1) (mgn e) (s :: r) ++ rest = rest' := q
    rw [← q2]
    rfl
  | n + 1, e, s :: r, s' :: r', rest, rest', h, h', he, he', q => by
    rw [lns_S, lns_S, List.flatMap_cons, List.flatMap_cons, List.append_assoc, List.append_assoc] at q
    obtain ⟨hw, hp⟩ := h s List.mem_cons_self
    obtain ⟨hw', hp'⟩ := h' s' List.mem_cons_self
    have hr : LB cs rs os (n + 1) r := fun x hx => h x (List.mem_cons_of_mem _ hx)
    have hr' : LB cs' rs' os' (n + 1) r' := fun x hx => h' x (List.mem_cons_of_mem _ hx)
    have q' : (mgn e ++ Txt.join blank (firstW (wordS s) :: strsD s)) :: ((parts s).zipIdx.flatMap (lnP n (mgn e) s) ++ (r.flatMap (lnS n (mgn e)) ++ rest)) = (mgn e ++ Txt.join blank (firstW (wordS s') :: strsD s')) :: ((parts s').zipIdx.flatMap (lnP n (mgn e) s') ++ (r'.flatMap (lnS n (mgn e)) ++ rest')) := q
    injection q' with q1 q2
    obtain ⟨e1, e2, e3⟩ := line_inj hw hw' hL hL' q1
    have E1 := ends_flat hr he
    have E2 := ends_flat hr' he'
    generalize hR : r.flatMap (lnS n (mgn e)) ++ rest = R at q2 E1
    generalize hR' : r'.flatMap (lnS n (mgn e)) ++ rest' = R' at q2 E2
    have fin : parts s = parts s' → R = R' → s :: r = s' :: r' ∧ rest = rest' := by
      intro a b
      rw [← hR, ← hR'] at b
      obtain ⟨c1, c2⟩ := lns_inj (n := n + 1) hL hL' hr hr' he he' b
      have es : s = s' := by rw [← wf_tup hw, ← wf_tup hw', e1, e2, a]
      rw [es, c1]
      exact ⟨rfl, c2⟩
    have sec : ∀ X : List Str, Ends (e + 1) ((mgn e ++ secondW (wordS s)) :: X) := fun X => ⟨e, secondW (wordS s), rfl, by omega, second_nob _⟩
    have h2 := parts2 hw
    match hps : parts s, hps' : parts s', e3, h2 with
    | [], [], _, _ =>
      rw [hps, hps'] at q2
      exact fin (by rw [hps, hps']) q2
    | [p], [p'], _, _ =>
      obtain ⟨ds, rfl, hd⟩ := hp p (by rw [hps]; exact List.mem_cons_self)
      obtain ⟨ds', rfl, hd'⟩ := hp' p' (by rw [hps']; exact List.mem_cons_self)
      rw [hps, hps'] at q2
      have q3 : lns n (mgn (e + 1)) ds ++ R = lns n (mgn (e + 1)) ds' ++ R' := by
        have z : (lns n (mgn (e + 1)) ds ++ []) ++ R = (lns n (mgn (e + 1)) ds' ++ []) ++ R' := q2
        rw [List.append_nil, List.append_nil] at z
        exact z
      obtain ⟨c1, c2⟩ := lns_inj hL hL' hd hd' E1 E2 q3
      exact fin (by rw [hps, hps', c1]) c2
    | [p, p2], [p', p2'], _, _ =>
      obtain ⟨ds, rfl, hd⟩ := hp p (by rw [hps]; exact List.mem_cons_self)
      obtain ⟨ds2, rfl, hd2⟩ := hp p2 (by rw [hps]; exact List.mem_cons_of_mem _ List.mem_cons_self)
      obtain ⟨ds', rfl, hd'⟩ := hp' p' (by rw [hps']; exact List.mem_cons_self)
      obtain ⟨ds2', rfl, hd2'⟩ := hp' p2' (by rw [hps']; exact List.mem_cons_of_mem _ List.mem_cons_self)
      rw [hps, hps'] at q2
      have q3 : lns n (mgn (e + 1)) ds ++ ((mgn e ++ secondW (wordS s)) :: (lns n (mgn (e + 1)) ds2 ++ R)) = lns n (mgn (e + 1)) ds' ++ ((mgn e ++ secondW (wordS s)) :: (lns n (mgn (e + 1)) ds2' ++ R')) := by
        have z : (lns n (mgn (e + 1)) ds ++ (((mgn e ++ secondW (wordS s)) :: lns n (mgn (e + 1)) ds2) ++ [])) ++ R = (lns n (mgn (e + 1)) ds' ++ (((mgn e ++ secondW (wordS s')) :: lns n (mgn (e + 1)) ds2') ++ [])) ++ R' := q2
        rw [List.append_nil, List.append_nil, List.append_assoc, List.append_assoc, ← e1] at z
        exact z
      obtain ⟨c1, c2⟩ := lns_inj hL hL' hd hd' (sec _) (sec _) q3
      injection c2 with _ c3
      obtain ⟨c4, c5⟩ := lns_inj hL hL' hd2 hd2' E1 E2 c3
      exact fin (by rw [hps, hps', c1, c4]) c5
theorem fns_inj {cs rs os cs' rs' os' : List Str} (hL : LetS (cs ++ rs ++ os)) (hL' : LetS (cs' ++ rs' ++ os')) : ∀ {l l' : List (Str × List PyData)}, (∀ p ∈ l, p.1 ∈ os ∧ LB cs rs os 4 p.2) → (∀ p ∈ l', p.1 ∈ os' ∧ LB cs' rs' os' 4 p.2) → l.flatMap fnL = l'.flatMap fnL → l = l'
  | [], [], _, _, _ => rfl
  | [], p :: r, _, _, q => nomatch q
  | p :: r, [], _, _, q => nomatch q
  | (y, ss) :: r, (y', ss') :: r', h, h', q => by
    obtain ⟨h1, h2⟩ := h _ List.mem_cons_self
    obtain ⟨h1', h2'⟩ := h' _ List.mem_cons_self
    have hr := fun p hp => h p (List.mem_cons_of_mem _ hp)
    have hr' := fun p hp => h' p (List.mem_cons_of_mem _ hp)
    have q' : headL y [] :: (lns 4 step ss ++ r.flatMap fnL) = headL y' [] :: (lns 4 step ss' ++ r'.flatMap fnL) := q
    injection q' with q1 q2
    rw [← mgn_one] at q2
    obtain ⟨e1, _⟩ := headL_inj (hL y (List.mem_append_right _ h1)).1 (hL' y' (List.mem_append_right _ h1')).1 (zs := []) (zs' := []) (by intro z hz; cases hz) (by intro z hz; cases hz) q1
    obtain ⟨e2, e3⟩ := lns_inj hL hL' h2 h2' (ends_fns hL fun p hp => (hr p hp).1) (ends_fns hL' fun p hp => (hr' p hp).1) q2
    have e2' : ss = ss' := e2
    rw [e1, e2', fns_inj hL hL' hr hr' e3]
theorem txt_inj {cs rs os cs' rs' os' : List Str} {st st' : Str} {bds bds' : List (List PyData)} (hN : Names cs rs os st) (hB : ∀ ss ∈ bds, BodV cs rs os ss) (hl : bds.length = os.length) (hN' : Names cs' rs' os' st') (hB' : ∀ ss ∈ bds', BodV cs' rs' os' ss) (hl' : bds'.length = os'.length)
    (q : txt cs rs os st bds = txt cs' rs' os' st' bds') : cs = cs' ∧ rs = rs' ∧ os = os' ∧ st = st' ∧ bds = bds' := by
  have hL := hN.lets
  have hL' := hN'.lets
  have q' : headL "cells" cs :: headL "rows" rs :: headL "start" [st] :: (os.zip bds).flatMap fnL = headL "cells" cs' :: headL "rows" rs' :: headL "start" [st'] :: (os'.zip bds').flatMap fnL := q
  injection q' with q1 q2
  injection q2 with q2 q3
  injection q3 with q3 q4
  have wl : Let "cells" := let_of (by decide +kernel)
  have wr : Let "rows" := let_of (by decide +kernel)
  have ws : Let "start" := let_of (by decide +kernel)
  have e1 := (headL_inj wl wl (fun z hz => hL z (List.mem_append_left _ (List.mem_append_left _ hz))) (fun z hz => hL' z (List.mem_append_left _ (List.mem_append_left _ hz))) q1).2
  have e2 := (headL_inj wr wr (fun z hz => hL z (List.mem_append_left _ (List.mem_append_right _ hz))) (fun z hz => hL' z (List.mem_append_left _ (List.mem_append_right _ hz))) q2).2
  have e3 := (headL_inj ws ws (fun z hz => by rw [List.mem_singleton.mp hz]; exact hL st (List.mem_append_right _ hN.st)) (fun z hz => by rw [List.mem_singleton.mp hz]; exact hL' st' (List.mem_append_right _ hN'.st)) q3).2
  injection e3 with e3 _
  have e4 := fns_inj hL hL' (fun p hp => ⟨(List.of_mem_zip hp).1, (bodv_all (hB _ (List.of_mem_zip hp).2)).2.1⟩) (fun p hp => ⟨(List.of_mem_zip hp).1, (bodv_all (hB' _ (List.of_mem_zip hp).2)).2.1⟩) q4
  have z1 := congrArg (List.map Prod.fst) e4
  have z2 := congrArg (List.map Prod.snd) e4
  rw [List.map_fst_zip (by omega), List.map_fst_zip (by omega)] at z1
  rw [List.map_snd_zip (by omega), List.map_snd_zip (by omega)] at z2
  exact ⟨e1, e2, z1, e3, z2⟩
theorem text_ne {cs rs os cs' rs' os' : List Str} {st st' : Str} {bds bds' : List (List PyData)} (hN : Names cs rs os st) (hB : ∀ ss ∈ bds, BodV cs rs os ss) (hl : bds.length = os.length) (hN' : Names cs' rs' os' st') (hB' : ∀ ss ∈ bds', BodV cs' rs' os' ss) (hl' : bds'.length = os'.length)
    (q : cEq cs rs os st bds cs' rs' os' st' bds' = false) : Txt.join nl (txt cs' rs' os' st' bds') ≠ Txt.join nl (txt cs rs os st bds) := by
  intro h
  have k : txt cs' rs' os' st' bds' = txt cs rs os st bds := by
    rw [← split_nl (zs := txt cs' rs' os' st' bds') (by unfold txt; simp) (txt_free hN' hB'), h, split_nl (by unfold txt; simp) (txt_free hN hB)]
  obtain ⟨a, b, c, d, f⟩ := txt_inj hN' hB' hl' hN hB hl k
  subst a b c d f
  rw [ceq_self (fun ss hs => ⟨_, bodv_tt (hB' ss hs)⟩)] at q
  cases q

end K05
set_option Elab.async false
set_option linter.all false
set_option maxRecDepth 100000
set_option maxHeartbeats 8000000
namespace K05
open PySem PySem.Spec PyProof.Rows L2 He XH XV XR PEN TR Evl


open XQ (rOwn)
theorem ev_ownR {K : PySem.W.Frag} {w : World} {mg : Str → Option Value} {σ : L2.St} {H : Hp} (T : Te K w mg) {E1 E2 : XK} {i : Nat} {y c2 r2 f2 : Addr} {cs rs os : List Str} {st : Str} {fos2 : List Addr} {bds : List (List PyData)} (si : σ[i]? = some (some (.ref y))) (hC : Cd K H y c2 r2 f2 cs rs os st fos2 bds) (hN : Names cs rs os st) (hl : bds.length = os.length) (hB : ∀ ss ∈ bds, BodV cs rs os ss) : Ev (tOp (rOwn K (ga K "Code") (spCEq K)) (tCall (spRead K) [] E1 (tCons (tCall (spWr K) [] E2 (tCons (tVar i) tNil)) tNil)) (tVar i)) σ H (.bl (cEq cs rs os st bds cs rs os st bds)) := fun H1 e Q q => by
  refine ⟨.ref y, si, y, c2, r2, f2, cs, rs, os, st, fos2, bds, rfl, hC.mono e, hN, hB, fun H2 e2 => ?_⟩
  refine ⟨cs, rs, os, st, bds, rfl, hN, hl, hB, fun x c r f fos H3 e3 hCx hfr => ?_⟩
  have C2 := hC.mono (e.trans (e2.trans e3))
  obtain ⟨dx1, i1⟩ := hCx.at_
  obtain ⟨dx2, i2⟩ := C2.at_
  exact ⟨.ref y, si, x, dx1, _, _, rfl, i1, T.tc i2, self_first, x, .ref y, c, r, f, cs, rs, os, st, fos, bds, rfl, hCx, hN.lens hB, .inl ⟨y, c2, r2, f2, cs, rs, os, st, fos2, bds, rfl, C2, hN.lens hB, fun p h1 h2 => (hC.mono (e.trans e2)).fs.some h2 (hfr p h1), fun H4 e4 => ⟨⟨_, rfl⟩, q H4 (e2.trans (e3.trans e4))⟩⟩⟩

section
variable {P : Program} {w : World} {K : PySem.W.Frag} {mg : Str → Option Value} {base : Heap}

theorem ok_law {fd : FuncData} (F : FnP K "law" "law" s_law (ga K "law") fd) (T : Td K w mg) (c_law_pick : Cl P w K mg base CX0 2 (ga K "_law_pick") ["_law_pen", "_law_row"] (spPick K)) (c_law_drawn : Cl P w K mg base CX0 13 (ga K "_law_drawn") ["_law_pen", "_law_room"] (spDrawn K)) (c_law_text : Cl P w K mg base CX0 6 (ga K "_law_text") ["_law_plan_here"] (spTx K)) (c_read_code : Cl P w K mg base CX0 15 (ga K "read_code") ["text"] (spRead K)) (c_law_kept : Cl P w K mg base CX0 6 (ga K "_law_kept") ["_law_code_here", "_law_plan_here"] (spKept K)) (c_written : Cl P w K mg base CX0 11 (ga K "written") ["code"] (spWr K)) (c_law_other : Cl P w K mg base CX0 6 (ga K "_law_other") ["_law_pen", "_law_plan_here"] (spOther K)) (c_law_code : Cl P w K mg base CX0 14 (ga K "_law_code") ["_law_plan_here"] (spCode K)) (c_Code___eq__ : Cl P w K mg base CX0 3 (ma K (ga K "Code") "__eq__") ["self", "other"] (spCEq K)) : FnOk P w K mg base CX0 (20 + 1) (ga K "law") fd ["_law_script"] (spLaw K) := by
  obtain ⟨fd_law_pick, G_law_pick, b_law_pick, kp_law_pick⟩ := c_law_pick
  obtain ⟨fd_law_drawn, G_law_drawn, b_law_drawn, kp_law_drawn⟩ := c_law_drawn
  obtain ⟨fd_law_text, G_law_text, b_law_text, kp_law_text⟩ := c_law_text
  obtain ⟨fd_read_code, G_read_code, b_read_code, kp_read_code⟩ := c_read_code
  obtain ⟨fd_law_kept, G_law_kept, b_law_kept, kp_law_kept⟩ := c_law_kept
  obtain ⟨fd_written, G_written, b_written, kp_written⟩ := c_written
  obtain ⟨fd_law_other, G_law_other, b_law_other, kp_law_other⟩ := c_law_other
  obtain ⟨fd_law_code, G_law_code, b_law_code, kp_law_code⟩ := c_law_code
  obtain ⟨fd_Code___eq__, G_Code___eq__, b_Code___eq__, kp_Code___eq__⟩ := c_Code___eq__
  refine FunD.ok F sc_law (fun vs H Q E h => ?_) (fun cdv A outer s H vs Q E hr h => ?_)
  · obtain ⟨a, ns, rfl, _⟩ := h
    rfl
  · obtain ⟨a, ns, rfl, hS, hl, kk⟩ := h
    have n_list := T.fr "list" (by decide +kernel)
    have n_range := T.fr "range" (by decide +kernel)
    have g_law_drawn := T.gl "_law_drawn" (by decide +kernel)
    have g_law_pick := T.gl "_law_pick" (by decide +kernel)
    have g_law_text := T.gl "_law_text" (by decide +kernel)
    have g_read_code := T.gl "read_code" (by decide +kernel)
    have g_law_kept := T.gl "_law_kept" (by decide +kernel)
    have g_written := T.gl "written" (by decide +kernel)
    have g_law_code := T.gl "_law_code" (by decide +kernel)
    have g_law_other := T.gl "_law_other" (by decide +kernel)
    refine ⟨_, PSs.nox (pss_cut (ps_set (i := 1) sc_law.nd rfl (Or.inl rfl) (pe_lst (pa_cons (pe_orT (pe_callTy call_list_of (by rfl) n_list (by decide +kernel) (pa_cons (pv 0) pa_nil)) (pe_one (pe_lst (pa_cons pe_int pa_nil)))) (pa_cons pe_int pa_nil))))
      (pss_cons (ps_for PassesOwn.never rfl (pi_range1 (by rfl) n_range (pa_cons pe_int pa_nil)) (pg_name (i := 2) sc_law.nd rfl (Or.inl rfl))
      (pss_cons (ps_set (i := 3) sc_law.nd rfl (Or.inl rfl) (pe_call G_law_drawn (hr.mono (by decide)) (by rfl) g_law_drawn kp_law_drawn b_law_drawn .nil pass0 (pa_cons (pv 1) (pa_cons (pe_call G_law_pick (hr.mono (by decide)) (by rfl) g_law_pick kp_law_pick b_law_pick .nil pass0 (pa_cons (pv 1) (pa_cons (pe_lst (pa_cons pe_int (pa_cons pe_int (pa_cons pe_int pa_nil)))) pa_nil))) pa_nil))))
      (pss_cons (ps_set (i := 4) sc_law.nd rfl (Or.inl rfl) (pe_join pe_str (pe_call G_law_text (hr.mono (by decide)) (by rfl) g_law_text kp_law_text b_law_text .nil pass0 (pa_cons (pv 3) pa_nil))))
      (pss_cons (ps_set (i := 5) sc_law.nd rfl (Or.inl rfl) (pe_call G_read_code (hr.mono (by decide)) (by rfl) g_read_code kp_read_code b_read_code .nil pass0 (pa_cons (pv 4) pa_nil)))
      (pss_cons (ps_if (PW.pt (pw_or (pt_not (pt_val (pe_call G_law_kept (hr.mono (by decide)) (by rfl) g_law_kept kp_law_kept b_law_kept .nil pass0 (pa_cons (pv 5) (pa_cons (pv 3) pa_nil))))) (pw_or1 (pt_cmpR op_ne (pe_call G_written (hr.mono (by decide)) (by rfl) g_written kp_written b_written .nil pass0 (pa_cons (pv 5) pa_nil)) (pv 4) (nomark _)))))
      (pss_one (ps_ret pe_bl))
      pss_nil)
      (pss_cons (ps_set (i := 6) sc_law.nd rfl (Or.inl rfl) (pe_call G_law_code (hr.mono (by decide)) (by rfl) g_law_code kp_law_code b_law_code .nil pass0 (pa_cons (pe_call G_law_other (hr.mono (by decide)) (by rfl) g_law_other kp_law_other b_law_other .nil pass0 (pa_cons (pv 1) (pa_cons (pv 3) pa_nil))) pa_nil)))
      (pss_one (ps_if (PW.pt (pw_or (pt_cmpR op_eq (pe_call G_written (hr.mono (by decide)) (by rfl) g_written kp_written b_written .nil pass0 (pa_cons (pv 6) pa_nil)) (pv 4) (nomark _)) (pw_or1 (pt_not (pt_cmpR (XQ.op_own G_Code___eq__ T.cef T.cen b_Code___eq__ (hr.mono (by decide))) (pe_call G_read_code (hr.mono (by decide)) (by rfl) g_read_code kp_read_code b_read_code .nil pass0 (pa_cons (pe_call G_written (hr.mono (by decide)) (by rfl) g_written kp_written b_written .nil pass0 (pa_cons (pv 6) pa_nil)) pa_nil)) (pv 6) (nomark _))))))
      (pss_one (ps_ret pe_bl))
      pss_nil))))))))
      (pss_one (ps_ret pe_bl)))), ?_⟩
    refine q_cut (M := fun σ' H' => ∃ p l, σ' = [some (.ref a), some (.ref p), none, none, none, none, none] ∧ Pen p l (2 * (210 + 3 * Pn 4)) H') ?_ fun σ1 H1 hM => ?_
    · refine ⟨.ref a, rfl, a, _, rfl, .inl hS, fun l0 hl0 => ⟨!ns.isEmpty, (show TruV K (.ref l0) _ _ from Or.inl ⟨ns.map V.int, sq_of upd_same, by cases ns <;> rfl⟩), ite2 (fun hn => ?_) (fun hn => ?_)⟩⟩
      · refine ⟨fits (show 2 ≤ 1000 by decide), fun p hp => ⟨p, l0, rfl, 0, ns, upd_same, Ex.new hp _ _ upd_same, ?_, by decide, by decide⟩⟩
        rintro rfl
        cases hn
      · refine ⟨fits (show 1 ≤ 1000 by decide), fun l1 hl1 => ⟨fits (show 2 ≤ 1000 by decide), fun p hp => ⟨p, l1, rfl, 0, [0], upd_same, Ex.new hp _ _ upd_same, by simp, by decide, by decide⟩⟩⟩
    obtain ⟨p, l, rfl, pen0⟩ := hM
    refine q_forR1 (n := 2) (ea_cons ev_c ea_nil) ⟨by decide, by decide⟩ (fun i σ' H' => ∃ (v2 v3 v4 v5 v6 : Option V), σ' = [some (.ref a), some (.ref p), v2, v3, v4, v5, v6] ∧ Pen p l ((2 - i) * (210 + 3 * Pn 4)) H')
      (fun H2 e2 => ⟨_, _, _, _, _, rfl, pen0.ex e2⟩) (fun i σ' H0 hi hI => ?_) (fun σ' H' hI => ?_)
    · obtain ⟨v2, v3, v4, v5, v6, rfl, pen⟩ := hI
      have hi2 : i < 2 := by omega
      have eqB : (2 - i) * (210 + 3 * Pn 4) = (2 - (i + 1)) * (210 + 3 * Pn 4) + (210 + 3 * Pn 4) := by
        obtain ⟨t, ht⟩ : ∃ t, 2 - i = t + 1 := ⟨2 - i - 1, by omega⟩
        rw [ht, show 2 - (i + 1) = t by omega, Nat.succ_mul]
      rw [eqB] at pen
      try dsimp only [gName, List.set]
      refine ⟨.ref p, rfl, .ref p, rfl, (show 3 ≤ sizeLine by decide), fun q hq => ?_⟩
      have nq := pen.new hq
      have penq := pen.ex (Ex.new (o := .lst [.int 4, .int 9, .int 14]) hq)
      refine ⟨p, l, q, [.int 4, .int 9, .int 14], (2 - (i + 1)) * (210 + 3 * Pn 4) + (209 + 3 * Pn 4), rfl, sq_of ((cut_at nq.1 nq.2).trans upd_same), ⟨(fun e => nomatch e), (by show 3 ≤ 1000000; decide)⟩, penq.less (by omega), fun v H2 hv px2 pen2 => ?_⟩
      have rm : ∃ room : Nat, v = .int (room : Nat) ∧ room ≤ 14 := by
        simp only [List.mem_cons, List.not_mem_nil, or_false] at hv
        rcases hv with e | e | e
        · exact ⟨4, e, by decide⟩
        · exact ⟨9, e, by decide⟩
        · exact ⟨14, e, by decide⟩
      obtain ⟨room, rfl, hroom⟩ := rm
      refine ⟨p, l, room, (2 - (i + 1)) * (210 + 3 * Pn 4) + 2, rfl, hroom, pen2.less (by omega), fun pl cs rs os st bds H3 px3 pen3 hPl hN hB => ?_⟩
      have hbl : bds.length = os.length := by
        obtain ⟨kvs, c, r, o, bd, bk, k1, k2, k3, k4, k5, k6, k7, k8, k9, k10, k11, _⟩ := hPl
        exact k11
      clear px2 px3 pen2 penq nq pen hq
      try dsimp only [gName, List.set]
      -- the text
      refine ⟨⟨_, rfl⟩, .ref pl, rfl, pl, cs, rs, os, st, bds, rfl, hPl, hN, hB, fun qt H4 hqt e4 h4 => ⟨nl, qt, txt cs rs os st bds, rfl, rfl, .inl (sq_of h4), ?_, ?_⟩⟩
      · have k := sum_lens (txt_each hN hB)
        have few := txt_few hN hB
        have kl : (txt cs rs os st bds).length = 3 + ((os.zip bds).flatMap fnL).length := by
          unfold txt
          rw [List.length_append]
          rfl
        have kn : nl.length = 1 := by decide +kernel
        rw [kn]
        have k2 : (txt cs rs os st bds).length * 80 ≤ 100 * 80 := Nat.mul_le_mul_right _ (by omega)
        omega
      try dsimp only [gName, List.set]
      -- read back
      refine ⟨.str _, rfl, cs, rs, os, st, bds, rfl, hN, hbl, hB, fun x c r f fos H5 e5 hC hfr => ?_⟩
      have e45 := e4.trans e5
      try dsimp only [gName, List.set]
      refine q_when (b := false) (et_is (et_or (a := !true) (b := false) (et_not (et_B (ev_call (z := .bl true) (ea_cons (ev_var rfl) (ea_cons (ev_var rfl) ea_nil)) fun H6 e6 R q _ => ⟨x, pl, c, r, f, cs, rs, os, st, fos, bds, rfl, hC.mono e6, hPl.mono (e45.trans e6), hN, hB, fun H7 e7 => q H7 e7⟩))) fun _ => et_test (ev_op (ev_call (z := .str (Txt.join nl (txt cs rs os st bds))) (ea_cons (ev_var rfl) ea_nil) fun H6 e6 R q _ => ⟨x, c, r, f, cs, rs, os, st, fos, bds, rfl, hC.mono e6, hN, hB, fun H7 e7 => q H7 e7⟩) (ev_var rfl) rv_neS)) rfl) (fun h => nomatch h) (fun _ H6 e6 => ?_)
      have e36 := e45.trans e6
      -- another one
      refine ⟨.ref p, rfl, .ref pl, rfl, p, l, pl, cs, rs, os, st, bds, (2 - (i + 1)) * (210 + 3 * Pn 4), rfl, hPl.mono e36, hN, hB, pen3.ex e36, fun ot cs' rs' os' st' bds' H7 px7 pen7 hF' hN' hB' hne => ?_⟩
      have hbl' : bds'.length = os'.length := by
        obtain ⟨kvs, c, r, o, bd, bk, k1, k2, k3, k4, k5, k6, k7, k8, k9, k10, k11, _⟩ := hF'
        exact k11
      refine ⟨ot, cs', rs', os', st', bds', rfl, hF', hN', hB', fun y c2 r2 f2 fos2 H8 e8 hC2 hfr2 => ?_⟩
      try dsimp only [gName, List.set]
      have tne := text_ne hN hB hbl hN' hB' hbl' hne
      refine s_when (b := false) (et_is (et_or (a := false) (b := !true) (et_is (et_test (ev_op (ev_call (z := .str (Txt.join nl (txt cs' rs' os' st' bds'))) (ea_cons (ev_var rfl) ea_nil) fun H9 e9 R q _ => ⟨y, c2, r2, f2, cs', rs', os', st', fos2, bds', rfl, hC2.mono e9, hN', hB', fun H10 e10 => q H10 e10⟩) (ev_var rfl) rv_eqS)) (decide_eq_false tne)) fun _ => et_not (et_is (et_test (ev_ownR T.toTe rfl hC2 hN' hbl' hB')) (ceq_self (fun ss hs => ⟨_, bodv_tt (hB' ss hs)⟩)))) rfl) (fun h => nomatch h) (fun _ H9 e9 => ?_)
      exact ⟨_, _, _, _, _, rfl, pen7.ex (e8.trans e9)⟩
    · obtain ⟨v2, v3, v4, v5, v6, rfl, _⟩ := hI
      exact kk H'

end
end K05
set_option Elab.async false
set_option linter.all false
set_option maxRecDepth 100000
set_option maxHeartbeats 8000000

namespace K05
open PySem PySem.Spec PyProof.Rows L2 He XH XV XR PEN XT TR Evl
def steps : Nat := 120000
def noneB (K : PySem.W.Frag) (x k : Str) : Bool := match PySem.W.nsIn K (ga K x) k with
  | some none => true
  | _ => false
theorem noneB_ok {K : PySem.W.Frag} {x k : Str} (q : noneB K x k = true) : PySem.W.nsIn K (ga K x) k = some none := by
  unfold noneB at q
  split at q
  · assumption
  · cases q
def eddB (K : PySem.W.Frag) (x k : Str) : Bool := match PySem.W.nsIn K (ga K x) k with
  | some (some (.ref a)) => (match K.lookup a with
    | some ⟨.type c, none, _, _⟩ => c == "tuple"
    | _ => false)
  | _ => false
theorem eddB_ok {K : PySem.W.Frag} {x k : Str} (q : eddB K x k = true) : ∃ a o, PySem.W.nsIn K (ga K x) k = some (some (.ref a)) ∧ K.lookup a = some o ∧ o.cls = .type "tuple" ∧ o.dict = none := by
  unfold eddB at q
  split at q
  · rename_i a e
    split at q
    · rename_i c dat sl e2
      have ec : c = "tuple" := eq_of_beq q
      subst ec
      exact ⟨a, _, e, e2, rfl, rfl⟩
    · cases q
  · cases q
def secPairs : List (String × String) := [("either", "or"), ("told", "else"), ("look", "else"), ("guard", "rescue"), ("lastly", "lastly")]
def fFields : List String := ["name", "body", "many"]
def cFields : List String := ["cells", "rows", "functions", "start"]

/-! ### the head -/
def fn : List He.DefD := [⟨("Function", some "__init__"), "__init__", "Function.__init__", defArgs s_Function_init, defBody s_Function_init, defScope s_Function_init, [], []⟩,
  ⟨("Function", some "__eq__"), "__eq__", "Function.__eq__", defArgs s_Function___eq__, defBody s_Function___eq__, defScope s_Function___eq__, [], []⟩,
  ⟨("Code", some "__init__"), "__init__", "Code.__init__", defArgs s_Code_init, defBody s_Code_init, defScope s_Code_init, [], []⟩,
  ⟨("Code", some "__eq__"), "__eq__", "Code.__eq__", defArgs s_Code___eq__, defBody s_Code___eq__, defScope s_Code___eq__, [], []⟩,
  ⟨("frozen", none), "frozen", "frozen", defArgs s_frozen, defBody s_frozen, defScope s_frozen, [], []⟩,
  ⟨("is_name", none), "is_name", "is_name", defArgs s_is_name, defBody s_is_name, defScope s_is_name, [], []⟩,
  ⟨("kinds_of", none), "kinds_of", "kinds_of", defArgs s_kinds_of, defBody s_kinds_of, defScope s_kinds_of, [], []⟩,
  ⟨("parts_of", none), "parts_of", "parts_of", defArgs s_parts_of, defBody s_parts_of, defScope s_parts_of, [], []⟩,
  ⟨("numbered", none), "numbered", "numbered", defArgs s_numbered, defBody s_numbered, defScope s_numbered, [], []⟩,
  ⟨("check_bounds", none), "check_bounds", "check_bounds", defArgs s_check_bounds, defBody s_check_bounds, defScope s_check_bounds, [], []⟩,
  ⟨("check_names", none), "check_names", "check_names", defArgs s_check_names, defBody s_check_names, defScope s_check_names, [], []⟩,
  ⟨("names_by_kind", none), "names_by_kind", "names_by_kind", defArgs s_names_by_kind, defBody s_names_by_kind, defScope s_names_by_kind, [], []⟩,
  ⟨("check_body", none), "check_body", "check_body", defArgs s_check_body, defBody s_check_body, defScope s_check_body, [], []⟩,
  ⟨("well_formed", none), "well_formed", "well_formed", defArgs s_well_formed, defBody s_well_formed, defScope s_well_formed, [], []⟩,
  ⟨("fits", none), "fits", "fits", defArgs s_fits, defBody s_fits, defScope s_fits, [], []⟩,
  ⟨("misplaced", none), "misplaced", "misplaced", defArgs s_misplaced, defBody s_misplaced, defScope s_misplaced, [], []⟩,
  ⟨("written", none), "written", "written", defArgs s_written, defBody s_written, defScope s_written, [], []⟩,
  ⟨("heading", none), "heading", "heading", defArgs s_heading, defBody s_heading, defScope s_heading, [], []⟩,
  ⟨("part_lines", none), "part_lines", "part_lines", defArgs s_part_lines, defBody s_part_lines, defScope s_part_lines, [], []⟩,
  ⟨("statement_lines", none), "statement_lines", "statement_lines", defArgs s_statement_lines, defBody s_statement_lines, defScope s_statement_lines, [], []⟩,
  ⟨("read_code", none), "read_code", "read_code", defArgs s_read_code, defBody s_read_code, defScope s_read_code, [], []⟩,
  ⟨("line_at", none), "line_at", "line_at", defArgs s_line_at, defBody s_line_at, defScope s_line_at, [], []⟩,
  ⟨("read_heading", none), "read_heading", "read_heading", defArgs s_read_heading, defBody s_read_heading, defScope s_read_heading, [], []⟩,
  ⟨("read_name", none), "read_name", "read_name", defArgs s_read_name, defBody s_read_name, defScope s_read_name, [], []⟩,
  ⟨("read_part", none), "read_part", "read_part", defArgs s_read_part, defBody s_read_part, defScope s_read_part, [], []⟩,
  ⟨("read_parts", none), "read_parts", "read_parts", defArgs s_read_parts, defBody s_read_parts, defScope s_read_parts, [], []⟩,
  ⟨("read_head", none), "read_head", "read_head", defArgs s_read_head, defBody s_read_head, defScope s_read_head, [], []⟩,
  ⟨("word_of", none), "word_of", "word_of", defArgs s_word_of, defBody s_word_of, defScope s_word_of, [], []⟩,
  ⟨("reads_as", none), "reads_as", "reads_as", defArgs s_reads_as, defBody s_reads_as, defScope s_reads_as, [], []⟩,
  ⟨("_law_draw", none), "_law_draw", "_law_draw", defArgs s_law_draw, defBody s_law_draw, defScope s_law_draw, [], []⟩,
  ⟨("_law_pick", none), "_law_pick", "_law_pick", defArgs s_law_pick, defBody s_law_pick, defScope s_law_pick, [], []⟩,
  ⟨("_law_word", none), "_law_word", "_law_word", defArgs s_law_word, defBody s_law_word, defScope s_law_word, [], []⟩,
  ⟨("_law_names", none), "_law_names", "_law_names", defArgs s_law_names, defBody s_law_names, defScope s_law_names, [], []⟩,
  ⟨("_law_count", none), "_law_count", "_law_count", defArgs s_law_count, defBody s_law_count, defScope s_law_count, [], []⟩,
  ⟨("_law_deeds", none), "_law_deeds", "_law_deeds", defArgs s_law_deeds, defBody s_law_deeds, defScope s_law_deeds, [], []⟩,
  ⟨("_law_simple", none), "_law_simple", "_law_simple", defArgs s_law_simple, defBody s_law_simple, defScope s_law_simple, [], []⟩,
  ⟨("_law_block", none), "_law_block", "_law_block", defArgs s_law_block, defBody s_law_block, defScope s_law_block, [], []⟩,
  ⟨("_law_part", none), "_law_part", "_law_part", defArgs s_law_part, defBody s_law_part, defScope s_law_part, [], []⟩,
  ⟨("_law_plan", none), "_law_plan", "_law_plan", defArgs s_law_plan, defBody s_law_plan, defScope s_law_plan, [], []⟩,
  ⟨("_law_drawn", none), "_law_drawn", "_law_drawn", defArgs s_law_drawn, defBody s_law_drawn, defScope s_law_drawn, [], []⟩,
  ⟨("_law_code", none), "_law_code", "_law_code", defArgs s_law_code, defBody s_law_code, defScope s_law_code, [], []⟩,
  ⟨("_law_lines", none), "_law_lines", "_law_lines", defArgs s_law_lines, defBody s_law_lines, defScope s_law_lines, [], []⟩,
  ⟨("_law_text", none), "_law_text", "_law_text", defArgs s_law_text, defBody s_law_text, defScope s_law_text, [], []⟩,
  ⟨("_law_kept", none), "_law_kept", "_law_kept", defArgs s_law_kept, defBody s_law_kept, defScope s_law_kept, [], []⟩,
  ⟨("_law_other", none), "_law_other", "_law_other", defArgs s_law_other, defBody s_law_other, defScope s_law_other, [], []⟩,
  ⟨("law", none), "law", "law", defArgs s_law, defBody s_law, defScope s_law, [], []⟩]
def fa : List Fc := [glosB globs, freesB frees, fun K => (Fa.int "MOST_CELLS" 3).ok K, fun K => (Fa.int "MOST_ROWS" 2).ok K, fun K => (Fa.int "MOST_FUNCTIONS" 3).ok K, fun K => (Fa.int "MOST_STATEMENTS" 14).ok K, fun K => (Fa.int "MOST_BLOCKS_AROUND" 2).ok K, fun K => (Fa.int "LONGEST_NAME" 12).ok K, fun K => (Fa.int "WIDEST_MARGIN" 8).ok K, fun K => (Fa.str "LETTERS" "abcdefghijklmnopqrstuvwxyz").ok K, fun K => (Fa.str "STEP" "  ").ok K, fun K => (Fa.cls "Function").ok K, fun K => (Fa.cls "Code").ok K, fun K => fFields.all fun x => (Fa.noat "Function" x).ok K, fun K => cFields.all fun x => (Fa.noat "Code" x).ok K, fun K => (Fa.mkr "Function").ok K, fun K => (Fa.mkr "Code").ok K, fun K => tupB K "ROUND_WORDS" [.str "again", .str "out"], fun K => tupB K "CHANGE_WORDS" [.str "put", .str "blank", .str "give", .str "push", .str "pop", .str "cut"], fun K => ENT.all fun p => entB K "ENTRIES" p.1 p.2, fun K => entB K "FIXED_WORDS" "how" ["copy", "view"], fun K => entB K "FIXED_WORDS" "end" ["found", "none"], fun K => eqO (PySem.W.findIn K (.ref (ga K "Function")) "__eq__") (some (some (.ref (ma K (ga K "Function") "__eq__")))), fun K => PySem.W.isFn K (.ref (ma K (ga K "Function") "__eq__")), fun K => eqO (PySem.W.findIn K (.ref (ga K "Function")) "__class__") (some (some (.builtin "object.__class__"))), fun K => decide (PySem.W.mroIn K (ga K "Function") (.type "object") = some true), fun K => decide (PySem.W.kitOne K (.ref (ga K "Function")) (.ref (ga K "Function")) = some true), fun K => decide (PySem.W.kitOne K (.type "str") (.ref (ga K "Function")) = some false), fun K => PySem.W.notFirst K (ga K "Function") (.type "str"), fun K => eqO (PySem.W.findIn K (.ref (ga K "Code")) "__eq__") (some (some (.ref (ma K (ga K "Code") "__eq__")))), fun K => PySem.W.isFn K (.ref (ma K (ga K "Code") "__eq__")), fun K => eqO (PySem.W.findIn K (.ref (ga K "Code")) "__class__") (some (some (.builtin "object.__class__"))), fun K => decide (PySem.W.mroIn K (ga K "Code") (.type "object") = some true), fun K => decide (PySem.W.kitOne K (.ref (ga K "Code")) (.ref (ga K "Code")) = some true), fun K => decide (PySem.W.kitOne K (.type "str") (.ref (ga K "Code")) = some false), fun K => PySem.W.notFirst K (ga K "Code") (.type "str"), fun K => eqO (PySem.W.specialIn K (.builtin "object.__class__") "__get__") (some (some (.builtin "getset_descriptor.__get__"))), fun K => decide (PySem.W.takesIn K (.builtin "object.__class__") = some true), fun K => secPairs.all fun p => sndB K "SECOND_WORDS" (p.1 : String) (p.2 : String), fun K => [("cell" : Str), "row", "function"].all fun x => noneB K "FIXED_WORDS" x, fun K => ENT.all fun p => eddB K "ENTRIES" p.1]
abbrev R : PySem.W.OpenRow := PySem.W.OpenLaw.row PySem.Challenge.rw_tryback_k05_whole_texts_read_back
def tb : List Tab := [(fun K => ga K "ENTRIES", ["put", "blank", "give", "push", "pop", "cut", "answer", "deeper", "stop", "fault", "may", "again", "out", "either", "tries", "told", "look", "guard", "lastly"]),
  (fun K => ga K "FIXED_WORDS", ["how", "end"]),
  (fun K => ga K "SECOND_WORDS", ["either", "told", "look", "guard", "lastly"])]
abbrev hk : PySem.W.Hook := hookU 5 fa fn tb
def ob (s : PySem.W.SharedT) : AlU := obsUG 5 fa fn tb (HandSHeadRun.getT s)
theorem ob_eq (s : PySem.W.SharedT) : ob s = hk.obs s.abs := obsUG_eq (HandSHeadRun.getT_eq s)
def loose : List Str := [("BadCode" : Str), ("BadText" : Str), ("CHANGE_WORDS" : Str), ("Code" : Str), ("ENTRIES" : Str), ("FIXED_WORDS" : Str), ("Function" : Str), ("LETTERS" : Str), ("LONGEST_NAME" : Str), ("MOST_BLOCKS_AROUND" : Str), ("MOST_CELLS" : Str), ("MOST_FUNCTIONS" : Str), ("MOST_ROWS" : Str), ("MOST_STATEMENTS" : Str), ("ROUND_WORDS" : Str), ("SECOND_WORDS" : Str), ("STEP" : Str), ("TooGreat" : Str), ("TryError" : Str), ("WIDEST_MARGIN" : Str), ("__name__" : Str), ("_law_block" : Str), ("_law_code" : Str), ("_law_count" : Str), ("_law_deeds" : Str), ("_law_draw" : Str), ("_law_drawn" : Str), ("_law_kept" : Str), ("_law_lines" : Str), ("_law_names" : Str), ("_law_other" : Str), ("_law_part" : Str), ("_law_pick" : Str), ("_law_plan" : Str), ("_law_simple" : Str), ("_law_text" : Str), ("_law_word" : Str), ("_wall" : Str), ("check_body" : Str), ("check_bounds" : Str), ("check_names" : Str), ("fits" : Str), ("frozen" : Str), ("heading" : Str), ("is_name" : Str), ("kinds_of" : Str), ("line_at" : Str), ("misplaced" : Str), ("names_by_kind" : Str), ("numbered" : Str), ("part_lines" : Str), ("parts_of" : Str), ("read_code" : Str), ("read_head" : Str), ("read_heading" : Str), ("read_name" : Str), ("read_part" : Str), ("read_parts" : Str), ("reads_as" : Str), ("statement_lines" : Str), ("well_formed" : Str), ("word_of" : Str), ("written" : Str)]
/-- the world with its one freedom that the top asks for set -/
def fix (w : World) (b : Bool) : World := { w with params := { w.params with followText := fun s => bif s == "special-get-raises" then b else w.params.followText s } }
theorem fix_eq (w : World) : fix w (w.params.followText "special-get-raises") = w := by
  have e : (fun s => bif s == "special-get-raises" then w.params.followText "special-get-raises" else w.params.followText s) = w.params.followText := by
    funext s
    cases h : s == "special-get-raises" with
    | true => rw [beq_iff_eq.mp h]; rfl
    | false => rfl
  unfold fix
  rw [e]
theorem run_t (w : World) : HandSHeadRun.RunEq R (PySem.W.view R.prog [66]) hk ob 120000 loose (fix w true) := by
  intro os
  kernel_rfl
theorem run_f (w : World) : HandSHeadRun.RunEq R (PySem.W.view R.prog [66]) hk ob 120000 loose (fix w false) := by
  intro os
  kernel_rfl
theorem run (w : World) : HandSHeadRun.RunEq R (PySem.W.view R.prog [66]) hk ob 120000 loose w := by
  rw [← fix_eq w]
  cases w.params.followText "special-get-raises" with
  | true => exact run_t w
  | false => exact run_f w

theorem facts {P : Program} {w : World} {K : PySem.W.Frag} {h : Heap} {mg : Str → Option Value} {f : Addr} (X : K.In h) (G : h.Ns mainGlobals mg) (hfa : mg ("law" : Str) = some (.ref f)) (cu : SaysU fa fn tb w K) :
    ∃ fd : FuncData, (∀ (s : Shared) (v : Value), BindsTo s fd ⟨[v], []⟩ [("_law_script", v)]) ∧ ∀ base : Heap, K.In base → base.Ns mainGlobals mg → FnOk P w K mg base CX0 21 f fd ["_law_script"] (spLaw K) := by
  have c := cu.b
  obtain ⟨es1, n1, D1⟩ := cu.at 0 rfl
  obtain ⟨es2, n2, D2⟩ := cu.at 1 rfl
  obtain ⟨es3, n3, D3⟩ := cu.at 2 rfl
  obtain ⟨a1, hf1, hs1⟩ := entB_ok (c.fact 20 rfl)
  obtain ⟨a2, hf2, hs2⟩ := entB_ok (c.fact 21 rfl)
  have T0 : Txt K w mg := {
    gl := fun x hx => glos_ok X G (c.fact 0 rfl) x hx
    fr := fun x hx => frees_ok X G (c.fact 1 rfl) x hx
    c_MOST_CELLS := int_ok X G (c.fact 2 rfl)
    c_MOST_ROWS := int_ok X G (c.fact 3 rfl)
    c_MOST_FUNCTIONS := int_ok X G (c.fact 4 rfl)
    c_MOST_STATEMENTS := int_ok X G (c.fact 5 rfl)
    c_MOST_BLOCKS_AROUND := int_ok X G (c.fact 6 rfl)
    c_LONGEST_NAME := int_ok X G (c.fact 7 rfl)
    c_WIDEST_MARGIN := int_ok X G (c.fact 8 rfl)
    c_LETTERS := str_ok X G (c.fact 9 rfl)
    c_STEP := str_ok X G (c.fact 10 rfl) }
  have T1 : Tx K w mg := { T0 with
    en := ⟨es1, n1, D1, fun p hp => entB_ok (List.all_eq_true.mp (c.fact 19 rfl) p hp)⟩
    fx := ⟨es2, n2, a1, a2, D2, ⟨hf1, hs1⟩, hf2, hs2⟩
    se := ⟨es3, n3, D3, fun p hp => sndB_ok (List.all_eq_true.mp (c.fact 38 rfl) p hp)⟩
    ro := fun H => tupB_ok (c.fact 17 rfl) H
    ch := fun H => tupB_ok (c.fact 18 rfl) H
    cf := cls_ok (c.fact 11 rfl)
    cc := cls_ok (c.fact 12 rfl)
    nf := fun x hx => noat_ok (List.all_eq_true.mp (c.fact 13 rfl) x hx)
    nc := fun x hx => noat_ok (List.all_eq_true.mp (c.fact 14 rfl) x hx)
    mf := mkr_ok (c.fact 15 rfl)
    mc := mkr_ok (c.fact 16 rfl) }
  have T2 : Te K w mg := { T1 with
    fef := eqO_ok (c.fact 22 rfl)
    fen := c.fact 23 rfl
    ffa := eqO_ok (c.fact 24 rfl)
    ffm := of_decide_eq_true (c.fact 25 rfl)
    ffk := of_decide_eq_true (c.fact 26 rfl)
    ffs := of_decide_eq_true (c.fact 27 rfl)
    ffn := c.fact 28 rfl
    cef := eqO_ok (c.fact 29 rfl)
    cen := c.fact 30 rfl
    cfa := eqO_ok (c.fact 31 rfl)
    cfm := of_decide_eq_true (c.fact 32 rfl)
    cfk := of_decide_eq_true (c.fact 33 rfl)
    cfs := of_decide_eq_true (c.fact 34 rfl)
    cfn := c.fact 35 rfl
    oig := eqO_ok (c.fact 36 rfl)
    oit := of_decide_eq_true (c.fact 37 rfl) }
  have T3 : Td K w mg := { T2 with
    fj := fun x hx => noneB_ok (List.all_eq_true.mp (c.fact 39 rfl) x hx)
    ed := fun p hp => by
      obtain ⟨a, h1, h2⟩ := entB_ok (List.all_eq_true.mp (c.fact 19 rfl) p hp)
      obtain ⟨a2, o, h3, h4⟩ := eddB_ok (List.all_eq_true.mp (c.fact 40 rfl) p hp)
      rw [h1] at h3
      cases h3
      exact ⟨a, h1, h2, o, h4⟩ }
  obtain ⟨d0, F0⟩ := c.def_ 0 rfl
  obtain ⟨d1, F1⟩ := c.def_ 1 rfl
  obtain ⟨d2, F2⟩ := c.def_ 2 rfl
  obtain ⟨d3, F3⟩ := c.def_ 3 rfl
  obtain ⟨d4, F4⟩ := c.def_ 4 rfl
  obtain ⟨d5, F5⟩ := c.def_ 5 rfl
  obtain ⟨d6, F6⟩ := c.def_ 6 rfl
  obtain ⟨d7, F7⟩ := c.def_ 7 rfl
  obtain ⟨d8, F8⟩ := c.def_ 8 rfl
  obtain ⟨d9, F9⟩ := c.def_ 9 rfl
  obtain ⟨d10, F10⟩ := c.def_ 10 rfl
  obtain ⟨d11, F11⟩ := c.def_ 11 rfl
  obtain ⟨d12, F12⟩ := c.def_ 12 rfl
  obtain ⟨d13, F13⟩ := c.def_ 13 rfl
  obtain ⟨d14, F14⟩ := c.def_ 14 rfl
  obtain ⟨d15, F15⟩ := c.def_ 15 rfl
  obtain ⟨d16, F16⟩ := c.def_ 16 rfl
  obtain ⟨d17, F17⟩ := c.def_ 17 rfl
  obtain ⟨d18, F18⟩ := c.def_ 18 rfl
  obtain ⟨d19, F19⟩ := c.def_ 19 rfl
  obtain ⟨d20, F20⟩ := c.def_ 20 rfl
  obtain ⟨d21, F21⟩ := c.def_ 21 rfl
  obtain ⟨d22, F22⟩ := c.def_ 22 rfl
  obtain ⟨d23, F23⟩ := c.def_ 23 rfl
  obtain ⟨d24, F24⟩ := c.def_ 24 rfl
  obtain ⟨d25, F25⟩ := c.def_ 25 rfl
  obtain ⟨d26, F26⟩ := c.def_ 26 rfl
  obtain ⟨d27, F27⟩ := c.def_ 27 rfl
  obtain ⟨d28, F28⟩ := c.def_ 28 rfl
  obtain ⟨d29, F29⟩ := c.def_ 29 rfl
  obtain ⟨d30, F30⟩ := c.def_ 30 rfl
  obtain ⟨d31, F31⟩ := c.def_ 31 rfl
  obtain ⟨d32, F32⟩ := c.def_ 32 rfl
  obtain ⟨d33, F33⟩ := c.def_ 33 rfl
  obtain ⟨d34, F34⟩ := c.def_ 34 rfl
  obtain ⟨d35, F35⟩ := c.def_ 35 rfl
  obtain ⟨d36, F36⟩ := c.def_ 36 rfl
  obtain ⟨d37, F37⟩ := c.def_ 37 rfl
  obtain ⟨d38, F38⟩ := c.def_ 38 rfl
  obtain ⟨d39, F39⟩ := c.def_ 39 rfl
  obtain ⟨d40, F40⟩ := c.def_ 40 rfl
  obtain ⟨d41, F41⟩ := c.def_ 41 rfl
  obtain ⟨d42, F42⟩ := c.def_ 42 rfl
  obtain ⟨d43, F43⟩ := c.def_ 43 rfl
  obtain ⟨d44, F44⟩ := c.def_ 44 rfl
  obtain ⟨d45, F45⟩ := c.def_ 45 rfl
  have e := hfa.symm.trans (T0.gl "law" (by decide +kernel))
  cases e
  have b := FunD.bindsA (ps := ["_law_script"]) F45 fun _ _ _ _ _ _ us hl => match us, hl with | [_], _ => rfl
  refine ⟨d45, fun s v => b s [v] rfl, fun base _ _ => ?_⟩
  have c_draw : Cl P w K mg base CX0 1 (ga K "_law_draw") ["_law_pen", "_law_many"] spDraw := ⟨d29, (ok_law_draw F29 T0).mono (Nat.le_refl _), FunD.bindsN (ps := ["_law_pen", "_law_many"]) F29 fun _ _ _ _ _ _ us hl => match us, hl with | [_, _], _ => rfl, F29.kp⟩
  have c_pick : Cl P w K mg base CX0 2 (ga K "_law_pick") ["_law_pen", "_law_row"] (spPick K) := ⟨d30, (ok_law_pick F30 T0 c_draw).mono (Nat.le_refl _), FunD.bindsN (ps := ["_law_pen", "_law_row"]) F30 fun _ _ _ _ _ _ us hl => match us, hl with | [_, _], _ => rfl, F30.kp⟩
  have c_word : Cl P w K mg base CX0 2 (ga K "_law_word") ["_law_pen", "_law_most"] spWord := ⟨d31, (ok_law_word F31 T0 c_draw).mono (Nat.le_refl _), FunD.bindsN (ps := ["_law_pen", "_law_most"]) F31 fun _ _ _ _ _ _ us hl => match us, hl with | [_, _], _ => rfl, F31.kp⟩
  have c_names : Cl P w K mg base CX0 3 (ga K "_law_names") ["_law_pen", "_law_many"] (spNames K) := ⟨d32, (ok_law_names F32 T0 c_draw c_word).mono (Nat.le_refl _), FunD.bindsN (ps := ["_law_pen", "_law_many"]) F32 fun _ _ _ _ _ _ us hl => match us, hl with | [_, _], _ => rfl, F32.kp⟩
  have c_isn : Cl P w K mg base CX0 1 (ga K "is_name") ["word"] spIsName := ⟨d5, (ok_is_name F5 T1).mono (Nat.le_refl _), FunD.bindsN (ps := ["word"]) F5 fun _ _ _ _ _ _ us hl => match us, hl with | [_], _ => rfl, F5.kp⟩
  have c_fr0 : Cl P w K mg base CX0 1 (ga K "frozen") ["thing"] (spFrL K 0) := ⟨d4, (ok_frozen0 F4 T1).mono (Nat.le_refl _), FunD.bindsN (ps := ["thing"]) F4 fun _ _ _ _ _ _ us hl => match us, hl with | [_], _ => rfl, F4.kp⟩
  have c_fr1 : Cl P w K mg base CX0 2 (ga K "frozen") ["thing"] (spFrL K 1) := ⟨d4, (ok_frozenS (n := 0) F4 T1 c_fr0).mono (Nat.le_refl _), FunD.bindsN (ps := ["thing"]) F4 fun _ _ _ _ _ _ us hl => match us, hl with | [_], _ => rfl, F4.kp⟩
  have c_fr2 : Cl P w K mg base CX0 3 (ga K "frozen") ["thing"] (spFrL K 2) := ⟨d4, (ok_frozenS (n := 1) F4 T1 c_fr1).mono (Nat.le_refl _), FunD.bindsN (ps := ["thing"]) F4 fun _ _ _ _ _ _ us hl => match us, hl with | [_], _ => rfl, F4.kp⟩
  have c_fr3 : Cl P w K mg base CX0 4 (ga K "frozen") ["thing"] (spFrL K 3) := ⟨d4, (ok_frozenS (n := 2) F4 T1 c_fr2).mono (Nat.le_refl _), FunD.bindsN (ps := ["thing"]) F4 fun _ _ _ _ _ _ us hl => match us, hl with | [_], _ => rfl, F4.kp⟩
  have c_fr4 : Cl P w K mg base CX0 5 (ga K "frozen") ["thing"] (spFrL K 4) := ⟨d4, (ok_frozenS (n := 3) F4 T1 c_fr3).mono (Nat.le_refl _), FunD.bindsN (ps := ["thing"]) F4 fun _ _ _ _ _ _ us hl => match us, hl with | [_], _ => rfl, F4.kp⟩
  have c_fr5 : Cl P w K mg base CX0 6 (ga K "frozen") ["thing"] (spFrL K 5) := ⟨d4, (ok_frozenS (n := 4) F4 T1 c_fr4).mono (Nat.le_refl _), FunD.bindsN (ps := ["thing"]) F4 fun _ _ _ _ _ _ us hl => match us, hl with | [_], _ => rfl, F4.kp⟩
  have c_fr6 : Cl P w K mg base CX0 7 (ga K "frozen") ["thing"] (spFrL K 6) := ⟨d4, (ok_frozenS (n := 5) F4 T1 c_fr5).mono (Nat.le_refl _), FunD.bindsN (ps := ["thing"]) F4 fun _ _ _ _ _ _ us hl => match us, hl with | [_], _ => rfl, F4.kp⟩
  have c_fr7 : Cl P w K mg base CX0 8 (ga K "frozen") ["thing"] (spFrL K 7) := ⟨d4, (ok_frozenS (n := 6) F4 T1 c_fr6).mono (Nat.le_refl _), FunD.bindsN (ps := ["thing"]) F4 fun _ _ _ _ _ _ us hl => match us, hl with | [_], _ => rfl, F4.kp⟩
  have c_fr8 : Cl P w K mg base CX0 9 (ga K "frozen") ["thing"] (spFrL K 8) := ⟨d4, (ok_frozenS (n := 7) F4 T1 c_fr7).mono (Nat.le_refl _), FunD.bindsN (ps := ["thing"]) F4 fun _ _ _ _ _ _ us hl => match us, hl with | [_], _ => rfl, F4.kp⟩
  have c_fr9 : Cl P w K mg base CX0 10 (ga K "frozen") ["thing"] (spFrL K 9) := ⟨d4, (ok_frozenS (n := 8) F4 T1 c_fr8).mono (Nat.le_refl _), FunD.bindsN (ps := ["thing"]) F4 fun _ _ _ _ _ _ us hl => match us, hl with | [_], _ => rfl, F4.kp⟩
  have c_fr10 : Cl P w K mg base CX0 11 (ga K "frozen") ["thing"] (spFrL K 10) := ⟨d4, (ok_frozenS (n := 9) F4 T1 c_fr9).mono (Nat.le_refl _), FunD.bindsN (ps := ["thing"]) F4 fun _ _ _ _ _ _ us hl => match us, hl with | [_], _ => rfl, F4.kp⟩
  have c_kinds : Cl P w K mg base CX0 1 (ga K "kinds_of") ["statement"] (spKd K) := ⟨d6, (ok_kinds_of F6 T1).mono (Nat.le_refl _), FunD.bindsN (ps := ["statement"]) F6 fun _ _ _ _ _ _ us hl => match us, hl with | [_], _ => rfl, F6.kp⟩
  have c_parts : Cl P w K mg base CX0 2 (ga K "parts_of") ["statement"] (spPt K) := ⟨d7, (ok_parts_of F7 T1 c_kinds).mono (Nat.le_refl _), FunD.bindsN (ps := ["statement"]) F7 fun _ _ _ _ _ _ us hl => match us, hl with | [_], _ => rfl, F7.kp⟩
  have c_nu0 : Cl P w K mg base CX0 2 (ga K "numbered") ["body", "around"] (spNum K 0) := ⟨d8, (ok_numbered0 F8 T1).mono (by decide), FunD.bindsN (ps := ["body", "around"]) F8 fun _ _ _ _ _ _ us hl => match us, hl with | [_, _], _ => rfl, F8.kp⟩
  have c_nu1 : Cl P w K mg base CX0 3 (ga K "numbered") ["body", "around"] (spNum K 1) := ⟨d8, (ok_numberedS (n := 0) (by decide) F8 T1 c_parts c_nu0).mono (Nat.le_refl _), FunD.bindsN (ps := ["body", "around"]) F8 fun _ _ _ _ _ _ us hl => match us, hl with | [_, _], _ => rfl, F8.kp⟩
  have c_nu2 : Cl P w K mg base CX0 4 (ga K "numbered") ["body", "around"] (spNum K 2) := ⟨d8, (ok_numberedS (n := 1) (by decide) F8 T1 c_parts c_nu1).mono (Nat.le_refl _), FunD.bindsN (ps := ["body", "around"]) F8 fun _ _ _ _ _ _ us hl => match us, hl with | [_, _], _ => rfl, F8.kp⟩
  have c_nu3 : Cl P w K mg base CX0 5 (ga K "numbered") ["body", "around"] (spNum K 3) := ⟨d8, (ok_numberedS (n := 2) (by decide) F8 T1 c_parts c_nu2).mono (Nat.le_refl _), FunD.bindsN (ps := ["body", "around"]) F8 fun _ _ _ _ _ _ us hl => match us, hl with | [_, _], _ => rfl, F8.kp⟩
  have c_nu4 : Cl P w K mg base CX0 6 (ga K "numbered") ["body", "around"] (spNum K 4) := ⟨d8, (ok_numberedS (n := 3) (by decide) F8 T1 c_parts c_nu3).mono (Nat.le_refl _), FunD.bindsN (ps := ["body", "around"]) F8 fun _ _ _ _ _ _ us hl => match us, hl with | [_, _], _ => rfl, F8.kp⟩
  have c_nuX : Cl P w K mg base CX0 10 (ga K "numbered") ["body", "around"] (spNum K 4) := ⟨d8, (ok_numberedS (n := 3) (by decide) F8 T1 c_parts c_nu3).mono (by decide), FunD.bindsN (ps := ["body", "around"]) F8 fun _ _ _ _ _ _ us hl => match us, hl with | [_, _], _ => rfl, F8.kp⟩
  have c_fi : Cl P w K mg base CX0 12 (ma K (ga K "Function") "__init__") ["self", "name", "body"] (spFI K) := ⟨d0, (ok_Function_init F0 T1 c_fr10 c_nuX).mono (Nat.le_refl _), FunD.bindsN (ps := ["self", "name", "body"]) F0 fun _ _ _ _ _ _ us hl => match us, hl with | [_, _, _], _ => rfl, F0.kp⟩
  have c_fe : Cl P w K mg base CX0 1 (ma K (ga K "Function") "__eq__") ["self", "other"] (spFEq K) := ⟨d1, (ok_Function___eq__ F1 T2).mono (Nat.le_refl _), FunD.bindsN (ps := ["self", "other"]) F1 fun _ _ _ _ _ _ us hl => match us, hl with | [_, _], _ => rfl, F1.kp⟩
  have c_ce : Cl P w K mg base CX0 3 (ma K (ga K "Code") "__eq__") ["self", "other"] (spCEq K) := ⟨d3, (ok_Code___eq__ F3 T2 c_fe).mono (Nat.le_refl _), FunD.bindsN (ps := ["self", "other"]) F3 fun _ _ _ _ _ _ us hl => match us, hl with | [_, _], _ => rfl, F3.kp⟩
  have c_fits : Cl P w K mg base CX0 1 (ga K "fits") ["entry", "kind", "names"] (spFits K) := ⟨d14, (ok_fits F14 T1).mono (Nat.le_refl _), FunD.bindsN (ps := ["entry", "kind", "names"]) F14 fun _ _ _ _ _ _ us hl => match us, hl with | [_, _, _], _ => rfl, F14.kp⟩
  have c_well : Cl P w K mg base CX0 2 (ga K "well_formed") ["statement", "names"] (spWell K) := ⟨d13, (ok_well_formed F13 T1 c_kinds c_fits).mono (Nat.le_refl _), FunD.bindsN (ps := ["statement", "names"]) F13 fun _ _ _ _ _ _ us hl => match us, hl with | [_, _], _ => rfl, F13.kp⟩
  have c_mis : Cl P w K mg base CX0 1 (ga K "misplaced") ["word", "around"] (spMis K) := ⟨d15, (ok_misplaced F15 T1).mono (Nat.le_refl _), FunD.bindsN (ps := ["word", "around"]) F15 fun _ _ _ _ _ _ us hl => match us, hl with | [_, _], _ => rfl, F15.kp⟩
  have c_byk : Cl P w K mg base CX0 1 (ga K "names_by_kind") ["code"] (spByKind K) := ⟨d11, (ok_names_by_kind F11 T1).mono (Nat.le_refl _), FunD.bindsN (ps := ["code"]) F11 fun _ _ _ _ _ _ us hl => match us, hl with | [_], _ => rfl, F11.kp⟩
  have c_bnd : Cl P w K mg base CX0 1 (ga K "check_bounds") ["code"] (spOk K) := ⟨d9, (ok_check_bounds F9 T1).mono (Nat.le_refl _), FunD.bindsN (ps := ["code"]) F9 fun _ _ _ _ _ _ us hl => match us, hl with | [_], _ => rfl, F9.kp⟩
  have c_chk : Cl P w K mg base CX0 2 (ga K "check_names") ["code"] (spOk K) := ⟨d10, (ok_check_names F10 T1 c_isn).mono (Nat.le_refl _), FunD.bindsN (ps := ["code"]) F10 fun _ _ _ _ _ _ us hl => match us, hl with | [_], _ => rfl, F10.kp⟩
  have c_body : Cl P w K mg base CX0 7 (ga K "check_body") ["function", "names"] (spBody K) := ⟨d12, (ok_check_body F12 T1 c_nu4 c_well c_mis c_parts).mono (Nat.le_refl _), FunD.bindsN (ps := ["function", "names"]) F12 fun _ _ _ _ _ _ us hl => match us, hl with | [_, _], _ => rfl, F12.kp⟩
  have c_ci : Cl P w K mg base CX0 8 (ma K (ga K "Code") "__init__") ["self", "cells", "rows", "functions", "start"] (spCI K) := ⟨d2, (ok_Code_init F2 T1 c_bnd c_chk c_byk c_body).mono (Nat.le_refl _), FunD.bindsN (ps := ["self", "cells", "rows", "functions", "start"]) F2 fun _ _ _ _ _ _ us hl => match us, hl with | [_, _, _, _, _], _ => rfl, F2.kp⟩
  have c_deeds : Cl P w K mg base CX0 1 (ga K "_law_deeds") ["_law_plan_here"] (spDeeds K) := ⟨d34, (ok_law_deeds F34 T1).mono (Nat.le_refl _), FunD.bindsN (ps := ["_law_plan_here"]) F34 fun _ _ _ _ _ _ us hl => match us, hl with | [_], _ => rfl, F34.kp⟩
  have c_ct0 : Cl P w K mg base CX0 1 (ga K "_law_count") ["_law_body"] (spCnt K 0) := ⟨d33, (ok_law_count0 F33 T1).mono (Nat.le_refl _), FunD.bindsN (ps := ["_law_body"]) F33 fun _ _ _ _ _ _ us hl => match us, hl with | [_], _ => rfl, F33.kp⟩
  have c_ct1 : Cl P w K mg base CX0 2 (ga K "_law_count") ["_law_body"] (spCnt K 1) := ⟨d33, (ok_law_countS (n := 0) F33 T1 c_ct0).mono (Nat.le_refl _), FunD.bindsN (ps := ["_law_body"]) F33 fun _ _ _ _ _ _ us hl => match us, hl with | [_], _ => rfl, F33.kp⟩
  have c_ct2 : Cl P w K mg base CX0 3 (ga K "_law_count") ["_law_body"] (spCnt K 2) := ⟨d33, (ok_law_countS (n := 1) F33 T1 c_ct1).mono (Nat.le_refl _), FunD.bindsN (ps := ["_law_body"]) F33 fun _ _ _ _ _ _ us hl => match us, hl with | [_], _ => rfl, F33.kp⟩
  have c_ct3 : Cl P w K mg base CX0 4 (ga K "_law_count") ["_law_body"] (spCnt K 3) := ⟨d33, (ok_law_countS (n := 2) F33 T1 c_ct2).mono (Nat.le_refl _), FunD.bindsN (ps := ["_law_body"]) F33 fun _ _ _ _ _ _ us hl => match us, hl with | [_], _ => rfl, F33.kp⟩
  have c_ct4 : Cl P w K mg base CX0 5 (ga K "_law_count") ["_law_body"] (spCnt K 4) := ⟨d33, (ok_law_countS (n := 3) F33 T1 c_ct3).mono (Nat.le_refl _), FunD.bindsN (ps := ["_law_body"]) F33 fun _ _ _ _ _ _ us hl => match us, hl with | [_], _ => rfl, F33.kp⟩
  have c_sim : Cl P w K mg base CX0 3 (ga K "_law_simple") ["_law_pen", "_law_plan_here", "_law_looping"] (spSim K) := ⟨d35, (ok_law_simple F35 T1 c_deeds c_draw c_pick).mono (Nat.le_refl _), FunD.bindsN (ps := ["_law_pen", "_law_plan_here", "_law_looping"]) F35 fun _ _ _ _ _ _ us hl => match us, hl with | [_, _, _], _ => rfl, F35.kp⟩
  have c_q1 : Cl P w K mg base CX0 3 (ga K "_law_count") ["_law_body"] (spCnt K 1) := ⟨d33, (ok_law_countS (n := 0) F33 T1 c_ct0).mono (by decide), FunD.bindsN (ps := ["_law_body"]) F33 fun _ _ _ _ _ _ us hl => match us, hl with | [_], _ => rfl, F33.kp⟩
  have c_p1 : Cl P w K mg base CX0 4 (ga K "_law_part") ["_law_pen", "_law_plan_here", "_law_room", "_law_looping", "_law_deep"] (spPart K 1) := ⟨d37, (ok_law_part1 (m := 0) (k := 3) (by decide) rfl F37 T1 c_draw c_q1 c_sim).mono (Nat.le_refl _), FunD.bindsN (ps := ["_law_pen", "_law_plan_here", "_law_room", "_law_looping", "_law_deep"]) F37 fun _ _ _ _ _ _ us hl => match us, hl with | [_, _, _, _, _], _ => rfl, F37.kp⟩
  have c_b1c : Cl P w K mg base CX0 4 (ga K "_law_count") ["_law_body"] (spCnt K 1) := ⟨d33, (ok_law_countS (n := 0) F33 T1 c_ct0).mono (by decide), FunD.bindsN (ps := ["_law_body"]) F33 fun _ _ _ _ _ _ us hl => match us, hl with | [_], _ => rfl, F33.kp⟩
  have c_bl1 : Cl P w K mg base CX0 5 (ga K "_law_block") ["_law_pen", "_law_plan_here", "_law_left", "_law_looping", "_law_deep"] (spBlk K 1) := ⟨d36, (ok_law_block (n := 1) (k := 4) (by decide) F36 T1 c_draw c_pick c_deeds c_b1c c_p1).mono (Nat.le_refl _), FunD.bindsN (ps := ["_law_pen", "_law_plan_here", "_law_left", "_law_looping", "_law_deep"]) F36 fun _ _ _ _ _ _ us hl => match us, hl with | [_, _, _, _, _], _ => rfl, F36.kp⟩
  have c_q2 : Cl P w K mg base CX0 5 (ga K "_law_count") ["_law_body"] (spCnt K 2) := ⟨d33, (ok_law_countS (n := 1) F33 T1 c_ct1).mono (by decide), FunD.bindsN (ps := ["_law_body"]) F33 fun _ _ _ _ _ _ us hl => match us, hl with | [_], _ => rfl, F33.kp⟩
  have c_p2 : Cl P w K mg base CX0 6 (ga K "_law_part") ["_law_pen", "_law_plan_here", "_law_room", "_law_looping", "_law_deep"] (spPart K 2) := ⟨d37, (ok_law_part2 (m := 1) (k := 5) (by decide) (by decide) F37 T1 c_draw c_q2 c_sim c_bl1).mono (Nat.le_refl _), FunD.bindsN (ps := ["_law_pen", "_law_plan_here", "_law_room", "_law_looping", "_law_deep"]) F37 fun _ _ _ _ _ _ us hl => match us, hl with | [_, _, _, _, _], _ => rfl, F37.kp⟩
  have c_b2c : Cl P w K mg base CX0 6 (ga K "_law_count") ["_law_body"] (spCnt K 2) := ⟨d33, (ok_law_countS (n := 1) F33 T1 c_ct1).mono (by decide), FunD.bindsN (ps := ["_law_body"]) F33 fun _ _ _ _ _ _ us hl => match us, hl with | [_], _ => rfl, F33.kp⟩
  have c_bl2 : Cl P w K mg base CX0 7 (ga K "_law_block") ["_law_pen", "_law_plan_here", "_law_left", "_law_looping", "_law_deep"] (spBlk K 2) := ⟨d36, (ok_law_block (n := 2) (k := 6) (by decide) F36 T1 c_draw c_pick c_deeds c_b2c c_p2).mono (Nat.le_refl _), FunD.bindsN (ps := ["_law_pen", "_law_plan_here", "_law_left", "_law_looping", "_law_deep"]) F36 fun _ _ _ _ _ _ us hl => match us, hl with | [_, _, _, _, _], _ => rfl, F36.kp⟩
  have c_q3 : Cl P w K mg base CX0 7 (ga K "_law_count") ["_law_body"] (spCnt K 3) := ⟨d33, (ok_law_countS (n := 2) F33 T1 c_ct2).mono (by decide), FunD.bindsN (ps := ["_law_body"]) F33 fun _ _ _ _ _ _ us hl => match us, hl with | [_], _ => rfl, F33.kp⟩
  have c_p3 : Cl P w K mg base CX0 8 (ga K "_law_part") ["_law_pen", "_law_plan_here", "_law_room", "_law_looping", "_law_deep"] (spPart K 3) := ⟨d37, (ok_law_part2 (m := 2) (k := 7) (by decide) (by decide) F37 T1 c_draw c_q3 c_sim c_bl2).mono (Nat.le_refl _), FunD.bindsN (ps := ["_law_pen", "_law_plan_here", "_law_room", "_law_looping", "_law_deep"]) F37 fun _ _ _ _ _ _ us hl => match us, hl with | [_, _, _, _, _], _ => rfl, F37.kp⟩
  have c_b3c : Cl P w K mg base CX0 8 (ga K "_law_count") ["_law_body"] (spCnt K 3) := ⟨d33, (ok_law_countS (n := 2) F33 T1 c_ct2).mono (by decide), FunD.bindsN (ps := ["_law_body"]) F33 fun _ _ _ _ _ _ us hl => match us, hl with | [_], _ => rfl, F33.kp⟩
  have c_bl3 : Cl P w K mg base CX0 9 (ga K "_law_block") ["_law_pen", "_law_plan_here", "_law_left", "_law_looping", "_law_deep"] (spBlk K 3) := ⟨d36, (ok_law_block (n := 3) (k := 8) (by decide) F36 T1 c_draw c_pick c_deeds c_b3c c_p3).mono (Nat.le_refl _), FunD.bindsN (ps := ["_law_pen", "_law_plan_here", "_law_left", "_law_looping", "_law_deep"]) F36 fun _ _ _ _ _ _ us hl => match us, hl with | [_, _, _, _, _], _ => rfl, F36.kp⟩
  have c_q4 : Cl P w K mg base CX0 9 (ga K "_law_count") ["_law_body"] (spCnt K 4) := ⟨d33, (ok_law_countS (n := 3) F33 T1 c_ct3).mono (by decide), FunD.bindsN (ps := ["_law_body"]) F33 fun _ _ _ _ _ _ us hl => match us, hl with | [_], _ => rfl, F33.kp⟩
  have c_p4 : Cl P w K mg base CX0 11 (ga K "_law_part") ["_law_pen", "_law_plan_here", "_law_room", "_law_looping", "_law_deep"] (spPart K 4) := ⟨d37, (ok_law_part2 (m := 3) (k := 9) (by decide) (by decide) F37 T1 c_draw c_q4 c_sim c_bl3).mono (by decide), FunD.bindsN (ps := ["_law_pen", "_law_plan_here", "_law_room", "_law_looping", "_law_deep"]) F37 fun _ _ _ _ _ _ us hl => match us, hl with | [_, _, _, _, _], _ => rfl, F37.kp⟩
  have c_plan : Cl P w K mg base CX0 12 (ga K "_law_plan") ["_law_pen", "_law_cells", "_law_rows", "_law_many", "_law_room"] (spPlan K) := ⟨d38, (ok_law_plan F38 T1 c_names c_pick c_p4).mono (Nat.le_refl _), FunD.bindsN (ps := ["_law_pen", "_law_cells", "_law_rows", "_law_many", "_law_room"]) F38 fun _ _ _ _ _ _ us hl => match us, hl with | [_, _, _, _, _], _ => rfl, F38.kp⟩
  have c_drawn : Cl P w K mg base CX0 13 (ga K "_law_drawn") ["_law_pen", "_law_room"] (spDrawn K) := ⟨d39, (ok_law_drawn F39 T1 c_draw c_plan).mono (Nat.le_refl _), FunD.bindsN (ps := ["_law_pen", "_law_room"]) F39 fun _ _ _ _ _ _ us hl => match us, hl with | [_, _], _ => rfl, F39.kp⟩
  have c_code : Cl P w K mg base CX0 14 (ga K "_law_code") ["_law_plan_here"] (spCode K) := ⟨d40, (ok_law_code F40 T1 c_fi c_ci).mono (Nat.le_refl _), FunD.bindsN (ps := ["_law_plan_here"]) F40 fun _ _ _ _ _ _ us hl => match us, hl with | [_], _ => rfl, F40.kp⟩
  have c_head : Cl P w K mg base CX0 1 (ga K "heading") ["word", "names"] (spHead K) := ⟨d17, (ok_heading F17 T1).mono (Nat.le_refl _), FunD.bindsN (ps := ["word", "names"]) F17 fun _ _ _ _ _ _ us hl => match us, hl with | [_, _], _ => rfl, F17.kp⟩
  have c_pl0 : Cl P w K mg base CX0 2 (ga K "part_lines") ["part", "margin"] (spPL K 0) := ⟨d18, (ok_part_lines0 F18 T1).mono (by decide), FunD.bindsN (ps := ["part", "margin"]) F18 fun _ _ _ _ _ _ us hl => match us, hl with | [_, _], _ => rfl, F18.kp⟩
  have c_sl0 : Cl P w K mg base CX0 3 (ga K "statement_lines") ["statement", "margin"] (spSL K 0) := ⟨d19, (ok_statement_lines (n := 0) (k := 2) (by decide) F19 T1 c_parts c_pl0).mono (Nat.le_refl _), FunD.bindsN (ps := ["statement", "margin"]) F19 fun _ _ _ _ _ _ us hl => match us, hl with | [_, _], _ => rfl, F19.kp⟩
  have c_pl1 : Cl P w K mg base CX0 4 (ga K "part_lines") ["part", "margin"] (spPL K 1) := ⟨d18, (ok_part_linesS (n := 0) (k := 3) F18 T1 c_sl0).mono (Nat.le_refl _), FunD.bindsN (ps := ["part", "margin"]) F18 fun _ _ _ _ _ _ us hl => match us, hl with | [_, _], _ => rfl, F18.kp⟩
  have c_sl1 : Cl P w K mg base CX0 5 (ga K "statement_lines") ["statement", "margin"] (spSL K 1) := ⟨d19, (ok_statement_lines (n := 1) (k := 4) (by decide) F19 T1 c_parts c_pl1).mono (Nat.le_refl _), FunD.bindsN (ps := ["statement", "margin"]) F19 fun _ _ _ _ _ _ us hl => match us, hl with | [_, _], _ => rfl, F19.kp⟩
  have c_pl2 : Cl P w K mg base CX0 6 (ga K "part_lines") ["part", "margin"] (spPL K 2) := ⟨d18, (ok_part_linesS (n := 1) (k := 5) F18 T1 c_sl1).mono (Nat.le_refl _), FunD.bindsN (ps := ["part", "margin"]) F18 fun _ _ _ _ _ _ us hl => match us, hl with | [_, _], _ => rfl, F18.kp⟩
  have c_sl2 : Cl P w K mg base CX0 7 (ga K "statement_lines") ["statement", "margin"] (spSL K 2) := ⟨d19, (ok_statement_lines (n := 2) (k := 6) (by decide) F19 T1 c_parts c_pl2).mono (Nat.le_refl _), FunD.bindsN (ps := ["statement", "margin"]) F19 fun _ _ _ _ _ _ us hl => match us, hl with | [_, _], _ => rfl, F19.kp⟩
  have c_pl3 : Cl P w K mg base CX0 8 (ga K "part_lines") ["part", "margin"] (spPL K 3) := ⟨d18, (ok_part_linesS (n := 2) (k := 7) F18 T1 c_sl2).mono (Nat.le_refl _), FunD.bindsN (ps := ["part", "margin"]) F18 fun _ _ _ _ _ _ us hl => match us, hl with | [_, _], _ => rfl, F18.kp⟩
  have c_sl3 : Cl P w K mg base CX0 9 (ga K "statement_lines") ["statement", "margin"] (spSL K 3) := ⟨d19, (ok_statement_lines (n := 3) (k := 8) (by decide) F19 T1 c_parts c_pl3).mono (Nat.le_refl _), FunD.bindsN (ps := ["statement", "margin"]) F19 fun _ _ _ _ _ _ us hl => match us, hl with | [_, _], _ => rfl, F19.kp⟩
  have c_pl4 : Cl P w K mg base CX0 10 (ga K "part_lines") ["part", "margin"] (spPL K 4) := ⟨d18, (ok_part_linesS (n := 3) (k := 9) F18 T1 c_sl3).mono (Nat.le_refl _), FunD.bindsN (ps := ["part", "margin"]) F18 fun _ _ _ _ _ _ us hl => match us, hl with | [_, _], _ => rfl, F18.kp⟩
  have c_wr : Cl P w K mg base CX0 11 (ga K "written") ["code"] (spWr K) := ⟨d16, (ok_written (k := 10) (by decide) F16 T1 c_head c_pl4).mono (Nat.le_refl _), FunD.bindsN (ps := ["code"]) F16 fun _ _ _ _ _ _ us hl => match us, hl with | [_], _ => rfl, F16.kp⟩
  have c_ll0 : Cl P w K mg base CX0 1 (ga K "_law_lines") ["_law_body", "_law_wide"] (spLL K 0) := ⟨d41, (ok_law_lines0 F41 T1).mono (Nat.le_refl _), FunD.bindsN (ps := ["_law_body", "_law_wide"]) F41 fun _ _ _ _ _ _ us hl => match us, hl with | [_, _], _ => rfl, F41.kp⟩
  have c_ll1 : Cl P w K mg base CX0 2 (ga K "_law_lines") ["_law_body", "_law_wide"] (spLL K 1) := ⟨d41, (ok_law_linesS (n := 0) F41 T1 c_ll0).mono (Nat.le_refl _), FunD.bindsN (ps := ["_law_body", "_law_wide"]) F41 fun _ _ _ _ _ _ us hl => match us, hl with | [_, _], _ => rfl, F41.kp⟩
  have c_ll2 : Cl P w K mg base CX0 3 (ga K "_law_lines") ["_law_body", "_law_wide"] (spLL K 2) := ⟨d41, (ok_law_linesS (n := 1) F41 T1 c_ll1).mono (Nat.le_refl _), FunD.bindsN (ps := ["_law_body", "_law_wide"]) F41 fun _ _ _ _ _ _ us hl => match us, hl with | [_, _], _ => rfl, F41.kp⟩
  have c_ll3 : Cl P w K mg base CX0 4 (ga K "_law_lines") ["_law_body", "_law_wide"] (spLL K 3) := ⟨d41, (ok_law_linesS (n := 2) F41 T1 c_ll2).mono (Nat.le_refl _), FunD.bindsN (ps := ["_law_body", "_law_wide"]) F41 fun _ _ _ _ _ _ us hl => match us, hl with | [_, _], _ => rfl, F41.kp⟩
  have c_ll4 : Cl P w K mg base CX0 5 (ga K "_law_lines") ["_law_body", "_law_wide"] (spLL K 4) := ⟨d41, (ok_law_linesS (n := 3) F41 T1 c_ll3).mono (Nat.le_refl _), FunD.bindsN (ps := ["_law_body", "_law_wide"]) F41 fun _ _ _ _ _ _ us hl => match us, hl with | [_, _], _ => rfl, F41.kp⟩
  have c_tx : Cl P w K mg base CX0 6 (ga K "_law_text") ["_law_plan_here"] (spTx K) := ⟨d42, (ok_law_text (k := 5) F42 T1 c_ll4).mono (Nat.le_refl _), FunD.bindsN (ps := ["_law_plan_here"]) F42 fun _ _ _ _ _ _ us hl => match us, hl with | [_], _ => rfl, F42.kp⟩
  have c_line : Cl P w K mg base CX0 1 (ga K "line_at") ["lines", "at"] (spLine K) := ⟨d21, (ok_line_at F21 T1).mono (Nat.le_refl _), FunD.bindsN (ps := ["lines", "at"]) F21 fun _ _ _ _ _ _ us hl => match us, hl with | [_, _], _ => rfl, F21.kp⟩
  have c_wof : Cl P w K mg base CX0 1 (ga K "word_of") ["first"] spWordOf := ⟨d27, (ok_word_of F27 T1).mono (Nat.le_refl _), FunD.bindsN (ps := ["first"]) F27 fun _ _ _ _ _ _ us hl => match us, hl with | [_], _ => rfl, F27.kp⟩
  have c_ras : Cl P w K mg base CX0 2 (ga K "reads_as") ["entry", "kind"] spReads := ⟨d28, (ok_reads_as F28 T3 c_isn).mono (Nat.le_refl _), FunD.bindsN (ps := ["entry", "kind"]) F28 fun _ _ _ _ _ _ us hl => match us, hl with | [_, _], _ => rfl, F28.kp⟩
  have c_rnm : Cl P w K mg base CX0 2 (ga K "read_name") ["lines", "at"] (spRName K) := ⟨d23, (ok_read_name F23 T1 c_isn).mono (Nat.le_refl _), FunD.bindsN (ps := ["lines", "at"]) F23 fun _ _ _ _ _ _ us hl => match us, hl with | [_, _], _ => rfl, F23.kp⟩
  have c_rhg : Cl P w K mg base CX0 2 (ga K "read_heading") ["lines", "at", "word"] (spRHead K) := ⟨d22, (ok_read_heading F22 T1 c_line c_isn).mono (Nat.le_refl _), FunD.bindsN (ps := ["lines", "at", "word"]) F22 fun _ _ _ _ _ _ us hl => match us, hl with | [_, _, _], _ => rfl, F22.kp⟩
  have c_rhd : Cl P w K mg base CX0 3 (ga K "read_head") ["line", "margin"] (spHd K) := ⟨d26, (ok_read_head F26 T3 c_wof c_ras).mono (Nat.le_refl _), FunD.bindsN (ps := ["line", "margin"]) F26 fun _ _ _ _ _ _ us hl => match us, hl with | [_, _], _ => rfl, F26.kp⟩
  have c_rp0 : Cl P w K mg base CX0 4 (ga K "read_part") ["lines", "at", "margin"] (spPart2 K 0) := ⟨d24, (ok_read_part0 F24 T3 c_line c_rhd).mono (Nat.le_refl _), FunD.bindsN (ps := ["lines", "at", "margin"]) F24 fun _ _ _ _ _ _ us hl => match us, hl with | [_, _, _], _ => rfl, F24.kp⟩
  have c_rq0 : Cl P w K mg base CX0 5 (ga K "read_parts") ["lines", "at", "margin", "word"] (spParts2 K 0) := ⟨d25, (ok_read_parts (n := 0) (k := 4) (by decide) F25 T3 c_line c_rp0).mono (Nat.le_refl _), FunD.bindsN (ps := ["lines", "at", "margin", "word"]) F25 fun _ _ _ _ _ _ us hl => match us, hl with | [_, _, _, _], _ => rfl, F25.kp⟩
  have c_rp1 : Cl P w K mg base CX0 6 (ga K "read_part") ["lines", "at", "margin"] (spPart2 K 1) := ⟨d24, (ok_read_partS (n := 0) (k := 5) (by decide) F24 T3 c_line c_rhd c_rq0).mono (Nat.le_refl _), FunD.bindsN (ps := ["lines", "at", "margin"]) F24 fun _ _ _ _ _ _ us hl => match us, hl with | [_, _, _], _ => rfl, F24.kp⟩
  have c_rq1 : Cl P w K mg base CX0 7 (ga K "read_parts") ["lines", "at", "margin", "word"] (spParts2 K 1) := ⟨d25, (ok_read_parts (n := 1) (k := 6) (by decide) F25 T3 c_line c_rp1).mono (Nat.le_refl _), FunD.bindsN (ps := ["lines", "at", "margin", "word"]) F25 fun _ _ _ _ _ _ us hl => match us, hl with | [_, _, _, _], _ => rfl, F25.kp⟩
  have c_rp2 : Cl P w K mg base CX0 8 (ga K "read_part") ["lines", "at", "margin"] (spPart2 K 2) := ⟨d24, (ok_read_partS (n := 1) (k := 7) (by decide) F24 T3 c_line c_rhd c_rq1).mono (Nat.le_refl _), FunD.bindsN (ps := ["lines", "at", "margin"]) F24 fun _ _ _ _ _ _ us hl => match us, hl with | [_, _, _], _ => rfl, F24.kp⟩
  have c_rq2 : Cl P w K mg base CX0 9 (ga K "read_parts") ["lines", "at", "margin", "word"] (spParts2 K 2) := ⟨d25, (ok_read_parts (n := 2) (k := 8) (by decide) F25 T3 c_line c_rp2).mono (Nat.le_refl _), FunD.bindsN (ps := ["lines", "at", "margin", "word"]) F25 fun _ _ _ _ _ _ us hl => match us, hl with | [_, _, _, _], _ => rfl, F25.kp⟩
  have c_rp3 : Cl P w K mg base CX0 10 (ga K "read_part") ["lines", "at", "margin"] (spPart2 K 3) := ⟨d24, (ok_read_partS (n := 2) (k := 9) (by decide) F24 T3 c_line c_rhd c_rq2).mono (Nat.le_refl _), FunD.bindsN (ps := ["lines", "at", "margin"]) F24 fun _ _ _ _ _ _ us hl => match us, hl with | [_, _, _], _ => rfl, F24.kp⟩
  have c_rq3 : Cl P w K mg base CX0 11 (ga K "read_parts") ["lines", "at", "margin", "word"] (spParts2 K 3) := ⟨d25, (ok_read_parts (n := 3) (k := 10) (by decide) F25 T3 c_line c_rp3).mono (Nat.le_refl _), FunD.bindsN (ps := ["lines", "at", "margin", "word"]) F25 fun _ _ _ _ _ _ us hl => match us, hl with | [_, _, _, _], _ => rfl, F25.kp⟩
  have c_rp4 : Cl P w K mg base CX0 12 (ga K "read_part") ["lines", "at", "margin"] (spPart2 K 4) := ⟨d24, (ok_read_partS (n := 3) (k := 11) (by decide) F24 T3 c_line c_rhd c_rq3).mono (Nat.le_refl _), FunD.bindsN (ps := ["lines", "at", "margin"]) F24 fun _ _ _ _ _ _ us hl => match us, hl with | [_, _, _], _ => rfl, F24.kp⟩
  have c_rc : Cl P w K mg base CX0 15 (ga K "read_code") ["text"] (spRead K) := ⟨d20, (ok_read_code F20 T3 c_rhg c_rnm c_rp4 c_fi c_ci).mono (Nat.le_refl _), FunD.bindsN (ps := ["text"]) F20 fun _ _ _ _ _ _ us hl => match us, hl with | [_], _ => rfl, F20.kp⟩
  have c_kept : Cl P w K mg base CX0 6 (ga K "_law_kept") ["_law_code_here", "_law_plan_here"] (spKept K) := ⟨d43, (ok_law_kept F43 T2 c_ct4).mono (Nat.le_refl _), FunD.bindsN (ps := ["_law_code_here", "_law_plan_here"]) F43 fun _ _ _ _ _ _ us hl => match us, hl with | [_, _], _ => rfl, F43.kp⟩
  have c_oth : Cl P w K mg base CX0 6 (ga K "_law_other") ["_law_pen", "_law_plan_here"] (spOther K) := ⟨d44, (ok_law_other F44 T1 c_draw c_pick c_ct4).mono (Nat.le_refl _), FunD.bindsN (ps := ["_law_pen", "_law_plan_here"]) F44 fun _ _ _ _ _ _ us hl => match us, hl with | [_, _], _ => rfl, F44.kp⟩
  exact ok_law F45 T3 c_pick c_drawn c_tx c_rc c_kept c_wr c_oth c_code c_ce
end K05

open PySem PySem.W PySem.Calls PyProof.Rows
theorem PySem.Challenge.cw_tryback_k05_whole_texts_read_back_holds : PySem.Challenge.rw_tryback_k05_whole_texts_read_back.Holds := by
  w_on; o_law
  refine HandSHeadRun.head_any (r := OpenLaw.row PySem.Challenge.rw_tryback_k05_whole_texts_read_back) (q := view (OpenLaw.row PySem.Challenge.rw_tryback_k05_whole_texts_read_back).prog [66]) (H := K05.hk) (ob := K05.ob) (M := K05.steps) (loose := K05.loose) (d := HandSHeadRun.topDef (OpenLaw.row PySem.Challenge.rw_tryback_k05_whole_texts_read_back).prog 66) (kwd := []) K05.ob_eq
    (by kernel_rfl) (fun s => by kernel_rfl) K05.run (by kernel_rfl) (by kernel_rfl) (by kernel_rfl) (by rfl) (by first | assumption | decide +kernel) (by decide +kernel) ⟨rfl, rfl, rfl, rfl, rfl, by decide +kernel⟩ ?hw ?hc
  case hw => w_witness2
  case hc =>
    refine L2.walk_ofE (l := PySem.Challenge.rw_tryback_k05_whole_texts_read_back) (n := 63) (k := 21) (x := "_law_script") (CX := L2.CX0) rfl (by decide) (by kernel_rfl) ⟨rfl, by decide, by decide⟩ ?F (fun _ _ _ _ z => z)
    intro w mg fa h Y G hmg0
    obtain ⟨K, KX, c⟩ := Y
    have hmg : mg ("law" : PySem.Str) = some (.ref fa) := by
      have e : (HandSHeadRun.topDef (OpenLaw.row PySem.Challenge.rw_tryback_k05_whole_texts_read_back).prog 66).name = ("law" : PySem.Str) := by kernel_rfl
      rw [← e]
      exact hmg0
    obtain ⟨fd, hb, hF⟩ := K05.facts (P := (PySem.Challenge.rw_tryback_k05_whole_texts_read_back).prog) (w := w) KX G hmg c
    exact ⟨K, fd, K05.spLaw K, KX, hb, fun H a ns hl _ hS => ⟨a, ns, rfl, hS, hl, fun _ => rfl⟩, hF⟩

