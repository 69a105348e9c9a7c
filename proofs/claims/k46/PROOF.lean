import PyProof.Rows.All
import Wide.All
import OpenK.AllK
import Wide.FinOn
import KE.KIsAll
import KE.KTryMore
import HandS.ForMost
import HandS.ForExc
import HandS.ExcInit
import HandS.ExcIs
import HandS.ExcValue
import HandS.ExcField
import HandS.IsInst
import HandS.Evl
import HandS.Defaults
import HandS.Head0
import HandS.Head1
import HandS.Head2
import HandS.HeadEnd
import HandS.HeadHook1
import HandS.HeadHook2
import PySem.Challenge.RW_tryback_k46_errors_stand_apart
set_option Elab.async false
set_option linter.all false
set_option maxRecDepth 100000
set_option maxHeartbeats 4000000
/-! Own exceptions as values: made, their fields read, asked for their class. -/
namespace XV
open PySem PySem.Spec PyProof.Rows L2

/-! ### the class of such a value -/
theorem dataFound {K : PySem.W.Frag} {C : Addr} {od : Option Obj} {n : Str} {a g : Value} (hc : (PySem.W.clsIn K C).isSome = true) (ha : PySem.W.findIn K (.ref C) n = some (some a))
    (hg : PySem.W.specialIn K a "__get__" = some (some g)) (ht : PySem.W.takesIn K a = some true) : PySem.W.findObj K C od n = some (.bind g a) := by
  cases od with
  | none => exact PySem.W.findObj_dataN hc ha hg ht
  | some o => exact PySem.W.findObj_data hc ha hg ht

section
variable {prog : Program} {w : World} {A : Around} {E : Value → Shared → Prop} {sh : Shared} {K : PySem.W.Frag} {e D : Addr} {oe : Obj} {od : Option Obj}
theorem askCls {R : Option Value → Shared → Prop} (T : ExcC K D) (KI : K.In sh.heap) (J : PySem.W.InstAt sh.heap e oe D od) (r : R (some (.ref D)) { sh with toks := sh.toks + 1 }) :
    wpAny (model prog w) A (getAttr? (.ref e) "__class__") R E sh := by
  obtain ⟨t1, t2, t3, t4, t5, t6, t7, t8⟩ := T
  have some' : (PySem.W.clsIn K D).isSome = true := by
    obtain ⟨cd, z, _⟩ := PySem.W.any_some t4
    rw [z]
    rfl
  have fd := dataFound (od := od) some' t5 t6 t7
  obtain ⟨hh, gs, dr, tk, os⟩ := sh
  have ty := J.type (M := model prog w)
  have l1 := PySem.W.looks_findIn (M := model prog w) KI t1
  have l2 := PySem.W.looks_findIn (M := model prog w) KI t2
  have l3 := PySem.W.looks_find (M := model prog w) KI J fd
  have isB : PySem.W.Looks (model prog w) hh (isInstance (.ref e) (.type "BaseException")) true := ty.andThen (PySem.W.looks_subIn KI t3)
  have z0 : (false && onTheHeap (Value.builtin "BaseException.__getattribute__")) = false := rfl
  have z2 : (Value.builtin "BaseException.__getattribute__" == Value.builtin "object.__getattribute__") = false := by decide +kernel
  have z1 : (onTheHeap (Value.ref D) && Value.builtin "BaseException.__getattribute__" == Value.builtin "object.__getattribute__") = false := by rw [z2]; rfl
  unfold getAttr?
  unfold getAttrBy?
  unfold getAttrBy
  refine wpAny_bind (wpAny_mkText (wpAny_bind (wpAny_attempt (wpAny_holding (wpAny_bind (ty.at (wpAny_bind (l1.at ?_))))))))
  show wpAny _ _ (if (onTheHeap (Value.ref D) && Value.builtin "BaseException.__getattribute__" == Value.builtin "object.__getattribute__") = true then _ else _) _ _ _
  rw [z1, if_neg Bool.false_ne_true]
  unfold getAttrByItsOwn
  unfold hookBefore
  refine wpAny_bind ?_
  rw [if_pos (show onTheHeap (Value.ref D) = true from rfl)]
  refine l2.at ?_
  refine wpAny_bind (wpAny_attempt (wpAny_holding ?_))
  unfold callGetattribute
  rw [z0, if_neg Bool.false_ne_true]
  unfold boundAndCalled
  rw [PySem.F.excAttr_ValueError.ga.bind (.ref e)]
  refine wpAny_bind (wpAny_pure ?_)
  show wpAny _ _ (call (.builtin "BaseException.__getattribute__") [.ref e, .str "__class__" tk]) _ _ _
  refine wpAny_call (codeAny_call_builtin PySem.F.excAttr_ValueError.ga.plain PySem.F.entry_bexc_ga ?_)
  refine @PySem.W.check_slot (model prog w) _ _ ⟨hh, gs, dr, tk + 1, os⟩ "BaseException.__getattribute__" "BaseException" "__getattribute__" (.ref e) [.str "__class__" tk] [] _ (by decide +kernel) (by decide +kernel) isB (PySem.F.args_bexc_ga (.ref e) (.str "__class__" tk)) ?_
  unfold Builtin.«object.__getattribute__»
  refine wpAny_bind (wpAny_of_eq (a := ((Value.ref e : Value), [Value.str "__class__" tk])) (by first | rfl | (simp only [Builtin.slotArgs]; rfl)) ?_)
  refine wpAny_bind (wpAny_pure (wpAny_bind (ty.at (wpAny_bind (l3.at ?_)))))
  show wpAny _ _ (holding [Value.builtin "object.__class__"] (call (.builtin "getset_descriptor.__get__") [.builtin "object.__class__", .ref e, .ref D]) >>= ret) _ _ _
  refine wpAny_bind (wpAny_holding (wpAny_call (PySem.W.class_get (s := ⟨hh, gs, dr, tk + 1, os⟩) (ox := oe) (od := od) KI J t8 ?_)))
  refine wpAny_pure ?_
  show wpAny _ _ (handedOut (.ref D)) _ _ _
  rw [PySem.W.handedOut_of (v := .ref D) rfl]
  first
    | exact wpAny_pure (wpAny_pure r)
    | exact wpAny_pure r
    | exact wpAny_pure (wpAny_bind (wpAny_pure (wpAny_pure r)))
theorem kitOf (T : ExcC K D) : PySem.W.KitX K (.ref e) (.ref D) (fun h => PySem.W.InstAt h e oe D od) := by
  obtain ⟨cd, hc, _⟩ := PySem.W.any_some T.hd
  unfold PySem.W.clsIn at hc
  split at hc
  · rename_i c' d' cd' sl' lk
    refine ⟨fun _ _ _ J => J.type, fun M h KI _ A' Q' E' s' k q => ?_, fun h tp dd its n sl KI htp => ?_, fun KI J r => askCls T KI J r⟩
    · unfold isType loadHead
      exact wpAny_bind (wpAny_loadPart (k _ _ (KI _ _ lk)) (wpAny_pure q))
    · refine Bool.eq_false_iff.mpr fun q => ?_
      have e1 : D = tp := Value.ref.inj (beq_iff_eq.mp q)
      rw [← e1] at htp
      have z := (KI _ _ lk).symm.trans htp
      cases z
  · cases hc
end

/-! ### what is tracked of an exception -/
/-- at a: an exception of the class at C that has the fields fs -/
def ExF (H : Hp) (a C : Addr) (fs : List (Str × V)) : Prop := ∃ d, H a = some (exo a C (some d)) ∧ H d = some (exd d fs)
/-- at a: an exception of the class at C -/
def ExAt (H : Hp) (a C : Addr) : Prop := (∃ fs, ExF H a C fs) ∨ H a = some (exo a C none)
theorem ExF.at {H : Hp} {a C : Addr} {fs : List (Str × V)} (h : ExF H a C fs) : ExAt H a C := .inl ⟨fs, h⟩
theorem ExF.mono {H H' : Hp} {a C : Addr} {fs : List (Str × V)} (k : Evl.Ex H H') (h : ExF H a C fs) : ExF H' a C fs := by
  obtain ⟨d, h1, h2⟩ := h
  exact ⟨d, k _ _ h1, k _ _ h2⟩
theorem ExAt.mono {H H' : Hp} {a C : Addr} (k : Evl.Ex H H') (h : ExAt H a C) : ExAt H' a C := by
  rcases h with ⟨fs, h⟩ | h
  · exact .inl ⟨fs, h.mono k⟩
  · exact .inr (k _ _ h)
theorem inst_of {X : Cx} {pins : List (Addr × Obj)} {σ : L2.St} {H : Hp} {s : Shared} {a C : Addr} (I : Inv X pins σ H s) (h : ExAt H a C) : ∃ oe od, PySem.W.InstAt s.heap a oe C od := by
  rcases h with ⟨fs, d, h1, h2⟩ | h
  · obtain ⟨t, ho⟩ := exo_at I.hok h1
    obtain ⟨mA, ⟨oD, es, ep, hD, _⟩, _⟩ := exd_at I.hok h2
    exact ⟨_, some oD, ho, rfl, rfl, hD⟩
  · obtain ⟨t, ho⟩ := exo_at I.hok h
    exact ⟨_, none, ho, rfl, rfl, True.intro⟩

/-! ### isinstance(e, c) -/
def rIsX (K : PySem.W.Frag) : List V → Hp → VK → Prop := fun xs H Q => ∃ (a C : Addr) (c : V) (cv : Value) (b : Bool), xs = [.ref a, c] ∧ ExAt H a C ∧ ExcC K C ∧ ClsV c cv ∧ PySem.W.kitOne K (.ref C) cv = some b ∧ Q (.bl b) H
theorem call_isX {X : Cx} : CallR X (.builtin "isinstance") (rIsX X.K) := by
  intro pins s σ H xs us Q I r h
  obtain ⟨a, C, c, cv, b, rfl, hx, T, kc, e, q⟩ := h
  obtain ⟨u1, u2, rfl, r1, r2⟩ := vals2 r
  cases (show u1 = Value.ref a from r1)
  have e2 := kc.eq r2
  subst e2
  obtain ⟨oe, od, J⟩ := inst_of I hx
  exact PySem.W.kia_one (kitOf T) I.kIn J e (fun z => nomatch z) fun tk => ⟨.bl b, H, I.tok tk, rfl, q⟩

/-! ### e.f -/
def tXv (K : PySem.W.Frag) (f : Str) (te : TE) : TE := fun σ H Q => te σ H fun x H1 => ∃ (a C d : Addr) (fs : List (Str × V)) (v : V), x = .ref a ∧ H1 a = some (exo a C (some d)) ∧ H1 d = some (exd d fs) ∧ XfC K C ∧ PySem.W.findIn K (.ref C) f = some none ∧ fs.lookup f = some v ∧ Q v H1
theorem pe_xv {X : Cx} {e : Expr} {te : TE} {pos : Pos} {f : Str} (he : PE X e te) (hb : attributeBase e f X.env (eval e X.env) = eval e X.env := by rfl) : PE X (.Attribute e f pos) (tXv X.K f te) := by
  refine ⟨fun pins s σ H Q I h => ?_⟩
  refine attr_of hb (thn (he.run pins s σ H _ I h) fun u s1 ⟨x, H1, I1, rx, a, C, d, fs, v, ex, ha, hd, T, hno, l, q⟩ => ?_)
  subst ex
  cases (show u = Value.ref a from rx)
  obtain ⟨t, ho⟩ := exo_at I1.hok ha
  obtain ⟨mA, hns, hr⟩ := exd_at I1.hok hd
  obtain ⟨oD, hoD, hl⟩ := lookIn_ns hns
  obtain ⟨u', hu, ru⟩ := RelO.some_of (v := v) (o := mA f) (by rw [← l]; exact hr f)
  have J : PySem.W.InstAt s1.heap a _ C (some oD) := ⟨ho, rfl, rfl, hoD⟩
  exact HandSPX.exc_get I1.kIn J T.ga T.gg T.exC (PySem.W.findObj_own T.hdC hno rfl (by rw [hl, hu])) (handed_of ru) ⟨v, H1, I1.tok _, ru, q⟩

/-! ### C(e, ..), C's own __init__ keeping sp; C() without one -/
def tMkV (C : Addr) (sp : Sp) (ta : TA) : TE := fun σ H Q => ta σ H fun vs H1 => vs.length ≤ 1000 ∧ ∀ a, H1 a = none → sp (.ref a :: vs) (upd H1 a (exo a C none)) (fun v H2 => v = .non ∧ Q (.ref a) H2) E0
section
variable {X : Cx} {e : Expr} {es : List Expr} {ta : TA} {p pos : Pos} {x : Str} {C fI : Addr} {k : Nat} {fd : FuncData} {ps : List Str} {sp : Sp}
theorem pe_mkv (T : OexC X.K C) (iC : PySem.W.findIn X.K (.ref C) "__init__" = some (some (.ref fI))) (tI : PySem.W.typeIn X.K (.ref fI) = some (.type "function")) (F1 : FnOk X.prog X.w X.K X.mg X.base CX0 k fI fd ps sp)
    (hr : Room (k + 1) X.A) (hb : Binds X.K fd ps []) (hg : Gl X x) (hm : X.mg x = some (.ref C)) (ha : PA X (e :: es) ta)
    (hdb : (x == ("__debug__" : Str)) = false := by decide) (he : starEach (e :: es) X.env = (false, eval e X.env) :: starEach es X.env := by rfl) (hpl : (backTo pos (starEach es X.env)).any (·.1) = false := by rfl) :
    PE X (.Call (.Name x p) (e :: es) [] pos) (tMkV C sp ta) := by
  refine ⟨fun pins s σ H Q I h => ?_⟩
  obtain ⟨nm, q, N, bs, bm, sn, sub, ab, col, dd, k0, k1, k2, k3, k5, lC, lB⟩ := T.cls
  refine wpAny_Call_Name_kw (ld_glob I hg hm ?_ hdb)
  refine PySem.W.callWith_K (h₀ := X.base) I.ok.mod.kin T.kC (thn (ha.run pos pins s σ H _ I h) fun us s1 ⟨vs, H1, I1, r1, hz, q1⟩ => ⟨I1.kIn, ?_⟩) he hpl
  show wpAny _ _ (call (.ref C) us) _ _ _
  obtain ⟨hh, g, dr, tk, os⟩ := s1
  have top : hh.objs.size ≤ hh.objs.size + 1 := Nat.le_succ _
  have w0 := q1 (hh.objs.size + 1) (I1.hok.fresh top)
  have old : ∀ b o, hh.get? b = some o → ((hh.push (PySem.W.kdv_tup us)).push (PySem.HandSPX.excO C hh.objs.size)).get? b = some o := fun b o z => Heap.get?_push_of_some _ (Heap.get?_push_of_some _ z)
  have made : ((hh.push (PySem.W.kdv_tup us)).push (PySem.HandSPX.excO C hh.objs.size)).get? (hh.objs.size + 1) = some (PySem.HandSPX.excO C hh.objs.size) := by heap_get
  have J : Inv X pins σ (upd H1 (hh.objs.size + 1) (exo (hh.objs.size + 1) C none)) ⟨(hh.push (PySem.W.kdv_tup us)).push (PySem.HandSPX.excO C hh.objs.size), g, dr, tk, os⟩ :=
    I1.laid (t' := tk) old top (exo_ok made)
  have rv : Vals (V.ref (hh.objs.size + 1) :: vs) (Value.ref (hh.objs.size + 1) :: us) := .cons rfl r1
  have hl : (Value.ref (hh.objs.size + 1) :: us ++ []).length = ps.length := by
    have z := rv.length
    rw [F1.len _ _ _ _ w0] at z
    rw [List.append_nil]
    exact z.symm
  have hus : us.length ≤ sizeLine := by
    rw [← Paired.length r1, sizeLine_eq]
    omega
  have bd := hb ⟨(hh.push (PySem.W.kdv_tup us)).push (PySem.HandSPX.excO C hh.objs.size), g, dr, tk, os⟩ (Value.ref (hh.objs.size + 1) :: us) J.kIn hl
  rw [List.append_nil] at bd
  have F1' := F1.run _ X.stack _ _ ⟨Value.ref (hh.objs.size + 1) :: us, []⟩ (Value.ref (hh.objs.size + 1) :: us) _ _ E0 (hr.make C us []) (J.env0.make C us []) bd rv w0
  refine wpAny_call (PySem.HandSPX.call_own F.excBase_ValueError (fun Y => PySem.HandSPX.refsVE_contains Y bm lB) (I1.kIn _ _ lC) (PySem.W.looks_findIn I1.kIn iC) (fun self => PySem.W.bind_fn I1.kIn self tI) hus
    (codeAny_mono F1' fun r s' hq => ?_))
  cases r with
  | error er => exact False.elim hq
  | ok fl =>
    cases fl with
    | ret u =>
      obtain ⟨v, H2, I2, r2, ev, q2⟩ := J.after hq
      subst ev
      exact ⟨r2, ⟨.ref (hh.objs.size + 1), H2, I2, rfl, q2⟩⟩
    | next => exact False.elim hq
    | brk => exact False.elim hq
    | cont => exact False.elim hq
def tMk0 (C : Addr) : TE := fun _ H Q => ∀ a, H a = none → Q (.ref a) (upd H a (exo a C none))
theorem pe_mk0 {bmB : List Value} {B newId initId : String} (F : ExcBaseFacts B newId initId bmB) (q : PySem.W.excIn X.K C bmB newId = true) (kC : PySem.W.keepIn X.K (.ref C) = true) (hg : Gl X x) (hm : X.mg x = some (.ref C))
    (hdb : (x == ("__debug__" : Str)) = false := by decide) : PE X (.Call (.Name x p) [] [] pos) (tMk0 C) := by
  refine ⟨fun pins s σ H Q I h => ?_⟩
  refine wpAny_Call_Name_kw (ld_glob I hg hm ?_ hdb)
  refine PySem.W.callWith_K0 I.kIn kC ?_
  show wpAny _ _ (call (.ref C) []) _ _ _
  obtain ⟨bm, N, nm, qn, bs, hdct, sn, sub, ab, col, dd, k0, k1, k2, k3, k5, mN, hC, hN, hni, T⟩ := exc_obj I.kIn q
  refine wpAny_call_exc_subT F T hC hN hni (fun h' a hm => ?_) (by show 0 ≤ sizeLine; exact Nat.zero_le _)
  have hn : H a = none := I.hok.gone hm.new
  obtain ⟨t, ht, _, _⟩ := hm.there
  exact ⟨.ref a, upd H a (exo a C none), I.laidN hm.keeps hm.new hn (exo_ok ht), rfl, h a hn⟩
end
end XV

set_option Elab.async false
set_option linter.all false
set_option maxRecDepth 100000
set_option maxHeartbeats 4000000
/-! A head's facts as any tests of the written part. -/
namespace XH
open PySem PySem.Spec PyProof.Rows L2 He
abbrev Fc : Type := PySem.W.Frag → Bool
def obsB (fa : List Fc) (fn : List DefD) (K : PySem.W.Frag) : AlD := ((fa.all fun f => f K) && fn.all fun d => d.ok K, fn.map fun d => fnW K d.at_)
def SaysB (fa : List Fc) (fn : List DefD) (K : PySem.W.Frag) : Prop := obsB fa fn K = valD fn
def obsBG (n : Nat) (fa : List Fc) (fn : List DefD) (g : Addr → Option Obj) : AlD := obsB fa fn (frG g (asD g n))
def hookB (n : Nat) (fa : List Fc) (fn : List DefD) : PySem.W.Hook where
  α := AlD
  obs := fun st => obsBG n fa fn st.heap.get?
  val := fun _ => valD fn
  says := fun _ hh => ∃ K : PySem.W.Frag, K.In hh ∧ SaysB fa fn K
  of := fun _ _ z => ⟨_, frG_in, z⟩
  keeps := fun _ _ _ ⟨K, inn, c⟩ kk => ⟨K, PySem.W.Frag.In.keeps inn kk, c⟩
theorem obsBG_eq {n : Nat} {fa : List Fc} {fn : List DefD} {g : Addr → Option Obj} {s : Shared} (h : ∀ a, g a = s.heap.get? a) : obsBG n fa fn g = (hookB n fa fn).obs s := by
  have z : g = s.heap.get? := funext h
  rw [z]
  rfl
section
variable {fa : List Fc} {fn : List DefD} {K : PySem.W.Frag}
theorem SaysB.fact (c : SaysB fa fn K) (i : Nat) {f : Fc} (h : fa[i]? = some f := by rfl) : f K = true := by
  have c1 : ((fa.all fun f => f K) && fn.all fun d => d.ok K) = true := congrArg (fun z : AlD => z.1) c
  exact List.all_eq_true.mp (ba c1).1 f (List.mem_of_getElem? h)
theorem SaysB.def_ (c : SaysB fa fn K) (i : Nat) {d : DefD} (h : fn[i]? = some d := by rfl) : ∃ fd, FunD K d.name d.qual d.params d.body d.scope (d.dvs K) (d.kws K) (fAd K d.at_) fd := by
  have c1 : ((fa.all fun f => f K) && fn.all fun d => d.ok K) = true := congrArg (fun z : AlD => z.1) c
  have c2 : fn.map (fun d => fnW K d.at_) = fn.map DefD.val := congrArg (fun z : AlD => z.2) c
  have c3 : (fn.map fun d => fnW K d.at_)[i]? = (fn.map DefD.val)[i]? := congrArg (fun l => l[i]?) c2
  rw [List.getElem?_map, List.getElem?_map, h] at c3
  exact DefD.funD (Option.some.inj c3) (List.all_eq_true.mp (ba c1).2 d (List.mem_of_getElem? h))
end
/-! ### names -/
def glosB (l : List Str) : Fc := fun K => l.all fun x => (Fa.glo x).ok K
def freesB (l : List Str) : Fc := fun K => l.all fun x => (Fa.free x).ok K
theorem glos_ok {K : PySem.W.Frag} {h : Heap} {mg : Str → Option Value} {l : List Str} (X : K.In h) (G : h.Ns mainGlobals mg) (c : glosB l K = true) (x : Str) (hx : x ∈ l) : mg x = some (.ref (ga K x)) := glo_ok X G (List.all_eq_true.mp c x hx)
theorem frees_ok {K : PySem.W.Frag} {h : Heap} {mg : Str → Option Value} {l : List Str} (X : K.In h) (G : h.Ns mainGlobals mg) (c : freesB l K = true) (x : Str) (hx : x ∈ l) : mg x = none := free_ok X G (List.all_eq_true.mp c x hx)
/-! ### own exception classes -/
def excCB (K : PySem.W.Frag) (C : Addr) : Bool :=
  eqO (PySem.W.findIn K (.ref C) "__getattribute__") (some (some (.builtin "BaseException.__getattribute__"))) && (eqO (PySem.W.findIn K (.ref C) "__getattr__") (some none) && (decide (PySem.W.subIn K (.ref C) (.type "BaseException") = some true) &&
  (PySem.W.hasDictIn K C && (eqO (PySem.W.findIn K (.ref C) "__class__") (some (some (.builtin "object.__class__"))) && (eqO (PySem.W.specialIn K (.builtin "object.__class__") "__get__") (some (some (.builtin "getset_descriptor.__get__"))) &&
  (decide (PySem.W.takesIn K (.builtin "object.__class__") = some true) && decide (PySem.W.mroIn K C (.type "object") = some true)))))))
theorem excC_ok {K : PySem.W.Frag} {C : Addr} (h : excCB K C = true) : ExcC K C := by
  obtain ⟨h1, h⟩ := ba h
  obtain ⟨h2, h⟩ := ba h
  obtain ⟨h3, h⟩ := ba h
  obtain ⟨h4, h⟩ := ba h
  obtain ⟨h5, h⟩ := ba h
  obtain ⟨h6, h⟩ := ba h
  obtain ⟨h7, h8⟩ := ba h
  exact ⟨eqO_ok h1, eqO_ok h2, of_decide_eq_true h3, h4, eqO_ok h5, eqO_ok h6, of_decide_eq_true h7, of_decide_eq_true h8⟩
def exB (K : PySem.W.Frag) (C : Addr) : Bool := match K.lookup C with
  | some ⟨.type "type", _, .cls cd, sl⟩ => (match cd.mro, sl.toList with
    | .ref C' :: bm, [_, _, _, _, some (.builtin n), _] => C' == C && (n == "ValueError.__new__" && (!cd.hasDel && (cd.hasDict && PySem.HandSPX.refsVE bm)))
    | _, _ => false)
  | _ => false
theorem exB_ok {K : PySem.W.Frag} {C : Addr} (q : exB K C = true) : ∃ nm qn N bs bm sn sub ab col dd k0 k1 k2 k3 k5, K.lookup C = some (excClassObj nm qn C N bs bm true sn sub ab col dd k0 k1 k2 k3 k5 "ValueError.__new__") ∧ PySem.HandSPX.refsVE bm = true := by
  unfold exB at q
  split at q
  · rename_i dd cd sl lk
    split at q
    · rename_i C' bm k0 k1 k2 k3 n k5 hm hs
      obtain ⟨q1, q⟩ := ba q
      obtain ⟨q2, q⟩ := ba q
      obtain ⟨q3, q⟩ := ba q
      obtain ⟨q4, q5⟩ := ba q
      have e1 := beq_iff_eq.mp q1
      have e2 := beq_iff_eq.mp q2
      subst e1 e2
      obtain ⟨nm, bs, mro, ns, qn, hd, sn, sub, ab, col, del⟩ := cd
      dsimp only at hm q3 q4
      have e3 : del = false := by simpa using q3
      subst hm e3 q4
      have hsl : sl = #[k0, k1, k2, k3, some (.builtin "ValueError.__new__"), k5] := by
        obtain ⟨l⟩ := sl
        have hs' : l = [k0, k1, k2, k3, some (.builtin "ValueError.__new__"), k5] := hs
        rw [hs']
      subst hsl
      exact ⟨nm, qn, ns, bs, bm, sn, sub, ab, col, dd, k0, k1, k2, k3, k5, lk, q5⟩
    · cases q
  · cases q
/-- an own class with an __init__ of its own that stores the fields fs -/
def ownB (K : PySem.W.Frag) (x : Str) (fs : List Str) : Bool :=
  exB K (ga K x) && (eqO (PySem.W.findIn K (.ref (ga K x)) "__setattr__") (some (some (.builtin "object.__setattr__"))) && (decide (PySem.W.typeIn K (.ref (ga K x)) = some (.type "type")) && (PySem.W.keepIn K (.ref (ga K x)) &&
  ((fs.all fun f => eqO (PySem.W.findIn K (.ref (ga K x)) f) (some none)) && (eqO (PySem.W.findIn K (.ref (ga K x)) "__init__") (some (some (.ref (ma K (ga K x) "__init__")))) &&
  (decide (PySem.W.typeIn K (.ref (ma K (ga K x) "__init__")) = some (.type "function")) && excCB K (ga K x)))))))
structure Own (K : PySem.W.Frag) (C fI : Addr) (fs : List Str) : Prop where
  ox : OexC K C
  no : ∀ f ∈ fs, PySem.W.findIn K (.ref C) f = some none
  iC : PySem.W.findIn K (.ref C) "__init__" = some (some (.ref fI))
  tI : PySem.W.typeIn K (.ref fI) = some (.type "function")
  ec : ExcC K C
theorem Own.xf {K : PySem.W.Frag} {C fI : Addr} {fs : List Str} (o : Own K C fI fs) : XfC K C := ⟨o.ec.hg, o.ec.hk, o.ec.hs, o.ec.hd⟩
theorem own_ok {K : PySem.W.Frag} {x : Str} {fs : List Str} (h : ownB K x fs = true) : Own K (ga K x) (ma K (ga K x) "__init__") fs := by
  obtain ⟨h1, h⟩ := ba h
  obtain ⟨h2, h⟩ := ba h
  obtain ⟨h3, h⟩ := ba h
  obtain ⟨h4, h⟩ := ba h
  obtain ⟨h5, h⟩ := ba h
  obtain ⟨h6, h⟩ := ba h
  obtain ⟨h7, h8⟩ := ba h
  have e := excC_ok h8
  exact ⟨⟨exB_ok h1, eqO_ok h2, e.hs, of_decide_eq_true h3, h4⟩, fun f hf => eqO_ok (List.all_eq_true.mp h5 f hf), eqO_ok h6, of_decide_eq_true h7, e⟩
/-- an own class without one -/
def bareB (K : PySem.W.Frag) (x : Str) : Bool := PySem.W.excIn K (ga K x) veBase "ValueError.__new__" && (PySem.W.keepIn K (.ref (ga K x)) && excCB K (ga K x))
structure Bare (K : PySem.W.Frag) (C : Addr) : Prop where
  ex : PySem.W.excIn K C veBase "ValueError.__new__" = true
  kC : PySem.W.keepIn K (.ref C) = true
  ec : ExcC K C
theorem bare_ok {K : PySem.W.Frag} {x : Str} (h : bareB K x = true) : Bare K (ga K x) := by
  obtain ⟨h1, h⟩ := ba h
  obtain ⟨h2, h3⟩ := ba h
  exact ⟨h1, h2, excC_ok h3⟩
/-! ### the promise of such an __init__ of one, of two fields -/
def spI1 (K : PySem.W.Frag) (C : Addr) (f : Str) : Sp := fun vs H Q _ => ∃ (a : Addr) (y : V), vs = [.ref a, y] ∧ OexC K C ∧ PySem.W.findIn K (.ref C) f = some none ∧ H a = some (exo a C none) ∧
  ∀ d, H d = none → d ≠ a → Q .non (upd (upd H d (exd d [(f, y)])) a (exo a C (some d)))
def spI2 (K : PySem.W.Frag) (C : Addr) (f g : Str) : Sp := fun vs H Q _ => ∃ (a : Addr) (y z : V), vs = [.ref a, y, z] ∧ OexC K C ∧ PySem.W.findIn K (.ref C) f = some none ∧ PySem.W.findIn K (.ref C) g = some none ∧ H a = some (exo a C none) ∧
  ∀ d, H d = none → d ≠ a → Q .non (upd (upd (upd H d (exd d [(f, y)])) a (exo a C (some d))) d (exd d [(g, z), (f, y)]))
end XH

set_option Elab.async false
set_option linter.all false
set_option maxRecDepth 100000
set_option maxHeartbeats 8000000

namespace K46
open PySem PySem.Spec PyProof.Rows L2 He XH XV
def top (i : Nat) : Stmt := PySem.Challenge.pw_tryback_k46_errors_stand_apart.main.body.getD i (.Pass ⟨0, 0, 0, 0⟩)
abbrev s_NoContext_init : Stmt := inClass (top 2) 0
theorem sc_NoContext_init : FnScope ["self", "function", "flags"] ["self", "function", "flags"] (defScope s_NoContext_init) := ⟨rfl, rfl, rfl, by decide +kernel, rfl, by decide +kernel, by decide +kernel⟩
abbrev s_NoWay_init : Stmt := inClass (top 3) 0
theorem sc_NoWay_init : FnScope ["self", "way", "how"] ["self", "way", "how"] (defScope s_NoWay_init) := ⟨rfl, rfl, rfl, by decide +kernel, rfl, by decide +kernel, by decide +kernel⟩
abbrev s_NoCell_init : Stmt := inClass (top 4) 0
theorem sc_NoCell_init : FnScope ["self", "name"] ["self", "name"] (defScope s_NoCell_init) := ⟨rfl, rfl, rfl, by decide +kernel, rfl, by decide +kernel, by decide +kernel⟩
abbrev s_Unclean_init : Stmt := inClass (top 5) 0
theorem sc_Unclean_init : FnScope ["self", "function", "thing"] ["self", "function", "thing"] (defScope s_Unclean_init) := ⟨rfl, rfl, rfl, by decide +kernel, rfl, by decide +kernel, by decide +kernel⟩
abbrev s_NoSpot_init : Stmt := inClass (top 7) 0
theorem sc_NoSpot_init : FnScope ["self", "spot"] ["self", "spot"] (defScope s_NoSpot_init) := ⟨rfl, rfl, rfl, by decide +kernel, rfl, by decide +kernel, by decide +kernel⟩
abbrev s_TooMany_init : Stmt := inClass (top 8) 0
theorem sc_TooMany_init : FnScope ["self", "count"] ["self", "count"] (defScope s_TooMany_init) := ⟨rfl, rfl, rfl, by decide +kernel, rfl, by decide +kernel, by decide +kernel⟩
abbrev s_NoEntry_init : Stmt := inClass (top 9) 0
theorem sc_NoEntry_init : FnScope ["self", "number"] ["self", "number"] (defScope s_NoEntry_init) := ⟨rfl, rfl, rfl, by decide +kernel, rfl, by decide +kernel, by decide +kernel⟩
abbrev s_NoRow_init : Stmt := inClass (top 10) 0
theorem sc_NoRow_init : FnScope ["self", "name"] ["self", "name"] (defScope s_NoRow_init) := ⟨rfl, rfl, rfl, by decide +kernel, rfl, by decide +kernel, by decide +kernel⟩
abbrev s_BadCode_init : Stmt := inClass (top 11) 0
theorem sc_BadCode_init : FnScope ["self", "function", "number"] ["self", "function", "number"] (defScope s_BadCode_init) := ⟨rfl, rfl, rfl, by decide +kernel, rfl, by decide +kernel, by decide +kernel⟩
abbrev s_BadText_init : Stmt := inClass (top 12) 0
theorem sc_BadText_init : FnScope ["self", "line"] ["self", "line"] (defScope s_BadText_init) := ⟨rfl, rfl, rfl, by decide +kernel, rfl, by decide +kernel, by decide +kernel⟩
abbrev s_NoSuch_init : Stmt := inClass (top 15) 0
theorem sc_NoSuch_init : FnScope ["self", "name"] ["self", "name"] (defScope s_NoSuch_init) := ⟨rfl, rfl, rfl, by decide +kernel, rfl, by decide +kernel, by decide +kernel⟩
abbrev s_law_state : Stmt := top 19
theorem sc_law_state : FnScope ["_law_cell_here"] ["_law_cell_here"] (defScope s_law_state) := ⟨rfl, rfl, rfl, by decide +kernel, rfl, by decide +kernel, by decide +kernel⟩
abbrev s_law_draw : Stmt := top 20
theorem sc_law_draw : FnScope ["_law_state_here", "_law_many", "_law_drawn", "_law_mixed"] ["_law_state_here", "_law_many"] (defScope s_law_draw) := ⟨rfl, rfl, rfl, by decide +kernel, rfl, by decide +kernel, by decide +kernel⟩
abbrev s_law_pick : Stmt := top 21
theorem sc_law_pick : FnScope ["_law_state_here", "_law_row"] ["_law_state_here", "_law_row"] (defScope s_law_pick) := ⟨rfl, rfl, rfl, by decide +kernel, rfl, by decide +kernel, by decide +kernel⟩
abbrev s_law_cell : Stmt := top 22
theorem sc_law_cell : FnScope ["_law_script", "_law_at"] ["_law_script", "_law_at"] (defScope s_law_cell) := ⟨rfl, rfl, rfl, by decide +kernel, rfl, by decide +kernel, by decide +kernel⟩
abbrev s_law_single : Stmt := top 23
theorem sc_law_single : FnScope ["_law_thing", "_law_cell_here", "_law_spot", "_law_many", "_law_entry", "_law_row", "_law_text", "_law_such", "_law_told", "_law_k"] ["_law_thing"] (defScope s_law_single) := ⟨rfl, rfl, rfl, by decide +kernel, rfl, by decide +kernel, by decide +kernel⟩
abbrev s_law_double : Stmt := top 24
theorem sc_law_double : FnScope ["_law_thing", "_law_other", "_law_context", "_law_way", "_law_dirty", "_law_bad", "_law_told"] ["_law_thing", "_law_other"] (defScope s_law_double) := ⟨rfl, rfl, rfl, by decide +kernel, rfl, by decide +kernel, by decide +kernel⟩
abbrev s_law_kinds : Stmt := top 25
theorem sc_law_kinds : FnScope ["_law_e", "_law_found"] ["_law_e"] (defScope s_law_kinds) := ⟨rfl, rfl, rfl, by decide +kernel, rfl, by decide +kernel, by decide +kernel⟩
abbrev s_law : Stmt := top 26
theorem sc_law : FnScope ["_law_script", "_law_at", "_law_state_here", "_law_number", "_law_things", "_law_thing", "_law_other", "_law_bare", "_law_errors", "_law_some", "_law_right", "_law_k", "_law_j"] ["_law_script"] (defScope s_law) := ⟨rfl, rfl, rfl, by decide +kernel, rfl, by decide +kernel, by decide +kernel⟩
abbrev FnP (K : PySem.W.Frag) (x qn : Str) (st : Stmt) (f : Addr) (fd : FuncData) : Prop := FunD K x qn (defArgs st) (defBody st) (defScope st) [] [] f fd
def globs : List Str := ["BadCode", "BadPuzzle", "BadText", "Ended", "NoCell", "NoContext", "NoEntry", "NoRow", "NoSpot", "NoSuch", "NoWay", "NothingToUndo", "OtherShape", "TooGreat", "TooMany", "TryError", "Unclean", "_law_cell", "_law_double", "_law_draw", "_law_kinds", "_law_pick", "_law_single", "_law_state", "law"]
def frees : List Str := ["range", "max", "min", "len", "int", "isinstance", "ValueError"]
def owns : List (Str × List Str) := [("NoContext", ["function", "flags"]), ("NoWay", ["way", "how"]), ("NoCell", ["name"]), ("Unclean", ["function", "thing"]), ("NoSpot", ["spot"]), ("TooMany", ["count"]), ("NoEntry", ["number"]), ("NoRow", ["name"]), ("BadCode", ["function", "number"]), ("BadText", ["line"]), ("NoSuch", ["name"])]
def bares : List Str := ["OtherShape", "BadPuzzle", "TooGreat", "Ended", "NothingToUndo"]
def kinds : List Str := ["NoCell", "NoSpot", "TooMany", "NoEntry", "NoRow", "BadText", "NoSuch", "NoContext", "NoWay", "Unclean", "BadCode", "OtherShape", "BadPuzzle", "TooGreat", "Ended", "NothingToUndo"]

/-- a def that keeps its promise, ready to be called -/
def Cl (P : Program) (w : World) (K : PySem.W.Frag) (mg : Str → Option Value) (base : Heap) (k : Nat) (f : Addr) (ps : List Str) (sp : Sp) : Prop := ∃ fd, FnOk P w K mg base CX0 k f fd ps sp ∧ Binds K fd ps [] ∧ PySem.W.keepIn K (.ref f) = true
def kindsB (l : List Str) : Fc := fun K => l.all fun x => (l.all fun y => decide (PySem.W.kitOne K (.ref (ga K x)) (.ref (ga K y)) = some (decide (x = y)))) && (decide (PySem.W.kitOne K (.ref (ga K x)) (.ref (ga K "TryError")) = some true) && decide (PySem.W.kitOne K (.ref (ga K x)) (.type "ValueError") = some true))
structure Txt (K : PySem.W.Frag) (mg : Str → Option Value) : Prop where
  gl : ∀ x ∈ globs, mg x = some (.ref (ga K x))
  fr : ∀ x ∈ frees, mg x = none
  ow : ∀ p ∈ owns, Own K (ga K p.1) (ma K (ga K p.1) "__init__") p.2
  br : ∀ x ∈ bares, Bare K (ga K x)
  ec : ∀ x ∈ kinds, ExcC K (ga K x)
  kd : ∀ x ∈ kinds, ∀ y ∈ kinds, PySem.W.kitOne K (.ref (ga K x)) (.ref (ga K y)) = some (decide (x = y))
  kt : ∀ x ∈ kinds, PySem.W.kitOne K (.ref (ga K x)) (.ref (ga K "TryError")) = some true
  kv : ∀ x ∈ kinds, PySem.W.kitOne K (.ref (ga K x)) (.type "ValueError") = some true

section
variable {P : Program} {w : World} {K : PySem.W.Frag} {mg : Str → Option Value} {base : Heap}
theorem ok_NoContext_init {C f : Addr} {fd : FuncData} (F : FnP K "__init__" "NoContext.__init__" s_NoContext_init f fd) : FnOk P w K mg base CX0 1 f fd ["self", "function", "flags"] (spI2 K C "function" "flags") := by
  refine FunD.ok F sc_NoContext_init (fun vs H Q E h => ?_) (fun cdv A outer s H vs Q E hr h => ?_)
  · obtain ⟨a, y, z, rfl, _⟩ := h
    rfl
  · obtain ⟨a, y, z, rfl, U, no, no2, ha, kk⟩ := h
    refine ⟨_, PSs.nox (pss_cons (ps_ost (pv 0) (pv 1)) (pss_one (ps_ost (pv 0) (pv 2)))), ?_⟩
    exact ⟨y, rfl, .ref a, rfl, a, C, rfl, U, no, .inl ⟨ha, fun dx h1 h2 => ⟨z, rfl, .ref a, rfl, a, C, rfl, U, no2, .inr ⟨dx, _, upd_same, (upd_ne h2).trans upd_same, by show 1 ≤ 900; decide, kk dx h1 h2⟩⟩⟩⟩

theorem ok_NoWay_init {C f : Addr} {fd : FuncData} (F : FnP K "__init__" "NoWay.__init__" s_NoWay_init f fd) : FnOk P w K mg base CX0 1 f fd ["self", "way", "how"] (spI2 K C "way" "how") := by
  refine FunD.ok F sc_NoWay_init (fun vs H Q E h => ?_) (fun cdv A outer s H vs Q E hr h => ?_)
  · obtain ⟨a, y, z, rfl, _⟩ := h
    rfl
  · obtain ⟨a, y, z, rfl, U, no, no2, ha, kk⟩ := h
    refine ⟨_, PSs.nox (pss_cons (ps_ost (pv 0) (pv 1)) (pss_one (ps_ost (pv 0) (pv 2)))), ?_⟩
    exact ⟨y, rfl, .ref a, rfl, a, C, rfl, U, no, .inl ⟨ha, fun dx h1 h2 => ⟨z, rfl, .ref a, rfl, a, C, rfl, U, no2, .inr ⟨dx, _, upd_same, (upd_ne h2).trans upd_same, by show 1 ≤ 900; decide, kk dx h1 h2⟩⟩⟩⟩

theorem ok_NoCell_init {C f : Addr} {fd : FuncData} (F : FnP K "__init__" "NoCell.__init__" s_NoCell_init f fd) : FnOk P w K mg base CX0 1 f fd ["self", "name"] (spI1 K C "name") := by
  refine FunD.ok F sc_NoCell_init (fun vs H Q E h => ?_) (fun cdv A outer s H vs Q E hr h => ?_)
  · obtain ⟨a, y, rfl, _⟩ := h
    rfl
  · obtain ⟨a, y, rfl, U, no, ha, kk⟩ := h
    refine ⟨_, PSs.nox (pss_one (ps_ost (pv 0) (pv 1))), ?_⟩
    exact ⟨y, rfl, .ref a, rfl, a, C, rfl, U, no, .inl ⟨ha, fun dx h1 h2 => kk dx h1 h2⟩⟩

theorem ok_Unclean_init {C f : Addr} {fd : FuncData} (F : FnP K "__init__" "Unclean.__init__" s_Unclean_init f fd) : FnOk P w K mg base CX0 1 f fd ["self", "function", "thing"] (spI2 K C "function" "thing") := by
  refine FunD.ok F sc_Unclean_init (fun vs H Q E h => ?_) (fun cdv A outer s H vs Q E hr h => ?_)
  · obtain ⟨a, y, z, rfl, _⟩ := h
    rfl
  · obtain ⟨a, y, z, rfl, U, no, no2, ha, kk⟩ := h
    refine ⟨_, PSs.nox (pss_cons (ps_ost (pv 0) (pv 1)) (pss_one (ps_ost (pv 0) (pv 2)))), ?_⟩
    exact ⟨y, rfl, .ref a, rfl, a, C, rfl, U, no, .inl ⟨ha, fun dx h1 h2 => ⟨z, rfl, .ref a, rfl, a, C, rfl, U, no2, .inr ⟨dx, _, upd_same, (upd_ne h2).trans upd_same, by show 1 ≤ 900; decide, kk dx h1 h2⟩⟩⟩⟩

theorem ok_NoSpot_init {C f : Addr} {fd : FuncData} (F : FnP K "__init__" "NoSpot.__init__" s_NoSpot_init f fd) : FnOk P w K mg base CX0 1 f fd ["self", "spot"] (spI1 K C "spot") := by
  refine FunD.ok F sc_NoSpot_init (fun vs H Q E h => ?_) (fun cdv A outer s H vs Q E hr h => ?_)
  · obtain ⟨a, y, rfl, _⟩ := h
    rfl
  · obtain ⟨a, y, rfl, U, no, ha, kk⟩ := h
    refine ⟨_, PSs.nox (pss_one (ps_ost (pv 0) (pv 1))), ?_⟩
    exact ⟨y, rfl, .ref a, rfl, a, C, rfl, U, no, .inl ⟨ha, fun dx h1 h2 => kk dx h1 h2⟩⟩

theorem ok_TooMany_init {C f : Addr} {fd : FuncData} (F : FnP K "__init__" "TooMany.__init__" s_TooMany_init f fd) : FnOk P w K mg base CX0 1 f fd ["self", "count"] (spI1 K C "count") := by
  refine FunD.ok F sc_TooMany_init (fun vs H Q E h => ?_) (fun cdv A outer s H vs Q E hr h => ?_)
  · obtain ⟨a, y, rfl, _⟩ := h
    rfl
  · obtain ⟨a, y, rfl, U, no, ha, kk⟩ := h
    refine ⟨_, PSs.nox (pss_one (ps_ost (pv 0) (pv 1))), ?_⟩
    exact ⟨y, rfl, .ref a, rfl, a, C, rfl, U, no, .inl ⟨ha, fun dx h1 h2 => kk dx h1 h2⟩⟩

theorem ok_NoEntry_init {C f : Addr} {fd : FuncData} (F : FnP K "__init__" "NoEntry.__init__" s_NoEntry_init f fd) : FnOk P w K mg base CX0 1 f fd ["self", "number"] (spI1 K C "number") := by
  refine FunD.ok F sc_NoEntry_init (fun vs H Q E h => ?_) (fun cdv A outer s H vs Q E hr h => ?_)
  · obtain ⟨a, y, rfl, _⟩ := h
    rfl
  · obtain ⟨a, y, rfl, U, no, ha, kk⟩ := h
    refine ⟨_, PSs.nox (pss_one (ps_ost (pv 0) (pv 1))), ?_⟩
    exact ⟨y, rfl, .ref a, rfl, a, C, rfl, U, no, .inl ⟨ha, fun dx h1 h2 => kk dx h1 h2⟩⟩

theorem ok_NoRow_init {C f : Addr} {fd : FuncData} (F : FnP K "__init__" "NoRow.__init__" s_NoRow_init f fd) : FnOk P w K mg base CX0 1 f fd ["self", "name"] (spI1 K C "name") := by
  refine FunD.ok F sc_NoRow_init (fun vs H Q E h => ?_) (fun cdv A outer s H vs Q E hr h => ?_)
  · obtain ⟨a, y, rfl, _⟩ := h
    rfl
  · obtain ⟨a, y, rfl, U, no, ha, kk⟩ := h
    refine ⟨_, PSs.nox (pss_one (ps_ost (pv 0) (pv 1))), ?_⟩
    exact ⟨y, rfl, .ref a, rfl, a, C, rfl, U, no, .inl ⟨ha, fun dx h1 h2 => kk dx h1 h2⟩⟩

theorem ok_BadCode_init {C f : Addr} {fd : FuncData} (F : FnP K "__init__" "BadCode.__init__" s_BadCode_init f fd) : FnOk P w K mg base CX0 1 f fd ["self", "function", "number"] (spI2 K C "function" "number") := by
  refine FunD.ok F sc_BadCode_init (fun vs H Q E h => ?_) (fun cdv A outer s H vs Q E hr h => ?_)
  · obtain ⟨a, y, z, rfl, _⟩ := h
    rfl
  · obtain ⟨a, y, z, rfl, U, no, no2, ha, kk⟩ := h
    refine ⟨_, PSs.nox (pss_cons (ps_ost (pv 0) (pv 1)) (pss_one (ps_ost (pv 0) (pv 2)))), ?_⟩
    exact ⟨y, rfl, .ref a, rfl, a, C, rfl, U, no, .inl ⟨ha, fun dx h1 h2 => ⟨z, rfl, .ref a, rfl, a, C, rfl, U, no2, .inr ⟨dx, _, upd_same, (upd_ne h2).trans upd_same, by show 1 ≤ 900; decide, kk dx h1 h2⟩⟩⟩⟩

theorem ok_BadText_init {C f : Addr} {fd : FuncData} (F : FnP K "__init__" "BadText.__init__" s_BadText_init f fd) : FnOk P w K mg base CX0 1 f fd ["self", "line"] (spI1 K C "line") := by
  refine FunD.ok F sc_BadText_init (fun vs H Q E h => ?_) (fun cdv A outer s H vs Q E hr h => ?_)
  · obtain ⟨a, y, rfl, _⟩ := h
    rfl
  · obtain ⟨a, y, rfl, U, no, ha, kk⟩ := h
    refine ⟨_, PSs.nox (pss_one (ps_ost (pv 0) (pv 1))), ?_⟩
    exact ⟨y, rfl, .ref a, rfl, a, C, rfl, U, no, .inl ⟨ha, fun dx h1 h2 => kk dx h1 h2⟩⟩

theorem ok_NoSuch_init {C f : Addr} {fd : FuncData} (F : FnP K "__init__" "NoSuch.__init__" s_NoSuch_init f fd) : FnOk P w K mg base CX0 1 f fd ["self", "name"] (spI1 K C "name") := by
  refine FunD.ok F sc_NoSuch_init (fun vs H Q E h => ?_) (fun cdv A outer s H vs Q E hr h => ?_)
  · obtain ⟨a, y, rfl, _⟩ := h
    rfl
  · obtain ⟨a, y, rfl, U, no, ha, kk⟩ := h
    refine ⟨_, PSs.nox (pss_one (ps_ost (pv 0) (pv 1))), ?_⟩
    exact ⟨y, rfl, .ref a, rfl, a, C, rfl, U, no, .inl ⟨ha, fun dx h1 h2 => kk dx h1 h2⟩⟩

end
end K46
set_option Elab.async false
set_option linter.all false
set_option maxRecDepth 100000
set_option maxHeartbeats 8000000

namespace K46
open PySem PySem.Spec PyProof.Rows L2 He XH XV
section
variable {P : Program} {w : World} {K : PySem.W.Frag} {mg : Str → Option Value} {base : Heap}
def spState : Sp := fun vs H Q _ => ∃ (n : Int), vs = [.int n] ∧ ∀ p b, H p = none → Q (.ref p) (upd H p (.lst [.int n, .int b, .int 0]))
def spDraw : Sp := fun vs H Q _ => ∃ (p : Addr) (m a f c : Int), vs = [.ref p, .int m] ∧ (0 < m ∧ m < 1073741824) ∧ (0 ≤ c ∧ c ≤ 1000) ∧ H p = some (.lst [.int a, .int f, .int c]) ∧
  ∀ r a', 0 ≤ r ∧ r < m → Q (.int r) (upd H p (.lst [.int a', .int f, .int (c + 1)]))
def spCell (K : PySem.W.Frag) : Sp := fun vs H Q _ => ∃ (a : Addr) (ns : List Int) (i : Nat), vs = [.ref a, .int i] ∧ SqL K H a (ns.map V.int) ∧ ∀ n, Q (.int n) H
theorem fits {n : Nat} (h : n ≤ 1000) : n ≤ sizeLine := Nat.le_of_lt (small1000 h)

theorem ok_law_state {fd : FuncData} (F : FnP K "_law_state" "_law_state" s_law_state (ga K "_law_state") fd) (T : Txt K mg) : FnOk P w K mg base CX0 1 (ga K "_law_state") fd ["_law_cell_here"] spState := by
  refine FunD.ok F sc_law_state (fun vs H Q E h => ?_) (fun cdv A outer s H vs Q E hr h => ?_)
  · obtain ⟨n, rfl, _⟩ := h
    rfl
  · obtain ⟨n, rfl, kk⟩ := h
    have n_int := T.fr "int" (by decide +kernel)
    refine ⟨_, PSs.nox (pss_one (ps_ret (pe_lst (pa_cons (pe_callTy call_int1 (by rfl) n_int (by decide +kernel) (pa_cons (pv 0) pa_nil)) (pa_cons (pe_callTy call_int1 (by rfl) n_int (by decide +kernel) (pa_cons (pe_cmpR op_ge (pv 0) (pe_op op_pow pe_int pe_int) (nomark _)) pa_nil)) (pa_cons pe_int pa_nil)))))), ?_⟩
    exact ⟨.int n, rfl, .inl ⟨n, rfl, .int n, rfl, 10, 18, rfl, rfl, ⟨by decide, by decide, by decide⟩, n, _, rfl, rfl, .inr ⟨_, rfl, fits (show 3 ≤ 1000 by decide), fun p hp => kk p _ hp⟩⟩⟩

theorem ok_law_draw {fd : FuncData} (F : FnP K "_law_draw" "_law_draw" s_law_draw (ga K "_law_draw") fd) (T : Txt K mg) : FnOk P w K mg base CX0 1 (ga K "_law_draw") fd ["_law_state_here", "_law_many"] spDraw := by
  refine FunD.ok F sc_law_draw (fun vs H Q E h => ?_) (fun cdv A outer s H vs Q E hr h => ?_)
  · obtain ⟨p, m, a, f, c, rfl, _⟩ := h
    rfl
  · obtain ⟨p, m, a, f, c, rfl, ⟨m0, m1⟩, ⟨c0, c1⟩, hp, kk⟩ := h
    have n_int := T.fr "int" (by decide +kernel)
    refine ⟨_, PSs.nox (pss_cons (ps_asg (pe_op op_add (pe_ix ix_list (pv 0) pe_int (fun _ _ => rfl)) pe_int) (pg_sub (pv 0) pe_int set_list))
      (pss_cons (ps_if (pt_cmpR op_eq (pe_ix ix_list (pv 0) pe_int (fun _ _ => rfl)) pe_int (nomark _))
      (pss_cons (ps_set (i := 2) sc_law_draw.nd rfl (Or.inl rfl) (pe_op op_mod (pe_callTy call_int1 (by rfl) n_int (by decide +kernel) (pa_cons (pe_ix ix_list (pv 0) pe_int (fun _ _ => rfl)) pa_nil)) (pv 1)))
      (pss_cons (ps_asg (pe_op op_fdiv (pe_ix ix_list (pv 0) pe_int (fun _ _ => rfl)) (pv 1)) (pg_sub (pv 0) pe_int set_list))
      (pss_one (ps_ret (pv 2)))))
      pss_nil)
      (pss_cons (ps_set (i := 3) sc_law_draw.nd rfl (Or.inl rfl) (pe_op op_pow (pe_callTy call_int1 (by rfl) n_int (by decide +kernel) (pa_cons (pe_op op_add (pe_op op_add (pe_op op_mod (pe_callTy call_int1 (by rfl) n_int (by decide +kernel) (pa_cons (pe_ix ix_list (pv 0) pe_int (fun _ _ => rfl)) pa_nil)) pe_int) (pe_op op_mul (pe_ix ix_list (pv 0) pe_int (fun _ _ => rfl)) pe_int)) pe_int) pa_nil)) pe_int))
      (pss_one (ps_ret (pe_op op_mod (pe_callTy call_int1 (by rfl) n_int (by decide +kernel) (pa_cons (pe_op op_fdiv (pe_op op_mod (pe_callTy call_int1 (by rfl) n_int (by decide +kernel) (pa_cons (pv 3) pa_nil)) pe_int) pe_int) pa_nil)) (pv 1))))))), ?_⟩
    have h1 : upd H p (.lst [.int a, .int f, .int (c + 1)]) p = some (.lst [.int a, .int f, .int (c + 1)]) := upd_same
    refine ⟨.ref p, rfl, p, _, 2, .int c, rfl, rfl, SqL.of hp, atI_nat (j := 2) rfl, c, 1, rfl, rfl, .ref p, rfl, p, _, 2, 2, rfl, rfl, hp, rfl, ?_⟩
    refine ⟨.ref p, rfl, p, _, 1, .int f, rfl, rfl, SqL.of h1, atI_nat (j := 1) rfl, rfl, _, rfl, ite2 (fun _ => ?_) (fun _ => ?_)⟩
    · refine ⟨.ref p, rfl, p, _, 0, .int a, rfl, rfl, SqL.of h1, atI_nat (j := 0) rfl, .inl ⟨a, rfl, .int m, rfl, a, m, rfl, rfl, m0, ?_⟩⟩
      refine ⟨.ref p, rfl, p, _, 0, .int a, rfl, rfl, SqL.of h1, atI_nat (j := 0) rfl, .int m, rfl, a, m, rfl, rfl, ⟨m0, m1⟩, .ref p, rfl, p, _, 0, 0, rfl, rfl, h1, rfl, ?_⟩
      refine ⟨_, rfl, ?_⟩
      rw [upd_upd]
      exact kk _ _ ⟨Int.emod_nonneg _ (by omega), Int.emod_lt_of_pos _ m0⟩
    · refine ⟨.ref p, rfl, p, _, 0, .int a, rfl, rfl, SqL.of h1, atI_nat (j := 0) rfl, .inl ⟨a, rfl, a, 2147483647, rfl, rfl, (show (0 : Int) < 2147483647 by decide), .ref p, rfl, p, _, 2, .int (c + 1), rfl, rfl, SqL.of h1, atI_nat (j := 2) rfl, c + 1, 69623, rfl, rfl, ?_, _, _, rfl, rfl, _, 48271, rfl, rfl, .inl ⟨_, rfl, _, 5, rfl, rfl, ?_, ?_⟩⟩⟩
      · exact .inl ⟨by omega, by omega⟩
      · have z0 := Int.emod_nonneg a (show (2147483647 : Int) ≠ 0 by decide)
        have z1 := Int.emod_lt_of_pos a (show (0 : Int) < 2147483647 by decide)
        refine ⟨by decide, by decide, ?_⟩
        generalize a % 2147483647 = u at *
        omega
      · refine ⟨_, rfl, .inl ⟨_, rfl, _, _, rfl, rfl, (show (0 : Int) < 2305843009213693951 by decide), _, 4096, rfl, rfl, ⟨by decide, by decide⟩, .inl ⟨_, rfl, .int m, rfl, _, m, rfl, rfl, m0, ?_⟩⟩⟩
        exact kk _ _ ⟨Int.emod_nonneg _ (by omega), Int.emod_lt_of_pos _ m0⟩

theorem ok_law_cell {fd : FuncData} (F : FnP K "_law_cell" "_law_cell" s_law_cell (ga K "_law_cell") fd) (T : Txt K mg) : FnOk P w K mg base CX0 1 (ga K "_law_cell") fd ["_law_script", "_law_at"] (spCell K) := by
  refine FunD.ok F sc_law_cell (fun vs H Q E h => ?_) (fun cdv A outer s H vs Q E hr h => ?_)
  · obtain ⟨a, ns, i, rfl, _⟩ := h
    rfl
  · obtain ⟨a, ns, i, rfl, hS, kk⟩ := h
    have n_len := T.fr "len" (by decide +kernel)
    refine ⟨_, PSs.nox (pss_cons (ps_if (pt_cmpR op_lt (pv 1) (pe_callB call_len_seq (by rfl) n_len (by decide +kernel) (pa_cons (pv 0) pa_nil)) (nomark _))
      (pss_one (ps_ret (pe_ix ix_list (pv 0) (pv 1) (fun _ _ => rfl))))
      pss_nil)
      (pss_one (ps_ret (pe_op op_add pe_int (pv 1))))), ?_⟩
    refine ⟨.int i, rfl, .ref a, rfl, a, ns.map V.int, rfl, .inl hS, i, _, rfl, rfl, _, rfl, ite2 (fun c => ?_) (fun _ => ?_)⟩
    · have hi : i < ns.length := by
        have z := of_decide_eq_true c
        rw [List.length_map] at z
        omega
      have gi : (ns.map V.int)[i]? = some (.int ns[i]) := by
        rw [List.getElem?_map, List.getElem?_eq_getElem hi]
        rfl
      exact ⟨.ref a, rfl, .int i, rfl, a, _, i, _, rfl, rfl, hS, atI_nat gi, kk _⟩
    · exact ⟨.int i, rfl, _, _, rfl, rfl, kk _⟩

end
end K46
set_option Elab.async false
set_option linter.all false
set_option maxRecDepth 100000
set_option maxHeartbeats 8000000

namespace K46
open PySem PySem.Spec PyProof.Rows L2 He XH XV Evl
section
variable {P : Program} {w : World} {K : PySem.W.Frag} {mg : Str → Option Value} {base : Heap}

/-! ### data under a heap that grows -/
mutual
theorem dpM {H H' : Hp} (e : Ex H H') : ∀ (d : PyData) (v : V), Dp K H v d → Dp K H' v d
  | .none, _, h => by
    cases h
    exact .non
  | .bool b, _, h => by
    cases h
    exact .bl b
  | .int i, _, h => by
    cases h
    exact .int i
  | .str x, _, h => by
    cases h
    exact .str x
  | .list ds, _, h => by
    cases h with
    | lst h1 h2 => exact .lst (ex_l e h1) (dpMs e ds _ h2)
  | .tuple ds, _, h => by
    cases h with
    | tup h1 h2 => exact .tup (ex_t e h1) (dpMs e ds _ h2)
  | .dict _, _, h => by cases h
theorem dpMs {H H' : Hp} (e : Ex H H') : ∀ (ds : List PyData) (vs : List V), DpAll K H vs ds → DpAll K H' vs ds
  | [], _, h => by
    cases h
    exact .nil
  | d :: ds, _, h => by
    cases h with
    | cons h1 h2 => exact .cons (dpM e d _ h1) (dpMs e ds _ h2)
end
theorem dpRep {H : Hp} {v : V} {d : PyData} (h : Dp K H v d) : ∀ n : Nat, DpAll K H (List.replicate n v) (List.replicate n d)
  | 0 => .nil
  | n + 1 => .cons h (dpRep h n)
/-- == of data that is the same -/
theorem rv_same {H : Hp} {x y : V} {d : PyData} (hx : Dp K H x d) (hy : Dp K H y d) (s : SeqAt.shaped d = true) : RV (rEqD K) x y H (.bl true) := fun H1 e Q q => by
  refine ⟨d, d, dpM e d x hx, dpM e d y hy, s, s, ?_⟩
  rw [SeqAt.eqv_refl d (SeqAt.canLay_of_shaped s)]
  exact q H1 (Ex.refl H1)
/-! ### exceptions made -/
def EvX (te : TE) (σ : L2.St) (H : Hp) (C : Addr) (fs : List (Str × V)) : Prop := ∀ H1, Ex H H1 → ∀ Q : VK, (∀ a H2, H1 a = none → Ex H1 H2 → ExF H2 a C fs → Q (.ref a) H2) → te σ H1 Q
theorem upd_none {H : Hp} {a d : Addr} {o : HO} (h : upd H a o d = none) (n : d ≠ a) : H d = none := (upd_ne n).symm.trans h
theorem ex_mk1 {σ : L2.St} {H : Hp} {ta : TA} {C fI : Addr} {f : Str} {fs : List Str} {y : V} (o : Own K C fI fs) (hf : f ∈ fs) (h : EvA ta σ H [y]) : EvX (tMkV C (spI1 K C f) ta) σ H C [(f, y)] := fun H1 e Q q => h H1 e _ fun H2 e2 =>
  ⟨(by show 1 ≤ 1000; decide), fun a ha => ⟨a, y, rfl, o.ox, o.no f hf, upd_same, fun d hd nd => ⟨rfl, q a _ (fresh_back e2 ha)
    (Ex.mut (Ex.mut (Ex.mut e2 (fresh_back e2 ha)) (fresh_back e2 (upd_none hd nd))) (fresh_back e2 ha)) ⟨d, upd_same, (upd_ne nd).trans upd_same⟩⟩⟩⟩
theorem ex_mk2 {σ : L2.St} {H : Hp} {ta : TA} {C fI : Addr} {f g : Str} {fs : List Str} {y z : V} (o : Own K C fI fs) (hf : f ∈ fs) (hg : g ∈ fs) (h : EvA ta σ H [y, z]) : EvX (tMkV C (spI2 K C f g) ta) σ H C [(g, z), (f, y)] := fun H1 e Q q => h H1 e _ fun H2 e2 =>
  ⟨(by show 2 ≤ 1000; decide), fun a ha => ⟨a, y, z, rfl, o.ox, o.no f hf, o.no g hg, upd_same, fun d hd nd => ⟨rfl, q a _ (fresh_back e2 ha)
    (Ex.mut (Ex.mut (Ex.mut (Ex.mut e2 (fresh_back e2 ha)) (fresh_back e2 (upd_none hd nd))) (fresh_back e2 ha)) (fresh_back e2 (upd_none hd nd))) ⟨d, (upd_ne (Ne.symm nd)).trans upd_same, upd_same⟩⟩⟩⟩
theorem q_asgX {σ : L2.St} {H : Hp} {te : TE} {tz : TS} {D : Ends} {i : Nat} {C : Addr} {fs : List (Str × V)} (h : EvX te σ H C fs) (k : ∀ a H1, Ex H H1 → ExF H1 a C fs → tz D (σ.set i (some (.ref a))) H1) : tSeq (tAsg te (gName i)) tz D σ H := h H (Ex.refl H) _ fun a H1 _ e hx => k a H1 e hx
theorem ev_xv {σ : L2.St} {H : Hp} {te : TE} {a C fI : Addr} {f : Str} {gs : List Str} {fs : List (Str × V)} {v : V} (h : Ev te σ H (.ref a)) (hx : ExF H a C fs) (o : Own K C fI gs) (hf : f ∈ gs) (hl : fs.lookup f = some v) : Ev (tXv K f te) σ H v := fun H1 e Q q => h H1 e _ fun H2 e2 => by
  obtain ⟨d, h1, h2⟩ := hx.mono (e.trans e2)
  exact ⟨a, C, d, fs, v, rfl, h1, h2, o.xf, o.no f hf, hl, q H2 e2⟩
theorem lk0 {f : Str} {y : V} {l : List (Str × V)} : ((f, y) :: l).lookup f = some y := by simp [List.lookup]
theorem lk1 {f g : Str} {y z : V} (h : (f == g) = false) : [(g, z), (f, y)].lookup f = some y := by simp [List.lookup, h]
/-! ### the errors, in their order -/
def AllX (K : PySem.W.Frag) (H : Hp) : List V → List Str → Prop
  | [], [] => True
  | .ref a :: vs, x :: xs => ExAt H a (ga K x) ∧ AllX K H vs xs
  | _, _ => False
theorem AllX.mono {H H' : Hp} (e : Ex H H') : ∀ {vs : List V} {xs : List Str}, AllX K H vs xs → AllX K H' vs xs
  | [], [], _ => True.intro
  | .ref a :: vs, x :: xs, h => ⟨ExAt.mono e h.1, AllX.mono e h.2⟩
  | .ref _ :: _, [], h => h.elim
  | [], _ :: _, h => h.elim
theorem AllX.append {H : Hp} : ∀ {vs ws : List V} {xs ys : List Str}, AllX K H vs xs → AllX K H ws ys → AllX K H (vs ++ ws) (xs ++ ys)
  | [], _, [], _, _, h => h
  | .ref a :: vs, ws, x :: xs, ys, h, h2 => ⟨h.1, AllX.append h.2 h2⟩
  | .ref _ :: _, _, [], _, h, _ => h.elim
  | [], _, _ :: _, _, h, _ => h.elim
theorem AllX.get {H : Hp} : ∀ {vs : List V} {xs : List Str} {i : Nat} {x : Str}, AllX K H vs xs → xs[i]? = some x → ∃ a, vs[i]? = some (.ref a) ∧ ExAt H a (ga K x)
  | [], [], _, _, _, e => by simp at e
  | .ref a :: vs, y :: ys, 0, x, h, e => by
    have z : y = x := Option.some.inj e
    subst z
    exact ⟨a, rfl, h.1⟩
  | .ref a :: vs, y :: ys, i + 1, x, h, e => AllX.get (vs := vs) (xs := ys) (i := i) h.2 e
  | .ref _ :: _, [], _, _, h, _ => h.elim
  | [], _ :: _, _, _, h, _ => h.elim
theorem AllX.len {H : Hp} : ∀ {vs : List V} {xs : List Str}, AllX K H vs xs → vs.length = xs.length
  | [], [], _ => rfl
  | .ref a :: vs, x :: xs, h => congrArg Nat.succ (AllX.len h.2)
  | .ref _ :: _, [], h => h.elim
  | [], _ :: _, h => h.elim
theorem s_retLB {K : PySem.W.Frag} {σ : L2.St} {H : Hp} {D : Ends} {ta tb : TE} {xs : List V} {b : Bool} (h : EvL ta σ H xs) (hb : ∀ l H1, Ex H H1 → H1 l = some (.lst xs) → Ev tb σ H1 (.bl b))
    (k : ∀ p l H', H p = none → Ex H H' → H' p = some (.tup [.ref l, .bl b]) → H' l = some (.lst xs) → D.rt (.ref p) H') : tRet (tTup (tCons ta (tCons tb tNil))) D σ H := h H (Ex.refl H) _ fun l H1 _ e1 h1 =>
  hb l H1 e1 h1 H1 (Ex.refl H1) _ fun H2 e2 => ⟨fits (show 2 ≤ 1000 by decide), fun p hp => k p l _ (fresh_back (e1.trans e2) hp) ((e1.trans e2).trans (Ex.new hp)) upd_same ((Ex.new hp) _ _ (e2 _ _ h1))⟩
def singles : List Str := kinds.take 7
def doubles : List Str := (kinds.drop 7).take 4
/-- a pair (errors, right): a tuple of a list of errors of the classes xs, and True -/
def PairAt (K : PySem.W.Frag) (H : Hp) (p : Addr) (xs : List Str) : Prop := ∃ (l : Addr) (vs : List V), H p = some (.tup [.ref l, .bl true]) ∧ H l = some (.lst vs) ∧ AllX K H vs xs
theorem PairAt.mono {H H' : Hp} {p : Addr} {xs : List Str} (e : Ex H H') (h : PairAt K H p xs) : PairAt K H' p xs := by
  obtain ⟨l, vs, h1, h2, h3⟩ := h
  exact ⟨l, vs, e _ _ h1, e _ _ h2, h3.mono e⟩
def spSingle (K : PySem.W.Frag) : Sp := fun vs H Q _ => ∃ (y : V) (d : PyData), vs = [y] ∧ Dp K H y d ∧ SeqAt.shaped (.list (List.replicate 7 d)) = true ∧ ∀ p H', H p = none → Ex H H' → PairAt K H' p singles → Q (.ref p) H'
def spDouble (K : PySem.W.Frag) : Sp := fun vs H Q _ => ∃ (y z : V) (d e : PyData), vs = [y, z] ∧ Dp K H y d ∧ Dp K H z e ∧ SeqAt.shaped (.list [d, e, e, d, d, e, e, d]) = true ∧ ∀ p H', H p = none → Ex H H' → PairAt K H' p doubles → Q (.ref p) H'
def spKinds (K : PySem.W.Frag) : Sp := fun vs H Q _ => ∃ (a : Addr) (x : Str), vs = [.ref a] ∧ x ∈ kinds ∧ ExAt H a (ga K x) ∧ ∀ p H', H p = none → Ex H H' → H' p = some (.lst (kinds.map fun y => .bl (decide (x = y)))) → Q (.ref p) H'

theorem ok_law_single {fd : FuncData} (F : FnP K "_law_single" "_law_single" s_law_single (ga K "_law_single") fd) (T : Txt K mg) (ci_NoCell : ∃ fd, FnOk P w K mg base CX0 1 (ma K (ga K "NoCell") "__init__") fd ["self", "name"] (spI1 K (ga K "NoCell") "name") ∧ Binds K fd ["self", "name"] []) (ci_NoSpot : ∃ fd, FnOk P w K mg base CX0 1 (ma K (ga K "NoSpot") "__init__") fd ["self", "spot"] (spI1 K (ga K "NoSpot") "spot") ∧ Binds K fd ["self", "spot"] []) (ci_TooMany : ∃ fd, FnOk P w K mg base CX0 1 (ma K (ga K "TooMany") "__init__") fd ["self", "count"] (spI1 K (ga K "TooMany") "count") ∧ Binds K fd ["self", "count"] []) (ci_NoEntry : ∃ fd, FnOk P w K mg base CX0 1 (ma K (ga K "NoEntry") "__init__") fd ["self", "number"] (spI1 K (ga K "NoEntry") "number") ∧ Binds K fd ["self", "number"] []) (ci_NoRow : ∃ fd, FnOk P w K mg base CX0 1 (ma K (ga K "NoRow") "__init__") fd ["self", "name"] (spI1 K (ga K "NoRow") "name") ∧ Binds K fd ["self", "name"] []) (ci_BadText : ∃ fd, FnOk P w K mg base CX0 1 (ma K (ga K "BadText") "__init__") fd ["self", "line"] (spI1 K (ga K "BadText") "line") ∧ Binds K fd ["self", "line"] []) (ci_NoSuch : ∃ fd, FnOk P w K mg base CX0 1 (ma K (ga K "NoSuch") "__init__") fd ["self", "name"] (spI1 K (ga K "NoSuch") "name") ∧ Binds K fd ["self", "name"] []) : FnOk P w K mg base CX0 3 (ga K "_law_single") fd ["_law_thing"] (spSingle K) := by
  obtain ⟨fdi_NoCell, i_NoCell, bi_NoCell⟩ := ci_NoCell
  obtain ⟨fdi_NoSpot, i_NoSpot, bi_NoSpot⟩ := ci_NoSpot
  obtain ⟨fdi_TooMany, i_TooMany, bi_TooMany⟩ := ci_TooMany
  obtain ⟨fdi_NoEntry, i_NoEntry, bi_NoEntry⟩ := ci_NoEntry
  obtain ⟨fdi_NoRow, i_NoRow, bi_NoRow⟩ := ci_NoRow
  obtain ⟨fdi_BadText, i_BadText, bi_BadText⟩ := ci_BadText
  obtain ⟨fdi_NoSuch, i_NoSuch, bi_NoSuch⟩ := ci_NoSuch
  refine FunD.ok F sc_law_single (fun vs H Q E h => ?_) (fun cdv A outer s H vs Q E hr h => ?_)
  · obtain ⟨y, d, rfl, _⟩ := h
    rfl
  · obtain ⟨y, d, rfl, hd, hs, kk⟩ := h
    have o_NoCell := T.ow ("NoCell", ["name"]) (by decide +kernel)
    have g_NoCell := T.gl "NoCell" (by decide +kernel)
    have o_NoSpot := T.ow ("NoSpot", ["spot"]) (by decide +kernel)
    have g_NoSpot := T.gl "NoSpot" (by decide +kernel)
    have o_TooMany := T.ow ("TooMany", ["count"]) (by decide +kernel)
    have g_TooMany := T.gl "TooMany" (by decide +kernel)
    have o_NoEntry := T.ow ("NoEntry", ["number"]) (by decide +kernel)
    have g_NoEntry := T.gl "NoEntry" (by decide +kernel)
    have o_NoRow := T.ow ("NoRow", ["name"]) (by decide +kernel)
    have g_NoRow := T.gl "NoRow" (by decide +kernel)
    have o_BadText := T.ow ("BadText", ["line"]) (by decide +kernel)
    have g_BadText := T.gl "BadText" (by decide +kernel)
    have o_NoSuch := T.ow ("NoSuch", ["name"]) (by decide +kernel)
    have g_NoSuch := T.gl "NoSuch" (by decide +kernel)
    have n_range := T.fr "range" (by decide +kernel)
    refine ⟨_, PSs.nox (pss_cons (ps_set (i := 1) sc_law_single.nd rfl (Or.inl rfl) (pe_mkv (o_NoCell).ox (o_NoCell).iC (o_NoCell).tI i_NoCell (hr.mono (by decide)) bi_NoCell (by rfl) g_NoCell (pa_cons (pv 0) pa_nil)))
      (pss_cons (ps_set (i := 2) sc_law_single.nd rfl (Or.inl rfl) (pe_mkv (o_NoSpot).ox (o_NoSpot).iC (o_NoSpot).tI i_NoSpot (hr.mono (by decide)) bi_NoSpot (by rfl) g_NoSpot (pa_cons (pv 0) pa_nil)))
      (pss_cons (ps_set (i := 3) sc_law_single.nd rfl (Or.inl rfl) (pe_mkv (o_TooMany).ox (o_TooMany).iC (o_TooMany).tI i_TooMany (hr.mono (by decide)) bi_TooMany (by rfl) g_TooMany (pa_cons (pv 0) pa_nil)))
      (pss_cons (ps_set (i := 4) sc_law_single.nd rfl (Or.inl rfl) (pe_mkv (o_NoEntry).ox (o_NoEntry).iC (o_NoEntry).tI i_NoEntry (hr.mono (by decide)) bi_NoEntry (by rfl) g_NoEntry (pa_cons (pv 0) pa_nil)))
      (pss_cons (ps_set (i := 5) sc_law_single.nd rfl (Or.inl rfl) (pe_mkv (o_NoRow).ox (o_NoRow).iC (o_NoRow).tI i_NoRow (hr.mono (by decide)) bi_NoRow (by rfl) g_NoRow (pa_cons (pv 0) pa_nil)))
      (pss_cons (ps_set (i := 6) sc_law_single.nd rfl (Or.inl rfl) (pe_mkv (o_BadText).ox (o_BadText).iC (o_BadText).tI i_BadText (hr.mono (by decide)) bi_BadText (by rfl) g_BadText (pa_cons (pv 0) pa_nil)))
      (pss_cons (ps_set (i := 7) sc_law_single.nd rfl (Or.inl rfl) (pe_mkv (o_NoSuch).ox (o_NoSuch).iC (o_NoSuch).tI i_NoSuch (hr.mono (by decide)) bi_NoSuch (by rfl) g_NoSuch (pa_cons (pv 0) pa_nil)))
      (pss_cons (ps_set (i := 8) sc_law_single.nd rfl (Or.inl rfl) (pe_lst (pa_cons (pe_xv (pv 1)) (pa_cons (pe_xv (pv 2)) (pa_cons (pe_xv (pv 3)) (pa_cons (pe_xv (pv 4)) (pa_cons (pe_xv (pv 5)) (pa_cons (pe_xv (pv 6)) (pa_cons (pe_xv (pv 7)) pa_nil)))))))))
      (pss_one (ps_ret (pe_tup (pa_cons (pe_lst (pa_cons (pv 1) (pa_cons (pv 2) (pa_cons (pv 3) (pa_cons (pv 4) (pa_cons (pv 5) (pa_cons (pv 6) (pa_cons (pv 7) pa_nil)))))))) (pa_cons (pe_cmpR (op_eqD hr.units) (pv 8) (pe_lc (own := [("_law_k", 9)]) (g := gName 9) (by rfl) sc_law_single.nd (pi_range1 (by rfl) n_range (pa_cons pe_int pa_nil)) (blkOk_by (own := [("_law_k", 9)]) (N := ["_law_thing", "_law_cell_here", "_law_spot", "_law_many", "_law_entry", "_law_row", "_law_text", "_law_such", "_law_told", "_law_k"]) (sc := defScope s_law_single) (by decide +kernel)) (fun _ _ _ _ _ => (pg_name (i := 9) sc_law_single.nd rfl (Or.inl rfl))) (fun _ _ _ _ _ => pts_nil) (fun _ _ _ _ _ => (pv 0))) (nomark _)) pa_nil))))))))))))), ?_⟩
    have dM : ∀ {H1 : Hp}, Ex H H1 → Dp K H1 y d := fun e => dpM e d y hd
    refine q_asgX (ex_mk1 o_NoCell (by decide) (ea_cons (ev_var rfl) ea_nil)) fun a0 H0 e0 x0 => ?_
    refine q_asgX (ex_mk1 o_NoSpot (by decide) (ea_cons (ev_var rfl) ea_nil)) fun a1 H1 e1 x1 => ?_
    refine q_asgX (ex_mk1 o_TooMany (by decide) (ea_cons (ev_var rfl) ea_nil)) fun a2 H2 e2 x2 => ?_
    refine q_asgX (ex_mk1 o_NoEntry (by decide) (ea_cons (ev_var rfl) ea_nil)) fun a3 H3 e3 x3 => ?_
    refine q_asgX (ex_mk1 o_NoRow (by decide) (ea_cons (ev_var rfl) ea_nil)) fun a4 H4 e4 x4 => ?_
    refine q_asgX (ex_mk1 o_BadText (by decide) (ea_cons (ev_var rfl) ea_nil)) fun a5 H5 e5 x5 => ?_
    refine q_asgX (ex_mk1 o_NoSuch (by decide) (ea_cons (ev_var rfl) ea_nil)) fun a6 H6 e6 x6 => ?_
    replace x0 := x0.mono e1
    replace x0 := x0.mono e2
    replace x0 := x0.mono e3
    replace x0 := x0.mono e4
    replace x0 := x0.mono e5
    replace x0 := x0.mono e6
    replace x1 := x1.mono e2
    replace x1 := x1.mono e3
    replace x1 := x1.mono e4
    replace x1 := x1.mono e5
    replace x1 := x1.mono e6
    replace x2 := x2.mono e3
    replace x2 := x2.mono e4
    replace x2 := x2.mono e5
    replace x2 := x2.mono e6
    replace x3 := x3.mono e4
    replace x3 := x3.mono e5
    replace x3 := x3.mono e6
    replace x4 := x4.mono e5
    replace x4 := x4.mono e6
    replace x5 := x5.mono e6
    refine q_asgL (el_lst (ea_cons (ev_xv (ev_var rfl) x0 o_NoCell (by decide) lk0) (ea_cons (ev_xv (ev_var rfl) x1 o_NoSpot (by decide) lk0) (ea_cons (ev_xv (ev_var rfl) x2 o_TooMany (by decide) lk0) (ea_cons (ev_xv (ev_var rfl) x3 o_NoEntry (by decide) lk0) (ea_cons (ev_xv (ev_var rfl) x4 o_NoRow (by decide) lk0) (ea_cons (ev_xv (ev_var rfl) x5 o_BadText (by decide) lk0) (ea_cons (ev_xv (ev_var rfl) x6 o_NoSuch (by decide) lk0) (ea_nil)))))))) (by show 7 ≤ 100000; decide)) fun t H7 ht e7 h7 => ?_
    have eA : Ex H H7 := ((((((e0.trans e1).trans e2).trans e3).trans e4).trans e5).trans e6).trans e7
    refine s_retLB (K := K) (xs := [.ref a0, .ref a1, .ref a2, .ref a3, .ref a4, .ref a5, .ref a6]) (b := true) (el_lst (ea_cons (ev_var (i := 1) rfl) (ea_cons (ev_var (i := 2) rfl) (ea_cons (ev_var (i := 3) rfl) (ea_cons (ev_var (i := 4) rfl) (ea_cons (ev_var (i := 5) rfl) (ea_cons (ev_var (i := 6) rfl) (ea_cons (ev_var (i := 7) rfl) (ea_nil)))))))) (by show 7 ≤ 100000; decide)) (fun l H8 e8 h8 => ?_) (fun p l H9 hp e9 h9 hl => ?_)
    · refine ev_opL (x := .ref t) (z := .bl true) (xs := List.replicate 7 y) (ev_var rfl) ?_ (fun q H9 hq e9 => ?_)
      · exact el_lcR1 (j := 9) (n := 7) (fun _ => true) (fun _ => y) (ea_cons ev_c ea_nil) (by decide) (fun _ => rfl) (fun _ _ _ _ => fun H1 _ Q q => q H1 (Ex.refl H1)) (fun _ _ _ _ _ => ev_var rfl)
      · refine rv_same (d := .list (List.replicate 7 d)) (.lst (sq_of (e9 _ _ (e8 _ _ h7))) ?_) (.lst (sq_of hq) (dpRep (dM (eA.trans (e8.trans e9))) 7)) hs
        exact dpRep (dM (eA.trans (e8.trans e9))) 7
    · refine kk p _ (fresh_back eA hp) (eA.trans e9) ⟨l, _, h9, hl, ?_⟩
      exact ⟨((x0.mono e7).mono e9).at, ((x1.mono e7).mono e9).at, ((x2.mono e7).mono e9).at, ((x3.mono e7).mono e9).at, ((x4.mono e7).mono e9).at, ((x5.mono e7).mono e9).at, ((x6.mono e7).mono e9).at, True.intro⟩

end
end K46
set_option Elab.async false
set_option linter.all false
set_option maxRecDepth 100000
set_option maxHeartbeats 8000000

namespace K46
open PySem PySem.Spec PyProof.Rows L2 He XH XV Evl
section
variable {P : Program} {w : World} {K : PySem.W.Frag} {mg : Str → Option Value} {base : Heap}
theorem ok_law_double {fd : FuncData} (F : FnP K "_law_double" "_law_double" s_law_double (ga K "_law_double") fd) (T : Txt K mg) (ci_NoContext : ∃ fd, FnOk P w K mg base CX0 1 (ma K (ga K "NoContext") "__init__") fd ["self", "function", "flags"] (spI2 K (ga K "NoContext") "function" "flags") ∧ Binds K fd ["self", "function", "flags"] []) (ci_NoWay : ∃ fd, FnOk P w K mg base CX0 1 (ma K (ga K "NoWay") "__init__") fd ["self", "way", "how"] (spI2 K (ga K "NoWay") "way" "how") ∧ Binds K fd ["self", "way", "how"] []) (ci_Unclean : ∃ fd, FnOk P w K mg base CX0 1 (ma K (ga K "Unclean") "__init__") fd ["self", "function", "thing"] (spI2 K (ga K "Unclean") "function" "thing") ∧ Binds K fd ["self", "function", "thing"] []) (ci_BadCode : ∃ fd, FnOk P w K mg base CX0 1 (ma K (ga K "BadCode") "__init__") fd ["self", "function", "number"] (spI2 K (ga K "BadCode") "function" "number") ∧ Binds K fd ["self", "function", "number"] []) : FnOk P w K mg base CX0 3 (ga K "_law_double") fd ["_law_thing", "_law_other"] (spDouble K) := by
  obtain ⟨fdi_NoContext, i_NoContext, bi_NoContext⟩ := ci_NoContext
  obtain ⟨fdi_NoWay, i_NoWay, bi_NoWay⟩ := ci_NoWay
  obtain ⟨fdi_Unclean, i_Unclean, bi_Unclean⟩ := ci_Unclean
  obtain ⟨fdi_BadCode, i_BadCode, bi_BadCode⟩ := ci_BadCode
  refine FunD.ok F sc_law_double (fun vs H Q E h => ?_) (fun cdv A outer s H vs Q E hr h => ?_)
  · obtain ⟨y, z, d, e, rfl, _⟩ := h
    rfl
  · obtain ⟨y, z, d, e, rfl, hd, he, hs, kk⟩ := h
    have o_NoContext := T.ow ("NoContext", ["function", "flags"]) (by decide +kernel)
    have g_NoContext := T.gl "NoContext" (by decide +kernel)
    have o_NoWay := T.ow ("NoWay", ["way", "how"]) (by decide +kernel)
    have g_NoWay := T.gl "NoWay" (by decide +kernel)
    have o_Unclean := T.ow ("Unclean", ["function", "thing"]) (by decide +kernel)
    have g_Unclean := T.gl "Unclean" (by decide +kernel)
    have o_BadCode := T.ow ("BadCode", ["function", "number"]) (by decide +kernel)
    have g_BadCode := T.gl "BadCode" (by decide +kernel)
    refine ⟨_, PSs.nox (pss_cons (ps_set (i := 2) sc_law_double.nd rfl (Or.inl rfl) (pe_mkv (o_NoContext).ox (o_NoContext).iC (o_NoContext).tI i_NoContext (hr.mono (by decide)) bi_NoContext (by rfl) g_NoContext (pa_cons (pv 0) (pa_cons (pv 1) pa_nil))))
      (pss_cons (ps_set (i := 3) sc_law_double.nd rfl (Or.inl rfl) (pe_mkv (o_NoWay).ox (o_NoWay).iC (o_NoWay).tI i_NoWay (hr.mono (by decide)) bi_NoWay (by rfl) g_NoWay (pa_cons (pv 1) (pa_cons (pv 0) pa_nil))))
      (pss_cons (ps_set (i := 4) sc_law_double.nd rfl (Or.inl rfl) (pe_mkv (o_Unclean).ox (o_Unclean).iC (o_Unclean).tI i_Unclean (hr.mono (by decide)) bi_Unclean (by rfl) g_Unclean (pa_cons (pv 0) (pa_cons (pv 1) pa_nil))))
      (pss_cons (ps_set (i := 5) sc_law_double.nd rfl (Or.inl rfl) (pe_mkv (o_BadCode).ox (o_BadCode).iC (o_BadCode).tI i_BadCode (hr.mono (by decide)) bi_BadCode (by rfl) g_BadCode (pa_cons (pv 1) (pa_cons (pv 0) pa_nil))))
      (pss_cons (ps_set (i := 6) sc_law_double.nd rfl (Or.inl rfl) (pe_lst (pa_cons (pe_xv (pv 2)) (pa_cons (pe_xv (pv 2)) (pa_cons (pe_xv (pv 3)) (pa_cons (pe_xv (pv 3)) (pa_cons (pe_xv (pv 4)) (pa_cons (pe_xv (pv 4)) (pa_cons (pe_xv (pv 5)) (pa_cons (pe_xv (pv 5)) pa_nil))))))))))
      (pss_one (ps_ret (pe_tup (pa_cons (pe_lst (pa_cons (pv 2) (pa_cons (pv 3) (pa_cons (pv 4) (pa_cons (pv 5) pa_nil))))) (pa_cons (pe_cmpR (op_eqD hr.units) (pv 6) (pe_lst (pa_cons (pv 0) (pa_cons (pv 1) (pa_cons (pv 1) (pa_cons (pv 0) (pa_cons (pv 0) (pa_cons (pv 1) (pa_cons (pv 1) (pa_cons (pv 0) pa_nil))))))))) (nomark _)) pa_nil)))))))))), ?_⟩
    have dM : ∀ {H1 : Hp}, Ex H H1 → Dp K H1 y d := fun e => dpM e d y hd
    have eM : ∀ {H1 : Hp}, Ex H H1 → Dp K H1 z e := fun e' => dpM e' e z he
    refine q_asgX (ex_mk2 o_NoContext (by decide) (by decide) (ea_cons (ev_var (i := 0) rfl) (ea_cons (ev_var (i := 1) rfl) ea_nil))) fun a0 H0 e0 x0 => ?_
    refine q_asgX (ex_mk2 o_NoWay (by decide) (by decide) (ea_cons (ev_var (i := 1) rfl) (ea_cons (ev_var (i := 0) rfl) ea_nil))) fun a1 H1 e1 x1 => ?_
    refine q_asgX (ex_mk2 o_Unclean (by decide) (by decide) (ea_cons (ev_var (i := 0) rfl) (ea_cons (ev_var (i := 1) rfl) ea_nil))) fun a2 H2 e2 x2 => ?_
    refine q_asgX (ex_mk2 o_BadCode (by decide) (by decide) (ea_cons (ev_var (i := 1) rfl) (ea_cons (ev_var (i := 0) rfl) ea_nil))) fun a3 H3 e3 x3 => ?_
    replace x0 := x0.mono e1
    replace x0 := x0.mono e2
    replace x0 := x0.mono e3
    replace x1 := x1.mono e2
    replace x1 := x1.mono e3
    replace x2 := x2.mono e3
    refine q_asgL (el_lst (ea_cons (ev_xv (ev_var (i := 2) rfl) x0 o_NoContext (by decide) (lk1 (by decide +kernel))) (ea_cons (ev_xv (ev_var (i := 2) rfl) x0 o_NoContext (by decide) lk0) (ea_cons (ev_xv (ev_var (i := 3) rfl) x1 o_NoWay (by decide) (lk1 (by decide +kernel))) (ea_cons (ev_xv (ev_var (i := 3) rfl) x1 o_NoWay (by decide) lk0) (ea_cons (ev_xv (ev_var (i := 4) rfl) x2 o_Unclean (by decide) (lk1 (by decide +kernel))) (ea_cons (ev_xv (ev_var (i := 4) rfl) x2 o_Unclean (by decide) lk0) (ea_cons (ev_xv (ev_var (i := 5) rfl) x3 o_BadCode (by decide) (lk1 (by decide +kernel))) (ea_cons (ev_xv (ev_var (i := 5) rfl) x3 o_BadCode (by decide) lk0) (ea_nil))))))))) (by show 8 ≤ 100000; decide)) fun t H7 ht e7 h7 => ?_
    have eA : Ex H H7 := (((e0.trans e1).trans e2).trans e3).trans e7
    refine s_retLB (K := K) (xs := [.ref a0, .ref a1, .ref a2, .ref a3]) (b := true) (el_lst (ea_cons (ev_var (i := 2) rfl) (ea_cons (ev_var (i := 3) rfl) (ea_cons (ev_var (i := 4) rfl) (ea_cons (ev_var (i := 5) rfl) (ea_nil))))) (by show 4 ≤ 100000; decide)) (fun l H8 e8 h8 => ?_) (fun p l H9 hp e9 h9 hl => ?_)
    · refine ev_opL (x := .ref t) (z := .bl true) (xs := [y, z, z, y, y, z, z, y]) (ev_var rfl) (el_lst (ea_cons (ev_var (i := 0) rfl) (ea_cons (ev_var (i := 1) rfl) (ea_cons (ev_var (i := 1) rfl) (ea_cons (ev_var (i := 0) rfl) (ea_cons (ev_var (i := 0) rfl) (ea_cons (ev_var (i := 1) rfl) (ea_cons (ev_var (i := 1) rfl) (ea_cons (ev_var (i := 0) rfl) (ea_nil))))))))) (by show 8 ≤ 100000; decide)) (fun q H9 hq e9 => ?_)
      have all : ∀ {H1 : Hp}, Ex H H1 → DpAll K H1 [y, z, z, y, y, z, z, y] [d, e, e, d, d, e, e, d] := fun k => .cons (dM k) (.cons (eM k) (.cons (eM k) (.cons (dM k) (.cons (dM k) (.cons (eM k) (.cons (eM k) (.cons (dM k) .nil)))))))
      exact rv_same (d := .list [d, e, e, d, d, e, e, d]) (.lst (sq_of (e9 _ _ (e8 _ _ h7))) (all (eA.trans (e8.trans e9)))) (.lst (sq_of hq) (all (eA.trans (e8.trans e9)))) hs
    · refine kk p _ (fresh_back eA hp) (eA.trans e9) ⟨l, _, h9, hl, ?_⟩
      exact ⟨((x0.mono e7).mono e9).at, ((x1.mono e7).mono e9).at, ((x2.mono e7).mono e9).at, ((x3.mono e7).mono e9).at, True.intro⟩

theorem el_cat {σ : L2.St} {H : Hp} {ta tb : TE} {p : Addr} {xs ys : List V} (ha : Ev ta σ H (.ref p)) (hx : H p = some (.lst xs)) (hb : EvL tb σ H ys) (hl : xs.length ≤ 400 ∧ ys.length ≤ 400) : EvL (tOp rCat ta tb) σ H (xs ++ ys) := fun H1 e Q q =>
  ha H1 e _ fun H2 e2 => hb H2 (e.trans e2) _ fun l H3 hl3 e3 h3 => ⟨p, l, xs, ys, rfl, rfl, ((e.trans e2).trans e3) _ _ hx, h3, fits (by omega), fun n hn => q n _ (fresh_back (e2.trans e3) hn) ((e2.trans e3).trans (Ex.new hn)) upd_same⟩
theorem ev_kind {σ : L2.St} {H : Hp} {ta : TE} {a : Addr} {x y : Str} (T : Txt K mg) (ha : Ev ta σ H (.ref a)) (hx : x ∈ kinds) (hy : y ∈ kinds) (h : ExAt H a (ga K x)) : Ev (tCB (rIsX K) (tCons ta (tCons (tC (.ref (ga K y))) tNil))) σ H (.bl (decide (x = y))) :=
  ev_cb (ea_cons ha (ea_cons ev_c ea_nil)) fun H1 e Q q => ⟨a, ga K x, _, _, _, rfl, h.mono e, T.ec x hx, .own _, T.kd x hx y hy, q H1 (Ex.refl H1)⟩

theorem ok_law_kinds {fd : FuncData} (F : FnP K "_law_kinds" "_law_kinds" s_law_kinds (ga K "_law_kinds") fd) (T : Txt K mg) : FnOk P w K mg base CX0 1 (ga K "_law_kinds") fd ["_law_e"] (spKinds K) := by
  refine FunD.ok F sc_law_kinds (fun vs H Q E h => ?_) (fun cdv A outer s H vs Q E hr h => ?_)
  · obtain ⟨a, x, rfl, _⟩ := h
    rfl
  · obtain ⟨a, x, rfl, hx, ha, kk⟩ := h
    have n_isinstance := T.fr "isinstance" (by decide +kernel)
    have g_NoCell := T.gl "NoCell" (by decide +kernel)
    have g_NoSpot := T.gl "NoSpot" (by decide +kernel)
    have g_TooMany := T.gl "TooMany" (by decide +kernel)
    have g_NoEntry := T.gl "NoEntry" (by decide +kernel)
    have g_NoRow := T.gl "NoRow" (by decide +kernel)
    have g_BadText := T.gl "BadText" (by decide +kernel)
    have g_NoSuch := T.gl "NoSuch" (by decide +kernel)
    have g_NoContext := T.gl "NoContext" (by decide +kernel)
    have g_NoWay := T.gl "NoWay" (by decide +kernel)
    have g_Unclean := T.gl "Unclean" (by decide +kernel)
    have g_BadCode := T.gl "BadCode" (by decide +kernel)
    have g_OtherShape := T.gl "OtherShape" (by decide +kernel)
    have g_BadPuzzle := T.gl "BadPuzzle" (by decide +kernel)
    have g_TooGreat := T.gl "TooGreat" (by decide +kernel)
    have g_Ended := T.gl "Ended" (by decide +kernel)
    have g_NothingToUndo := T.gl "NothingToUndo" (by decide +kernel)
    refine ⟨_, PSs.nox (pss_cons (ps_set (i := 1) sc_law_kinds.nd rfl (Or.inl rfl) (pe_lst (pa_cons (pe_callB call_isX (by rfl) n_isinstance (by decide +kernel) (pa_cons (pv 0) (pa_cons (pe_glob (v := .ref _) (by rfl) g_NoCell rfl) pa_nil))) (pa_cons (pe_callB call_isX (by rfl) n_isinstance (by decide +kernel) (pa_cons (pv 0) (pa_cons (pe_glob (v := .ref _) (by rfl) g_NoSpot rfl) pa_nil))) (pa_cons (pe_callB call_isX (by rfl) n_isinstance (by decide +kernel) (pa_cons (pv 0) (pa_cons (pe_glob (v := .ref _) (by rfl) g_TooMany rfl) pa_nil))) (pa_cons (pe_callB call_isX (by rfl) n_isinstance (by decide +kernel) (pa_cons (pv 0) (pa_cons (pe_glob (v := .ref _) (by rfl) g_NoEntry rfl) pa_nil))) pa_nil))))))
      (pss_cons (ps_set (i := 1) sc_law_kinds.nd rfl (Or.inl rfl) (pe_op op_cat (pv 1) (pe_lst (pa_cons (pe_callB call_isX (by rfl) n_isinstance (by decide +kernel) (pa_cons (pv 0) (pa_cons (pe_glob (v := .ref _) (by rfl) g_NoRow rfl) pa_nil))) (pa_cons (pe_callB call_isX (by rfl) n_isinstance (by decide +kernel) (pa_cons (pv 0) (pa_cons (pe_glob (v := .ref _) (by rfl) g_BadText rfl) pa_nil))) (pa_cons (pe_callB call_isX (by rfl) n_isinstance (by decide +kernel) (pa_cons (pv 0) (pa_cons (pe_glob (v := .ref _) (by rfl) g_NoSuch rfl) pa_nil))) (pa_cons (pe_callB call_isX (by rfl) n_isinstance (by decide +kernel) (pa_cons (pv 0) (pa_cons (pe_glob (v := .ref _) (by rfl) g_NoContext rfl) pa_nil))) pa_nil)))))))
      (pss_cons (ps_set (i := 1) sc_law_kinds.nd rfl (Or.inl rfl) (pe_op op_cat (pv 1) (pe_lst (pa_cons (pe_callB call_isX (by rfl) n_isinstance (by decide +kernel) (pa_cons (pv 0) (pa_cons (pe_glob (v := .ref _) (by rfl) g_NoWay rfl) pa_nil))) (pa_cons (pe_callB call_isX (by rfl) n_isinstance (by decide +kernel) (pa_cons (pv 0) (pa_cons (pe_glob (v := .ref _) (by rfl) g_Unclean rfl) pa_nil))) (pa_cons (pe_callB call_isX (by rfl) n_isinstance (by decide +kernel) (pa_cons (pv 0) (pa_cons (pe_glob (v := .ref _) (by rfl) g_BadCode rfl) pa_nil))) (pa_cons (pe_callB call_isX (by rfl) n_isinstance (by decide +kernel) (pa_cons (pv 0) (pa_cons (pe_glob (v := .ref _) (by rfl) g_OtherShape rfl) pa_nil))) pa_nil)))))))
      (pss_cons (ps_set (i := 1) sc_law_kinds.nd rfl (Or.inl rfl) (pe_op op_cat (pv 1) (pe_lst (pa_cons (pe_callB call_isX (by rfl) n_isinstance (by decide +kernel) (pa_cons (pv 0) (pa_cons (pe_glob (v := .ref _) (by rfl) g_BadPuzzle rfl) pa_nil))) (pa_cons (pe_callB call_isX (by rfl) n_isinstance (by decide +kernel) (pa_cons (pv 0) (pa_cons (pe_glob (v := .ref _) (by rfl) g_TooGreat rfl) pa_nil))) (pa_cons (pe_callB call_isX (by rfl) n_isinstance (by decide +kernel) (pa_cons (pv 0) (pa_cons (pe_glob (v := .ref _) (by rfl) g_Ended rfl) pa_nil))) pa_nil))))))
      (pss_one (ps_ret (pe_op op_cat (pv 1) (pe_lst (pa_cons (pe_callB call_isX (by rfl) n_isinstance (by decide +kernel) (pa_cons (pv 0) (pa_cons (pe_glob (v := .ref _) (by rfl) g_NothingToUndo rfl) pa_nil))) pa_nil))))))))), ?_⟩
    refine q_asgL (xs := [.bl (decide (x = "NoCell")), .bl (decide (x = "NoSpot")), .bl (decide (x = "TooMany")), .bl (decide (x = "NoEntry"))]) (el_lst (ea_cons (ev_kind T (ev_var (i := 0) rfl) hx (by decide +kernel) ha) (ea_cons (ev_kind T (ev_var (i := 0) rfl) hx (by decide +kernel) ha) (ea_cons (ev_kind T (ev_var (i := 0) rfl) hx (by decide +kernel) ha) (ea_cons (ev_kind T (ev_var (i := 0) rfl) hx (by decide +kernel) ha) (ea_nil))))) (by show 4 ≤ 100000; decide)) fun l0 H0 _ e0 h0 => ?_
    replace ha := ha.mono e0
    refine q_asgL (el_cat (ev_var (i := 1) rfl) h0 (el_lst (ea_cons (ev_kind T (ev_var (i := 0) rfl) hx (by decide +kernel) ha) (ea_cons (ev_kind T (ev_var (i := 0) rfl) hx (by decide +kernel) ha) (ea_cons (ev_kind T (ev_var (i := 0) rfl) hx (by decide +kernel) ha) (ea_cons (ev_kind T (ev_var (i := 0) rfl) hx (by decide +kernel) ha) (ea_nil))))) (by show 4 ≤ 100000; decide)) ⟨(show 4 ≤ 400 by decide), (show 4 ≤ 400 by decide)⟩) fun l1 H1 _ e1 h1 => ?_
    replace ha := ha.mono e1
    refine q_asgL (el_cat (ev_var (i := 1) rfl) h1 (el_lst (ea_cons (ev_kind T (ev_var (i := 0) rfl) hx (by decide +kernel) ha) (ea_cons (ev_kind T (ev_var (i := 0) rfl) hx (by decide +kernel) ha) (ea_cons (ev_kind T (ev_var (i := 0) rfl) hx (by decide +kernel) ha) (ea_cons (ev_kind T (ev_var (i := 0) rfl) hx (by decide +kernel) ha) (ea_nil))))) (by show 4 ≤ 100000; decide)) ⟨(show 8 ≤ 400 by decide), (show 4 ≤ 400 by decide)⟩) fun l2 H2 _ e2 h2 => ?_
    replace ha := ha.mono e2
    refine q_asgL (el_cat (ev_var (i := 1) rfl) h2 (el_lst (ea_cons (ev_kind T (ev_var (i := 0) rfl) hx (by decide +kernel) ha) (ea_cons (ev_kind T (ev_var (i := 0) rfl) hx (by decide +kernel) ha) (ea_cons (ev_kind T (ev_var (i := 0) rfl) hx (by decide +kernel) ha) (ea_nil)))) (by show 3 ≤ 100000; decide)) ⟨(show 12 ≤ 400 by decide), (show 3 ≤ 400 by decide)⟩) fun l3 H3 _ e3 h3 => ?_
    replace ha := ha.mono e3
    refine s_retL (el_cat (ev_var (i := 1) rfl) h3 (el_lst (ea_cons (ev_kind T (ev_var (i := 0) rfl) hx (by decide +kernel) ha) (ea_nil)) (by show 1 ≤ 100000; decide)) ⟨(show 15 ≤ 400 by decide), (show 1 ≤ 400 by decide)⟩) fun l4 H4 n4 e4 h4 => ?_
    exact kk l4 H4 (fresh_back (((e0.trans e1).trans e2).trans e3) n4) ((((e0.trans e1).trans e2).trans e3).trans e4) h4

end
end K46
set_option Elab.async false
set_option linter.all false
set_option maxRecDepth 100000
set_option maxHeartbeats 8000000

namespace K46
open PySem PySem.Spec PyProof.Rows L2 He XH XV Evl
section
variable {P : Program} {w : World} {K : PySem.W.Frag} {mg : Str → Option Value} {base : Heap}

def six (N : Int) : List PyData := [.str "f", .int N, .none, .tuple [.tuple [.int 0, .int 1], .int 2], .tuple [], .str ""]
theorem six_seven {N : Int} {d : PyData} (h : d ∈ six N) : SeqAt.shaped (.list (List.replicate 7 d)) = true := by
  unfold six at h
  simp only [List.mem_cons, List.not_mem_nil, or_false] at h
  rcases h with rfl | rfl | rfl | rfl | rfl | rfl <;> kernel_rfl
theorem six_eight {N : Int} {d e : PyData} (h : d ∈ six N) (h2 : e ∈ six N) : SeqAt.shaped (.list [d, e, e, d, d, e, e, d]) = true := by
  unfold six at h h2
  simp only [List.mem_cons, List.not_mem_nil, or_false] at h h2
  rcases h with rfl | rfl | rfl | rfl | rfl | rfl <;> rcases h2 with rfl | rfl | rfl | rfl | rfl | rfl <;> kernel_rfl
theorem dpGet {H : Hp} : ∀ {vs : List V} {ds : List PyData} {i : Nat} {v : V}, DpAll K H vs ds → vs[i]? = some v → ∃ d, Dp K H v d ∧ d ∈ ds
  | [], _, _, _, _, h => by simp at h
  | u :: vs, _, 0, v, .cons h1 _, h => by
    have z : u = v := Option.some.inj h
    subst z
    exact ⟨_, h1, List.mem_cons_self ..⟩
  | u :: vs, _, i + 1, v, .cons _ h2, h => by
    obtain ⟨d, e2, e3⟩ := dpGet (i := i) (v := v) h2 h
    exact ⟨d, e2, List.mem_cons_of_mem _ e3⟩
def sixV (N : Int) (t2 t3 : Addr) : List V := [.str "f", .int N, .non, .ref t2, .ref t3, .str ""]
theorem six_of {H : Hp} {N : Int} {t1 t2 t3 : Addr} (f1 : H t1 = some (.tup [.int 0, .int 1])) (f2 : H t2 = some (.tup [.ref t1, .int 2])) (f3 : H t3 = some (.tup [])) : DpAll K H (sixV N t2 t3) (six N) :=
  .cons (.str _) (.cons (.int _) (.cons .non (.cons (.tup (st_of f2) (.cons (.tup (st_of f1) (.cons (.int _) (.cons (.int _) .nil))) (.cons (.int _) .nil))) (.cons (.tup (st_of f3) .nil) (.cons (.str _) .nil)))))
theorem draw6 {N r : Int} {t2 t3 : Addr} (h : 0 ≤ r ∧ r < 6) : ∃ (i : Nat) (y : V), (sixV N t2 t3)[i]? = some y ∧ atI (sixV N t2 t3) r = some y := by
  have hl : r.toNat < (sixV N t2 t3).length := by
    show r.toNat < 6
    omega
  have e : ((r.toNat : Nat) : Int) = r := by omega
  refine ⟨r.toNat, _, List.getElem?_eq_getElem hl, ?_⟩
  have z := atI_nat (xs := sixV N t2 t3) (j := r.toNat) (List.getElem?_eq_getElem hl)
  rw [e] at z
  exact z
def groups : List (List Str) := [singles, doubles, bares]
def firsts (i : Nat) : List Str := (groups.take i).flatten
theorem firsts_more {i : Nat} {x : List Str} (h : groups[i]? = some x) : firsts (i + 1) = firsts i ++ x := by
  unfold firsts
  rw [List.take_add_one, h, List.flatten_append]
  simp
theorem firsts_len : ∀ (i : Nat) (x : List Str), groups[i]? = some x → (firsts i).length + x.length ≤ 1000
  | 0, x, h => by
    cases (Option.some.inj h : singles = x)
    decide +kernel
  | 1, x, h => by
    cases (Option.some.inj h : doubles = x)
    decide +kernel
  | 2, x, h => by
    cases (Option.some.inj h : bares = x)
    decide +kernel
  | j + 3, x, h => absurd h (by simp [groups])
theorem firsts_all : firsts 3 = kinds := by decide +kernel
theorem bools_all : ∀ k : Fin 16, (kinds[k.1]?).map (fun x => kinds.map fun y => decide (x = y)) = some ((List.range 16).map (fun j : Nat => decide ((j : Int) = (k.1 : Int)))) := by decide +kernel
theorem bools_are (k : Fin 16) (x : Str) (h : kinds[k.1]? = some x) : kinds.map (fun y => decide (x = y)) = (List.range 16).map (fun j : Nat => decide ((j : Int) = (k.1 : Int))) := by
  have z := bools_all k
  rw [h] at z
  exact Option.some.inj z
theorem dp_bools {H : Hp} : ∀ bs : List Bool, DpAll K H (bs.map V.bl) (bs.map PyData.bool)
  | [] => .nil
  | b :: bs => .cons (.bl b) (dp_bools bs)
theorem bools_shaped : ∀ k : Fin 16, SeqAt.shaped (.list (((List.range 16).map (fun j : Nat => decide ((j : Int) = (k.1 : Int)))).map PyData.bool)) = true := by decide +kernel
def spLaw (K : PySem.W.Frag) : Sp := fun vs H Q _ => ∃ (a : Addr) (ns : List Int), vs = [.ref a] ∧ SqL K H a (ns.map V.int) ∧ ns.length ≤ 63 ∧ ∀ H', Q (.bl true) H'
theorem atI_two {r : Int} (h : 0 ≤ r ∧ r < 2) (u v : Int) : ∃ z, atI [V.int u, V.int v] r = some (.int z) := by
  have e : r = 0 ∨ r = 1 := by omega
  rcases e with rfl | rfl
  · exact ⟨u, atI_nat (j := 0) rfl⟩
  · exact ⟨v, atI_nat (j := 1) rfl⟩
theorem ex_lst {H H' : Hp} {p : Addr} {o : HO} (e : Ex H H') (h : H p = none) : Ex H (upd H' p o) := Ex.mut e h

theorem ok_law {fd : FuncData} (F : FnP K "law" "law" s_law (ga K "law") fd) (T : Txt K mg) (c_law_state : Cl P w K mg base 1 (ga K "_law_state") ["_law_cell_here"] spState) (c_law_cell : Cl P w K mg base 1 (ga K "_law_cell") ["_law_script", "_law_at"] (spCell K)) (c_law_draw : Cl P w K mg base 1 (ga K "_law_draw") ["_law_state_here", "_law_many"] spDraw) (c_law_single : Cl P w K mg base 3 (ga K "_law_single") ["_law_thing"] (spSingle K)) (c_law_double : Cl P w K mg base 3 (ga K "_law_double") ["_law_thing", "_law_other"] (spDouble K)) (c_law_kinds : Cl P w K mg base 1 (ga K "_law_kinds") ["_law_e"] (spKinds K)) : FnOk P w K mg base CX0 4 (ga K "law") fd ["_law_script"] (spLaw K) := by
  obtain ⟨fd_law_state, G_law_state, b_law_state, kp_law_state⟩ := c_law_state
  obtain ⟨fd_law_cell, G_law_cell, b_law_cell, kp_law_cell⟩ := c_law_cell
  obtain ⟨fd_law_draw, G_law_draw, b_law_draw, kp_law_draw⟩ := c_law_draw
  obtain ⟨fd_law_single, G_law_single, b_law_single, kp_law_single⟩ := c_law_single
  obtain ⟨fd_law_double, G_law_double, b_law_double, kp_law_double⟩ := c_law_double
  obtain ⟨fd_law_kinds, G_law_kinds, b_law_kinds, kp_law_kinds⟩ := c_law_kinds
  refine FunD.ok F sc_law (fun vs H Q E h => ?_) (fun cdv A outer s H vs Q E hr h => ?_)
  · obtain ⟨a, ns, rfl, _⟩ := h
    rfl
  · obtain ⟨a, ns, rfl, hS, hl, kk⟩ := h
    have n_range := T.fr "range" (by decide +kernel)
    have n_max := T.fr "max" (by decide +kernel)
    have n_min := T.fr "min" (by decide +kernel)
    have n_len := T.fr "len" (by decide +kernel)
    have g_law_state := T.gl "_law_state" (by decide +kernel)
    have g_law_cell := T.gl "_law_cell" (by decide +kernel)
    have g_law_draw := T.gl "_law_draw" (by decide +kernel)
    have r_OtherShape := T.br "OtherShape" (by decide +kernel)
    have g_OtherShape := T.gl "OtherShape" (by decide +kernel)
    have r_BadPuzzle := T.br "BadPuzzle" (by decide +kernel)
    have g_BadPuzzle := T.gl "BadPuzzle" (by decide +kernel)
    have r_TooGreat := T.br "TooGreat" (by decide +kernel)
    have g_TooGreat := T.gl "TooGreat" (by decide +kernel)
    have r_Ended := T.br "Ended" (by decide +kernel)
    have g_Ended := T.gl "Ended" (by decide +kernel)
    have r_NothingToUndo := T.br "NothingToUndo" (by decide +kernel)
    have g_NothingToUndo := T.gl "NothingToUndo" (by decide +kernel)
    have g_law_single := T.gl "_law_single" (by decide +kernel)
    have g_law_double := T.gl "_law_double" (by decide +kernel)
    have g_law_kinds := T.gl "_law_kinds" (by decide +kernel)
    have n_isinstance := T.fr "isinstance" (by decide +kernel)
    have g_TryError := T.gl "TryError" (by decide +kernel)
    have n_ValueError := T.fr "ValueError" (by decide +kernel)
    refine ⟨_, PSs.nox (pss_cons (ps_for PassesOwn.never rfl (pi_range1 (by rfl) n_range (pa_cons (pe_callB (call_max2 rfl) (by rfl) n_max (by decide +kernel) (pa_cons pe_int (pa_cons (pe_callB (call_min2 rfl) (by rfl) n_min (by decide +kernel) (pa_cons pe_int (pa_cons (pe_callB call_len_seq (by rfl) n_len (by decide +kernel) (pa_cons (pv 0) pa_nil)) pa_nil))) pa_nil))) pa_nil)) (pg_name (i := 1) sc_law.nd rfl (Or.inl rfl))
      (pss_cons (ps_set (i := 2) sc_law.nd rfl (Or.inl rfl) (pe_call G_law_state (hr.mono (by decide)) (by rfl) g_law_state kp_law_state b_law_state .nil pass0 (pa_cons (pe_call G_law_cell (hr.mono (by decide)) (by rfl) g_law_cell kp_law_cell b_law_cell .nil pass0 (pa_cons (pv 0) (pa_cons (pv 1) pa_nil))) pa_nil)))
      (pss_cons (ps_set (i := 3) sc_law.nd rfl (Or.inl rfl) (pe_op op_mul (pe_op op_sub (pe_call G_law_draw (hr.mono (by decide)) (by rfl) g_law_draw kp_law_draw b_law_draw .nil pass0 (pa_cons (pv 2) (pa_cons pe_int pa_nil))) pe_int) (pe_ix ix_list (pe_lst (pa_cons pe_int (pa_cons (pe_op op_pow pe_int pe_int) pa_nil))) (pe_call G_law_draw (hr.mono (by decide)) (by rfl) g_law_draw kp_law_draw b_law_draw .nil pass0 (pa_cons (pv 2) (pa_cons pe_int pa_nil))) (fun _ _ => rfl))))
      (pss_cons (ps_set (i := 4) sc_law.nd rfl (Or.inl rfl) (pe_lst (pa_cons pe_str (pa_cons (pv 3) (pa_cons pe_non (pa_cons (pe_tup (pa_cons (pe_tup (pa_cons pe_int (pa_cons pe_int pa_nil))) (pa_cons pe_int pa_nil))) (pa_cons (pe_tup pa_nil) (pa_cons pe_str pa_nil))))))))
      (pss_cons (ps_set (i := 5) sc_law.nd rfl (Or.inl rfl) (pe_ix ix_list (pv 4) (pe_call G_law_draw (hr.mono (by decide)) (by rfl) g_law_draw kp_law_draw b_law_draw .nil pass0 (pa_cons (pv 2) (pa_cons pe_int pa_nil))) (fun _ _ => rfl)))
      (pss_cons (ps_set (i := 6) sc_law.nd rfl (Or.inl rfl) (pe_ix ix_list (pv 4) (pe_call G_law_draw (hr.mono (by decide)) (by rfl) g_law_draw kp_law_draw b_law_draw .nil pass0 (pa_cons (pv 2) (pa_cons pe_int pa_nil))) (fun _ _ => rfl)))
      (pss_cons (ps_set (i := 7) sc_law.nd rfl (Or.inl rfl) (pe_lst (pa_cons (pe_mk0 PySem.F.excBase_ValueError (r_OtherShape).ex (r_OtherShape).kC (by rfl) g_OtherShape) (pa_cons (pe_mk0 PySem.F.excBase_ValueError (r_BadPuzzle).ex (r_BadPuzzle).kC (by rfl) g_BadPuzzle) (pa_cons (pe_mk0 PySem.F.excBase_ValueError (r_TooGreat).ex (r_TooGreat).kC (by rfl) g_TooGreat) (pa_cons (pe_mk0 PySem.F.excBase_ValueError (r_Ended).ex (r_Ended).kC (by rfl) g_Ended) (pa_cons (pe_mk0 PySem.F.excBase_ValueError (r_NothingToUndo).ex (r_NothingToUndo).kC (by rfl) g_NothingToUndo) pa_nil)))))))
      (pss_cons (ps_set (i := 8) sc_law.nd rfl (Or.inl rfl) (pe_lst pa_nil))
      (pss_cons (ps_for PassesOwn.never rfl (pi_list (pe_lst (pa_cons (pe_call G_law_single (hr.mono (by decide)) (by rfl) g_law_single kp_law_single b_law_single .nil pass0 (pa_cons (pv 5) pa_nil)) (pa_cons (pe_call G_law_double (hr.mono (by decide)) (by rfl) g_law_double kp_law_double b_law_double .nil pass0 (pa_cons (pv 5) (pa_cons (pv 6) pa_nil))) (pa_cons (pe_tup (pa_cons (pv 7) (pa_cons pe_bl pa_nil))) pa_nil))))) (pg_tup rfl (pgs_cons (pg_name (i := 9) sc_law.nd rfl (Or.inl rfl)) (pgs_cons (pg_name (i := 10) sc_law.nd rfl (Or.inl rfl)) pgs_nil)))
      (pss_cons (ps_set (i := 8) sc_law.nd rfl (Or.inl rfl) (pe_op op_cat (pv 8) (pv 9)))
      (pss_one (ps_if (pt_not (pt_val (pv 10)))
      (pss_one (ps_ret pe_bl))
      pss_nil))))
      (pss_one (ps_for PassesOwn.never rfl (pi_range1 (by rfl) n_range (pa_cons (pe_callB call_len_seq (by rfl) n_len (by decide +kernel) (pa_cons (pv 8) pa_nil)) pa_nil)) (pg_name (i := 11) sc_law.nd rfl (Or.inr rfl))
      (pss_cons (ps_if (pt_cmpR (op_neD hr.units) (pe_call G_law_kinds (hr.mono (by decide)) (by rfl) g_law_kinds kp_law_kinds b_law_kinds .nil pass0 (pa_cons (pe_ix ix_list (pv 8) (pv 11) (fun _ _ => rfl)) pa_nil)) (pe_lc (own := [("_law_j", 12)]) (g := gName 12) (by rfl) sc_law.nd (pi_range1 (by rfl) n_range (pa_cons pe_int pa_nil)) (blkOk_by (own := [("_law_j", 12)]) (N := ["_law_script", "_law_at", "_law_state_here", "_law_number", "_law_things", "_law_thing", "_law_other", "_law_bare", "_law_errors", "_law_some", "_law_right", "_law_k", "_law_j"]) (sc := defScope s_law) (by decide +kernel)) (fun _ _ _ _ _ => (pg_name (i := 12) sc_law.nd rfl (Or.inl rfl))) (fun _ _ _ _ _ => pts_nil) (fun _ _ _ _ _ => (pe_cmpR op_eq (pv 12) (pv 11) (nomark _)))) (nomark _))
      (pss_one (ps_ret pe_bl))
      pss_nil)
      (pss_one (ps_if (PW.pt (pw_or (pt_not (pt_val (pe_callB call_isX (by rfl) n_isinstance (by decide +kernel) (pa_cons (pe_ix ix_list (pv 8) (pv 11) (fun _ _ => rfl)) (pa_cons (pe_glob (v := .ref _) (by rfl) g_TryError rfl) pa_nil))))) (pw_or1 (pt_not (pt_val (pe_callB call_isX (by rfl) n_isinstance (by decide +kernel) (pa_cons (pe_ix ix_list (pv 8) (pv 11) (fun _ _ => rfl)) (pa_cons (pe_bltn (v := .ty "ValueError") (by rfl) n_ValueError (by decide +kernel) rfl) pa_nil))))))))
      (pss_one (ps_ret pe_bl))
      pss_nil))))))))))))))
      (pss_one (ps_ret pe_bl))), ?_⟩
    have len1 : Ev (tCB (rLenS K) (tCons (tVar 0) tNil)) (start ["_law_script", "_law_at", "_law_state_here", "_law_number", "_law_things", "_law_thing", "_law_other", "_law_bare", "_law_errors", "_law_some", "_law_right", "_law_k", "_law_j"] [.ref a]) H (.int ((ns.map V.int).length : Int)) := ev_len (ev_var rfl) hS
    refine q_forR1 (n := if (if ((ns.map V.int).length : Int) < 3 then ((ns.map V.int).length : Int) else 3) > 1 then (if ((ns.map V.int).length : Int) < 3 then ((ns.map V.int).length : Int) else 3) else 1)
      (ea_cons (ev_cb (ea_cons ev_c (ea_cons (ev_cb (ea_cons ev_c (ea_cons len1 ea_nil)) (fun H1 _ Q q => ⟨3, _, rfl, q H1 (Ex.refl H1)⟩)) ea_nil)) (fun H1 _ Q q => ⟨1, _, rfl, q H1 (Ex.refl H1)⟩)) ea_nil) (by split <;> split at * <;> omega)
      (fun i σ' H' => Ex H H' ∧ ∃ v1 v2 v3 v4 v5 v6 v7 v8 v9 v10 v11 v12, σ' = [some (.ref a), v1, v2, v3, v4, v5, v6, v7, v8, v9, v10, v11, v12])
      (fun H1 e1 => ⟨e1, none, none, none, none, none, none, none, none, none, none, none, none, rfl⟩) (fun i σ' H' hi hP => ?_) (fun σ' H' _ => kk _)
    obtain ⟨e0, v1, v2, v3, v4, v5, v6, v7, v8, v9, v10, v11, v12, rfl⟩ := hP
    -- the state
    refine ⟨.ref a, rfl, .int i, rfl, a, ns, i, rfl, ex_l e0 hS, fun n => ⟨n, rfl, fun p b hp => ?_⟩⟩
    -- the number
    refine ⟨.ref p, rfl, p, 2001, n, b, 0, rfl, ⟨by decide, by decide⟩, ⟨by decide, by decide⟩, upd_same, fun r1 a1 hr1 => ?_⟩
    refine ⟨r1, 1000, rfl, rfl, 10, 20, rfl, rfl, ⟨by decide, by decide, by decide⟩, fits (show 2 ≤ 1000 by decide), fun l hl => ?_⟩
    rw [upd_upd] at hl ⊢
    have npl : p ≠ l := ne_of_none upd_same hl
    refine ⟨.ref p, rfl, p, 2, a1, b, 1, rfl, ⟨by decide, by decide⟩, ⟨by decide, by decide⟩, (upd_ne npl).trans upd_same, fun r2 a2 hr2 => ?_⟩
    obtain ⟨z2, hz2⟩ := atI_two hr2 1 (10 ^ (20 : Int).toNat)
    refine ⟨l, _, r2, .int z2, rfl, rfl, SqL.of ((upd_ne npl.symm).trans upd_same), hz2, _, z2, rfl, rfl, .inl ⟨by omega, by omega⟩, ?_⟩
    have eL : Ex H' (upd (upd (upd H' p (.lst [.int a1, .int b, .int (0 + 1)])) l (.lst [.int 1, .int (10 ^ (20 : Int).toNat)])) p (.lst [.int a2, .int b, .int (1 + 1)])) :=
      ex_lst (ex_lst (ex_lst (Ex.refl _) hp) (upd_none hl npl.symm)) hp
    generalize hH2 : upd (upd (upd H' p (.lst [.int a1, .int b, .int (0 + 1)])) l (.lst [.int 1, .int (10 ^ (20 : Int).toNat)])) p (.lst [.int a2, .int b, .int (1 + 1)]) = H2 at eL
    have hp2 : H2 p = some (.lst [.int a2, .int b, .int 2]) := by
      rw [← hH2]
      exact upd_same
    -- the things
    refine ⟨_, rfl, fits (show 2 ≤ 1000 by decide), fun t1 n1 => ⟨fits (show 2 ≤ 1000 by decide), fun t2 n2 => ⟨fits (show 0 ≤ 1000 by decide), fun t3 n3 => ⟨fits (show 6 ≤ 1000 by decide), fun th n4 => ?_⟩⟩⟩⟩
    generalize hH3 : upd (upd (upd H2 t1 (.tup [.int 0, .int 1])) t2 (.tup [.ref t1, .int 2])) t3 (.tup []) = H3 at n4
    have e3 : Ex H2 H3 := by
      rw [← hH3]
      exact ((Ex.new n1).trans (Ex.new n2)).trans (Ex.new n3)
    have f1 : H3 t1 = some (.tup [.int 0, .int 1]) := by
      rw [← hH3]
      exact (Ex.new n3) _ _ ((Ex.new n2) _ _ upd_same)
    have f2 : H3 t2 = some (.tup [.ref t1, .int 2]) := by
      rw [← hH3]
      exact (Ex.new n3) _ _ upd_same
    have f3 : H3 t3 = some (.tup []) := by
      rw [← hH3]
      exact upd_same
    have k4 : Ex H3 (upd H3 th (.lst (sixV ((r1 - 1000) * z2) t2 t3))) := Ex.new n4
    have e4 : Ex H' (upd H3 th (.lst (sixV ((r1 - 1000) * z2) t2 t3))) := (eL.trans e3).trans k4
    have hp4 := k4 _ _ (e3 _ _ hp2)
    have hth : upd H3 th (.lst (sixV ((r1 - 1000) * z2) t2 t3)) th = some (.lst (sixV ((r1 - 1000) * z2) t2 t3)) := upd_same
    replace f1 := k4 _ _ f1
    replace f2 := k4 _ _ f2
    replace f3 := k4 _ _ f3
    show gName 4 _ _ (upd H3 th (.lst (sixV ((r1 - 1000) * z2) t2 t3))) _
    generalize upd H3 th (.lst (sixV ((r1 - 1000) * z2) t2 t3)) = H4 at e4 hp4 hth f1 f2 f3 ⊢
    have npt : p ≠ th := ne_of hp4 hth (by intro z; cases z)
    have np1 : p ≠ t1 := ne_of hp4 f1 (by intro z; cases z)
    have np2 : p ≠ t2 := ne_of hp4 f2 (by intro z; cases z)
    have np3 : p ≠ t3 := ne_of hp4 f3 (by intro z; cases z)
    -- thing, other
    refine ⟨.ref th, rfl, .ref p, rfl, p, 6, a2, b, 2, rfl, ⟨by decide, by decide⟩, ⟨by decide, by decide⟩, hp4, fun r3 a3 hr3 => ?_⟩
    obtain ⟨i3, y, gy, ay⟩ := draw6 (N := (r1 - 1000) * z2) (t2 := t2) (t3 := t3) hr3
    refine ⟨th, _, r3, y, rfl, rfl, SqL.of ((upd_ne npt.symm).trans hth), ay, ?_⟩
    refine ⟨.ref th, rfl, .ref p, rfl, p, 6, a3, b, 3, rfl, ⟨by decide, by decide⟩, ⟨by decide, by decide⟩, upd_same, fun r4 a4 hr4 => ?_⟩
    obtain ⟨i4, z, gz, az⟩ := draw6 (N := (r1 - 1000) * z2) (t2 := t2) (t3 := t3) hr4
    rw [upd_upd]
    refine ⟨th, _, r4, z, rfl, rfl, SqL.of ((upd_ne npt.symm).trans hth), az, ?_⟩
    have all : DpAll K (upd H4 p (.lst [.int a4, .int b, .int (3 + 1)])) (sixV ((r1 - 1000) * z2) t2 t3) (six ((r1 - 1000) * z2)) := six_of ((upd_ne np1.symm).trans f1) ((upd_ne np2.symm).trans f2) ((upd_ne np3.symm).trans f3)
    obtain ⟨d, hy, dy⟩ := dpGet all gy
    obtain ⟨e, hz, dz⟩ := dpGet all gz
    have e5 : Ex H' (upd H4 p (.lst [.int a4, .int b, .int (3 + 1)])) := ex_lst e4 hp
    generalize upd H4 p (.lst [.int a4, .int b, .int (3 + 1)]) = H5 at e5 hy hz ⊢
    clear all
    -- bare errors, errors = []
    refine fun b1 m1 b2 m2 b3 m3 b4 m4 b5 m5 => ⟨fits (show 5 ≤ 1000 by decide), fun lb m6 => ⟨fits (show 0 ≤ 1000 by decide), fun le m7 => ?_⟩⟩
    generalize hH6 : upd (upd (upd (upd (upd (upd (upd H5 b1 (exo b1 (ga K "OtherShape") none)) b2 (exo b2 (ga K "BadPuzzle") none)) b3 (exo b3 (ga K "TooGreat") none)) b4 (exo b4 (ga K "Ended") none)) b5 (exo b5 (ga K "NothingToUndo") none)) lb (.lst [.ref b1, .ref b2, .ref b3, .ref b4, .ref b5])) le (.lst []) = H6
    have k1 : Ex H5 (upd H5 b1 (exo b1 (ga K "OtherShape") none)) := Ex.new m1
    have k2 := Ex.new (o := exo b2 (ga K "BadPuzzle") none) m2
    have k3 := Ex.new (o := exo b3 (ga K "TooGreat") none) m3
    have k4' := Ex.new (o := exo b4 (ga K "Ended") none) m4
    have k5 := Ex.new (o := exo b5 (ga K "NothingToUndo") none) m5
    have k6 := Ex.new (o := .lst [.ref b1, .ref b2, .ref b3, .ref b4, .ref b5]) m6
    have k7 := Ex.new (o := .lst []) m7
    have kA := ((k4'.trans k5).trans k6).trans k7
    have e6 : Ex H5 H6 := by
      rw [← hH6]
      exact ((k1.trans k2).trans k3).trans kA
    have hle : H6 le = some (.lst []) := by
      rw [← hH6]
      exact upd_same
    have nle : H' le = none := by
      have z : Ex H' _ := ((((((e5.trans k1).trans k2).trans k3).trans k4').trans k5).trans k6)
      exact fresh_back z m7
    have n5 : H5 le = none := fresh_back (((((k1.trans k2).trans k3).trans k4').trans k5).trans k6) m7
    have hlb : H6 lb = some (.lst [.ref b1, .ref b2, .ref b3, .ref b4, .ref b5]) := by
      rw [← hH6]
      exact k7 _ _ upd_same
    have bx : AllX K H6 [.ref b1, .ref b2, .ref b3, .ref b4, .ref b5] bares := by
      rw [← hH6]
      exact ⟨.inr (kA _ _ (k3 _ _ (k2 _ _ upd_same))), .inr (kA _ _ (k3 _ _ upd_same)), .inr (kA _ _ upd_same), .inr ((k6.trans k7) _ _ (k5 _ _ upd_same)), .inr ((k6.trans k7) _ _ upd_same), True.intro⟩
    replace hy := dpM e6 d y hy
    replace hz := dpM e6 e z hz
    have e6' := e5.trans e6
    clear k1 k2 k3 k4' k5 k6 k7 kA
    clear hH6
    -- for some, right in [..]
    refine ⟨y, rfl, y, d, rfl, hy, six_seven dy, fun p1 H7 q1 e7 pa1 => ?_⟩
    refine ⟨y, rfl, z, rfl, y, z, d, e, rfl, dpM e7 d y hy, dpM e7 e z hz, six_eight dy dz, fun p2 H8 q2 e8 pa2 => ?_⟩
    refine ⟨.ref lb, rfl, fits (show 2 ≤ 1000 by decide), fun p3 q3 => ⟨fits (show 3 ≤ 1000 by decide), fun lp q4 => ?_⟩⟩
    have e9 : Ex H8 (upd (upd H8 p3 (.tup [.ref lb, .bl true])) lp (.lst [.ref p1, .ref p2, .ref p3])) := (Ex.new q3).trans (Ex.new q4)
    have pa3 : PairAt K (upd (upd H8 p3 (.tup [.ref lb, .bl true])) lp (.lst [.ref p1, .ref p2, .ref p3])) p3 bares :=
      ⟨lb, _, (Ex.new q4) _ _ upd_same, e9 _ _ (e8 _ _ (e7 _ _ hlb)), bx.mono ((e7.trans e8).trans e9)⟩
    have hlp : upd (upd H8 p3 (.tup [.ref lb, .bl true])) lp (.lst [.ref p1, .ref p2, .ref p3]) lp = some (.lst [.ref p1, .ref p2, .ref p3]) := upd_same
    replace pa1 := (pa1.mono e8).mono e9
    replace pa2 := pa2.mono e9
    have hle9 := e9 _ _ (e8 _ _ (e7 _ _ hle))
    have eA : Ex H' _ := ((e6'.trans e7).trans e8).trans e9
    generalize upd (upd H8 p3 (.tup [.ref lb, .bl true])) lp (.lst [.ref p1, .ref p2, .ref p3]) = H9 at e9 pa1 pa2 pa3 hlp hle9 eA ⊢
    refine ⟨lp, rfl, ⟨_, sq_of hlp⟩, for_list (K := K) (a := lp) (xs := [.ref p1, .ref p2, .ref p3]) (fun i3 σ3 H3' => Ex H9 H3' ∧ ∃ el vs w9 w10, H3' el = some (.lst vs) ∧ AllX K H3' vs (firsts i3) ∧
      σ3 = [some (.ref a), some (.int i), some (.ref p), some (.int ((r1 - 1000) * z2)), some (.ref th), some y, some z, some (.ref lb), some (.ref el), w9, w10, v11, v12])
      ⟨Ex.refl _, le, [], v9, v10, hle9, True.intro, rfl⟩ (fun i3 σ3 H3' _ hp3 => ex_l hp3.1 (sq_of hlp)) (fun i3 x σ3 H3' hx hP3 => ?_) (fun σ3 H3' hP3 => ?_)⟩
    · obtain ⟨eB, el, vs, w9, w10, hel, hvs, rfl⟩ := hP3
      have pick : ∃ pi gi, x = .ref pi ∧ groups[i3]? = some gi ∧ PairAt K H3' pi gi := by
        match i3, hx with
        | 0, hx => exact ⟨p1, singles, (Option.some.inj hx).symm, rfl, pa1.mono eB⟩
        | 1, hx => exact ⟨p2, doubles, (Option.some.inj hx).symm, rfl, pa2.mono eB⟩
        | 2, hx => exact ⟨p3, bares, (Option.some.inj hx).symm, rfl, pa3.mono eB⟩
        | j + 3, hx => exact absurd hx (by simp)
      obtain ⟨pi, gi, rfl, hgi, l9, vs9, h9, hl9, av⟩ := pick
      refine ⟨pi, _, rfl, st_of h9, rfl, _, _, rfl, _, _, rfl, rfl, ?_⟩
      have lv : vs.length + vs9.length ≤ 1000 := by
        rw [hvs.len, av.len]
        exact firsts_len i3 gi hgi
      refine ⟨.ref el, rfl, .ref l9, rfl, el, l9, vs, vs9, rfl, rfl, hel, hl9, fits lv, fun en hen => ?_⟩
      refine ⟨_, rfl, true, rfl, iteF ?_⟩
      refine ⟨eB.trans (Ex.new hen), en, vs ++ vs9, _, _, upd_same, ?_, rfl⟩
      rw [firsts_more hgi]
      exact (hvs.append av).mono (Ex.new hen)
    · obtain ⟨eB, el, vs, w9, w10, hel, hvs, rfl⟩ := hP3
      have hvs' : AllX K H3' vs kinds := hvs
      have vl : vs.length = 16 := hvs'.len
      refine s_forR1 (n := (vs.length : Int)) (ea_cons (ev_len (ev_var rfl) (sq_of hel)) ea_nil) (by rw [vl]; decide)
        (fun k4 σ4 H4' => Ex H3' H4' ∧ ∃ w11, σ4 = [some (.ref a), some (.int i), some (.ref p), some (.int ((r1 - 1000) * z2)), some (.ref th), some y, some z, some (.ref lb), some (.ref el), w9, w10, w11, v12])
        (fun H1 k => ⟨k, v11, rfl⟩) (fun k4 σ4 H4' hk hP4 => ?_) (fun σ4 H4' hP4 => ?_)
      · obtain ⟨eC, w11, rfl⟩ := hP4
        rw [vl] at hk
        have hk' : k4 < 16 := by omega
        have hkx : kinds[k4]? = some kinds[k4] := List.getElem?_eq_getElem (show k4 < kinds.length from hk')
        generalize kinds[k4] = x at hkx
        have xm : x ∈ kinds := List.mem_of_getElem? hkx
        obtain ⟨ae, gae, xae⟩ := hvs'.get hkx
        replace xae := xae.mono eC
        have hel' := eC _ _ hel
        have item : ∀ {σ : L2.St} {H1 : Hp}, σ[8]? = some (some (.ref el)) → σ[11]? = some (some (.int (k4 : Int))) → Ex H4' H1 → Ev (tOp (rIxL K) (tVar 8) (tVar 11)) σ H1 (.ref ae) := fun h8 h11 k =>
          ev_op (ev_var h8) (ev_var h11) (rv_ixL (sq_of (k _ _ hel')) (atI_nat gae))
        have same := bools_are ⟨k4, hk'⟩ x hkx
        have shp := bools_shaped ⟨k4, hk'⟩
        refine q_when (b := false) (et_test (ev_opLL (xs := kinds.map fun y => .bl (decide (x = y))) (ys := given 16 (fun _ => true) (fun j => .bl (decide (V.int (j : Int) = V.int (k4 : Int)))))
          (el_call (ea_cons (item rfl rfl (Ex.refl _)) ea_nil) (fun H1 k Q q E => ⟨ae, x, rfl, xm, xae.mono k, fun p1 H2 n1 k2 h2 => q p1 H2 n1 k2 h2⟩))
          (el_lcR1 (j := 12) (n := 16) (fun _ => true) (fun j => .bl (decide (V.int (j : Int) = V.int (k4 : Int)))) (ea_cons ev_c ea_nil) (by decide) (fun _ => rfl) (fun _ _ _ _ => fun H1 _ Q q => q H1 (Ex.refl H1)) (fun _ _ _ _ _ => ev_op (ev_var rfl) (ev_var rfl) (rv_eq rfl)))
          (fun q1 q2 H1 h1 h2 k => ?_))) (fun c => nomatch c) (fun _ H5' k5 => ?_)
        · have g1 : kinds.map (fun y => V.bl (decide (x = y))) = ((List.range 16).map (fun j : Nat => decide ((j : Int) = (k4 : Int)))).map V.bl := by
            rw [← same, List.map_map]
            rfl
          have g2 : given 16 (fun _ => true) (fun j => V.bl (decide (V.int (j : Int) = V.int (k4 : Int)))) = ((List.range 16).map (fun j : Nat => decide ((j : Int) = (k4 : Int)))).map V.bl := by
            unfold given
            rw [List.filter_eq_self.mpr (fun _ _ => rfl), List.map_map]
            refine List.map_congr_left fun j _ => ?_
            show V.bl (decide (V.int (j : Int) = V.int (k4 : Int))) = V.bl (decide ((j : Int) = (k4 : Int)))
            congr 1
            simp
          rw [g1] at h1
          rw [g2] at h2
          intro H2 k2 Q q
          refine ⟨_, _, .lst (sq_of (k2 _ _ h1)) (dp_bools _), .lst (sq_of (k2 _ _ h2)) (dp_bools _), shp, shp, ?_⟩
          rw [SeqAt.eqv_refl _ (SeqAt.canLay_of_shaped shp)]
          exact q H2 (Ex.refl H2)
        · refine s_when (b := false || false) (et_or (a := false) (b := false) (et_not (a := true) (et_B (ev_cb (ea_cons (item rfl rfl k5) (ea_cons ev_c ea_nil)) (fun H1 k Q q => ?_)))) (fun _ => et_not (a := true) (et_B (ev_cb (ea_cons (item rfl rfl k5) (ea_cons ev_c ea_nil)) (fun H1 k Q q => ?_))))) (fun c => nomatch c) (fun _ H6' k6 => ?_)
          · exact ⟨ae, ga K x, _, _, _, rfl, xae.mono (k5.trans k), T.ec x xm, .own _, T.kt x xm, q H1 (Ex.refl H1)⟩
          · exact ⟨ae, ga K x, _, _, _, rfl, xae.mono (k5.trans k), T.ec x xm, .ty _, T.kv x xm, q H1 (Ex.refl H1)⟩
          · exact ⟨(eC.trans k5).trans k6, _, rfl⟩
      · obtain ⟨eC, w11, rfl⟩ := hP4
        exact ⟨((eA.trans eB).trans eC) |> e0.trans, _, _, _, _, _, _, _, _, _, _, _, _, rfl⟩

end
end K46
set_option Elab.async false
set_option linter.all false
set_option maxRecDepth 100000
set_option maxHeartbeats 8000000

namespace K46
open PySem PySem.Spec PyProof.Rows L2 He XH XV Evl
def steps : Nat := 40000

/-! ### the head -/
def fn : List He.DefD := [⟨("NoContext", some "__init__"), "__init__", "NoContext.__init__", defArgs s_NoContext_init, defBody s_NoContext_init, defScope s_NoContext_init, [], []⟩,
  ⟨("NoWay", some "__init__"), "__init__", "NoWay.__init__", defArgs s_NoWay_init, defBody s_NoWay_init, defScope s_NoWay_init, [], []⟩,
  ⟨("NoCell", some "__init__"), "__init__", "NoCell.__init__", defArgs s_NoCell_init, defBody s_NoCell_init, defScope s_NoCell_init, [], []⟩,
  ⟨("Unclean", some "__init__"), "__init__", "Unclean.__init__", defArgs s_Unclean_init, defBody s_Unclean_init, defScope s_Unclean_init, [], []⟩,
  ⟨("NoSpot", some "__init__"), "__init__", "NoSpot.__init__", defArgs s_NoSpot_init, defBody s_NoSpot_init, defScope s_NoSpot_init, [], []⟩,
  ⟨("TooMany", some "__init__"), "__init__", "TooMany.__init__", defArgs s_TooMany_init, defBody s_TooMany_init, defScope s_TooMany_init, [], []⟩,
  ⟨("NoEntry", some "__init__"), "__init__", "NoEntry.__init__", defArgs s_NoEntry_init, defBody s_NoEntry_init, defScope s_NoEntry_init, [], []⟩,
  ⟨("NoRow", some "__init__"), "__init__", "NoRow.__init__", defArgs s_NoRow_init, defBody s_NoRow_init, defScope s_NoRow_init, [], []⟩,
  ⟨("BadCode", some "__init__"), "__init__", "BadCode.__init__", defArgs s_BadCode_init, defBody s_BadCode_init, defScope s_BadCode_init, [], []⟩,
  ⟨("BadText", some "__init__"), "__init__", "BadText.__init__", defArgs s_BadText_init, defBody s_BadText_init, defScope s_BadText_init, [], []⟩,
  ⟨("NoSuch", some "__init__"), "__init__", "NoSuch.__init__", defArgs s_NoSuch_init, defBody s_NoSuch_init, defScope s_NoSuch_init, [], []⟩,
  ⟨("_law_state", none), "_law_state", "_law_state", defArgs s_law_state, defBody s_law_state, defScope s_law_state, [], []⟩,
  ⟨("_law_draw", none), "_law_draw", "_law_draw", defArgs s_law_draw, defBody s_law_draw, defScope s_law_draw, [], []⟩,
  ⟨("_law_cell", none), "_law_cell", "_law_cell", defArgs s_law_cell, defBody s_law_cell, defScope s_law_cell, [], []⟩,
  ⟨("_law_single", none), "_law_single", "_law_single", defArgs s_law_single, defBody s_law_single, defScope s_law_single, [], []⟩,
  ⟨("_law_double", none), "_law_double", "_law_double", defArgs s_law_double, defBody s_law_double, defScope s_law_double, [], []⟩,
  ⟨("_law_kinds", none), "_law_kinds", "_law_kinds", defArgs s_law_kinds, defBody s_law_kinds, defScope s_law_kinds, [], []⟩,
  ⟨("law", none), "law", "law", defArgs s_law, defBody s_law, defScope s_law, [], []⟩]
def fa : List Fc := [glosB globs, freesB frees, fun K => owns.all fun p => ownB K p.1 p.2, fun K => bares.all fun x => bareB K x, fun K => kinds.all fun x => excCB K (ga K x), kindsB kinds]
abbrev R : PySem.W.OpenRow := PySem.W.OpenLaw.row PySem.Challenge.rw_tryback_k46_errors_stand_apart
abbrev hk : PySem.W.Hook := hookB 5 fa fn
def ob (s : PySem.W.SharedT) : He.AlD := obsBG 5 fa fn (HandSHeadRun.getT s)
theorem ob_eq (s : PySem.W.SharedT) : ob s = hk.obs s.abs := obsBG_eq (HandSHeadRun.getT_eq s)
def loose : List Str := ["BadCode", "BadPuzzle", "BadText", "Ended", "NoCell", "NoContext", "NoEntry", "NoRow", "NoSpot", "NoSuch", "NoWay", "NothingToUndo", "OtherShape", "TooGreat", "TooMany", "TryError", "Unclean", "__name__", "_law_cell", "_law_double", "_law_draw", "_law_kinds", "_law_pick", "_law_single", "_law_state"]
theorem run (w : World) : HandSHeadRun.RunEq R (PySem.W.view R.prog [26]) hk ob 40000 loose w := by
  intro os
  kernel_rfl

theorem facts {P : Program} {w : World} {K : PySem.W.Frag} {h : Heap} {mg : Str → Option Value} {f : Addr} (X : K.In h) (G : h.Ns mainGlobals mg) (hfa : mg ("law" : Str) = some (.ref f)) (c : SaysB fa fn K) :
    ∃ fd : FuncData, (∀ (s : Shared) (v : Value), BindsTo s fd ⟨[v], []⟩ [("_law_script", v)]) ∧ ∀ base : Heap, K.In base → base.Ns mainGlobals mg → FnOk P w K mg base CX0 4 f fd ["_law_script"] (spLaw K) := by
  have kd0 := c.fact 5 rfl
  have T : Txt K mg := {
    gl := fun x hx => glos_ok X G (c.fact 0 rfl) x hx
    fr := fun x hx => frees_ok X G (c.fact 1 rfl) x hx
    ow := fun p hp => own_ok (List.all_eq_true.mp (c.fact 2 rfl) p hp)
    br := fun x hx => bare_ok (List.all_eq_true.mp (c.fact 3 rfl) x hx)
    ec := fun x hx => excC_ok (List.all_eq_true.mp (c.fact 4 rfl) x hx)
    kd := fun x hx y hy => of_decide_eq_true (List.all_eq_true.mp (ba (List.all_eq_true.mp kd0 x hx)).1 y hy)
    kt := fun x hx => of_decide_eq_true (ba (ba (List.all_eq_true.mp kd0 x hx)).2).1
    kv := fun x hx => of_decide_eq_true (ba (ba (List.all_eq_true.mp kd0 x hx)).2).2 }
  obtain ⟨d0, F0⟩ := c.def_ 0 rfl
  obtain ⟨d1, F1⟩ := c.def_ 1 rfl
  obtain ⟨d2, F2⟩ := c.def_ 2 rfl
  obtain ⟨d3, F3⟩ := c.def_ 3 rfl
  obtain ⟨d4, F4⟩ := c.def_ 4 rfl
  obtain ⟨d5, F5⟩ := c.def_ 5 rfl
  obtain ⟨d6, F6⟩ := c.def_ 6 rfl
  obtain ⟨d7, F7⟩ := c.def_ 7 rfl
  obtain ⟨d8, F8⟩ := c.def_ 8 rfl
  obtain ⟨d9, F9⟩ := c.def_ 9 rfl
  obtain ⟨d10, F10⟩ := c.def_ 10 rfl
  obtain ⟨d11, F11⟩ := c.def_ 11 rfl
  obtain ⟨d12, F12⟩ := c.def_ 12 rfl
  obtain ⟨d13, F13⟩ := c.def_ 13 rfl
  obtain ⟨d14, F14⟩ := c.def_ 14 rfl
  obtain ⟨d15, F15⟩ := c.def_ 15 rfl
  obtain ⟨d16, F16⟩ := c.def_ 16 rfl
  obtain ⟨d17, F17⟩ := c.def_ 17 rfl
  have e := hfa.symm.trans (T.gl "law" (by decide +kernel))
  cases e
  have b := FunD.bindsA (ps := ["_law_script"]) F17 fun _ _ _ _ _ _ us hl => match us, hl with | [_], _ => rfl
  refine ⟨d17, fun s v => b s [v] rfl, fun base _ _ => ?_⟩
  have ci0 : ∃ fd, FnOk P w K mg base CX0 1 (ma K (ga K "NoContext") "__init__") fd ["self", "function", "flags"] (spI2 K (ga K "NoContext") "function" "flags") ∧ Binds K fd ["self", "function", "flags"] [] := ⟨d0, ok_NoContext_init F0, FunD.bindsN (ps := ["self", "function", "flags"]) F0 fun _ _ _ _ _ _ us hl => match us, hl with | [_, _, _], _ => rfl⟩
  have ci1 : ∃ fd, FnOk P w K mg base CX0 1 (ma K (ga K "NoWay") "__init__") fd ["self", "way", "how"] (spI2 K (ga K "NoWay") "way" "how") ∧ Binds K fd ["self", "way", "how"] [] := ⟨d1, ok_NoWay_init F1, FunD.bindsN (ps := ["self", "way", "how"]) F1 fun _ _ _ _ _ _ us hl => match us, hl with | [_, _, _], _ => rfl⟩
  have ci2 : ∃ fd, FnOk P w K mg base CX0 1 (ma K (ga K "NoCell") "__init__") fd ["self", "name"] (spI1 K (ga K "NoCell") "name") ∧ Binds K fd ["self", "name"] [] := ⟨d2, ok_NoCell_init F2, FunD.bindsN (ps := ["self", "name"]) F2 fun _ _ _ _ _ _ us hl => match us, hl with | [_, _], _ => rfl⟩
  have ci3 : ∃ fd, FnOk P w K mg base CX0 1 (ma K (ga K "Unclean") "__init__") fd ["self", "function", "thing"] (spI2 K (ga K "Unclean") "function" "thing") ∧ Binds K fd ["self", "function", "thing"] [] := ⟨d3, ok_Unclean_init F3, FunD.bindsN (ps := ["self", "function", "thing"]) F3 fun _ _ _ _ _ _ us hl => match us, hl with | [_, _, _], _ => rfl⟩
  have ci4 : ∃ fd, FnOk P w K mg base CX0 1 (ma K (ga K "NoSpot") "__init__") fd ["self", "spot"] (spI1 K (ga K "NoSpot") "spot") ∧ Binds K fd ["self", "spot"] [] := ⟨d4, ok_NoSpot_init F4, FunD.bindsN (ps := ["self", "spot"]) F4 fun _ _ _ _ _ _ us hl => match us, hl with | [_, _], _ => rfl⟩
  have ci5 : ∃ fd, FnOk P w K mg base CX0 1 (ma K (ga K "TooMany") "__init__") fd ["self", "count"] (spI1 K (ga K "TooMany") "count") ∧ Binds K fd ["self", "count"] [] := ⟨d5, ok_TooMany_init F5, FunD.bindsN (ps := ["self", "count"]) F5 fun _ _ _ _ _ _ us hl => match us, hl with | [_, _], _ => rfl⟩
  have ci6 : ∃ fd, FnOk P w K mg base CX0 1 (ma K (ga K "NoEntry") "__init__") fd ["self", "number"] (spI1 K (ga K "NoEntry") "number") ∧ Binds K fd ["self", "number"] [] := ⟨d6, ok_NoEntry_init F6, FunD.bindsN (ps := ["self", "number"]) F6 fun _ _ _ _ _ _ us hl => match us, hl with | [_, _], _ => rfl⟩
  have ci7 : ∃ fd, FnOk P w K mg base CX0 1 (ma K (ga K "NoRow") "__init__") fd ["self", "name"] (spI1 K (ga K "NoRow") "name") ∧ Binds K fd ["self", "name"] [] := ⟨d7, ok_NoRow_init F7, FunD.bindsN (ps := ["self", "name"]) F7 fun _ _ _ _ _ _ us hl => match us, hl with | [_, _], _ => rfl⟩
  have ci8 : ∃ fd, FnOk P w K mg base CX0 1 (ma K (ga K "BadCode") "__init__") fd ["self", "function", "number"] (spI2 K (ga K "BadCode") "function" "number") ∧ Binds K fd ["self", "function", "number"] [] := ⟨d8, ok_BadCode_init F8, FunD.bindsN (ps := ["self", "function", "number"]) F8 fun _ _ _ _ _ _ us hl => match us, hl with | [_, _, _], _ => rfl⟩
  have ci9 : ∃ fd, FnOk P w K mg base CX0 1 (ma K (ga K "BadText") "__init__") fd ["self", "line"] (spI1 K (ga K "BadText") "line") ∧ Binds K fd ["self", "line"] [] := ⟨d9, ok_BadText_init F9, FunD.bindsN (ps := ["self", "line"]) F9 fun _ _ _ _ _ _ us hl => match us, hl with | [_, _], _ => rfl⟩
  have ci10 : ∃ fd, FnOk P w K mg base CX0 1 (ma K (ga K "NoSuch") "__init__") fd ["self", "name"] (spI1 K (ga K "NoSuch") "name") ∧ Binds K fd ["self", "name"] [] := ⟨d10, ok_NoSuch_init F10, FunD.bindsN (ps := ["self", "name"]) F10 fun _ _ _ _ _ _ us hl => match us, hl with | [_, _], _ => rfl⟩
  have c_law_state : Cl P w K mg base 1 (ga K "_law_state") ["_law_cell_here"] spState := ⟨d11, ok_law_state F11 T, FunD.bindsN (ps := ["_law_cell_here"]) F11 fun _ _ _ _ _ _ us hl => match us, hl with | [_], _ => rfl, F11.kp⟩
  have c_law_draw : Cl P w K mg base 1 (ga K "_law_draw") ["_law_state_here", "_law_many"] spDraw := ⟨d12, ok_law_draw F12 T, FunD.bindsN (ps := ["_law_state_here", "_law_many"]) F12 fun _ _ _ _ _ _ us hl => match us, hl with | [_, _], _ => rfl, F12.kp⟩
  have c_law_cell : Cl P w K mg base 1 (ga K "_law_cell") ["_law_script", "_law_at"] (spCell K) := ⟨d13, ok_law_cell F13 T, FunD.bindsN (ps := ["_law_script", "_law_at"]) F13 fun _ _ _ _ _ _ us hl => match us, hl with | [_, _], _ => rfl, F13.kp⟩
  have c_law_single : Cl P w K mg base 3 (ga K "_law_single") ["_law_thing"] (spSingle K) := ⟨d14, ok_law_single F14 T ci2 ci4 ci5 ci6 ci7 ci9 ci10, FunD.bindsN (ps := ["_law_thing"]) F14 fun _ _ _ _ _ _ us hl => match us, hl with | [_], _ => rfl, F14.kp⟩
  have c_law_double : Cl P w K mg base 3 (ga K "_law_double") ["_law_thing", "_law_other"] (spDouble K) := ⟨d15, ok_law_double F15 T ci0 ci1 ci3 ci8, FunD.bindsN (ps := ["_law_thing", "_law_other"]) F15 fun _ _ _ _ _ _ us hl => match us, hl with | [_, _], _ => rfl, F15.kp⟩
  have c_law_kinds : Cl P w K mg base 1 (ga K "_law_kinds") ["_law_e"] (spKinds K) := ⟨d16, ok_law_kinds F16 T, FunD.bindsN (ps := ["_law_e"]) F16 fun _ _ _ _ _ _ us hl => match us, hl with | [_], _ => rfl, F16.kp⟩
  exact ok_law F17 T c_law_state c_law_cell c_law_draw c_law_single c_law_double c_law_kinds
end K46

open PySem PySem.W PySem.Calls PyProof.Rows
theorem PySem.Challenge.cw_tryback_k46_errors_stand_apart_holds : PySem.Challenge.rw_tryback_k46_errors_stand_apart.Holds := by
  w_on; o_law
  refine HandSHeadRun.head_any (r := OpenLaw.row PySem.Challenge.rw_tryback_k46_errors_stand_apart) (q := view (OpenLaw.row PySem.Challenge.rw_tryback_k46_errors_stand_apart).prog [26]) (H := K46.hk) (ob := K46.ob) (M := K46.steps) (loose := K46.loose) (d := HandSHeadRun.topDef (OpenLaw.row PySem.Challenge.rw_tryback_k46_errors_stand_apart).prog 26) (kwd := []) K46.ob_eq
    (by kernel_rfl) (fun s => by kernel_rfl) K46.run (by kernel_rfl) (by kernel_rfl) (by kernel_rfl) (by rfl) (by first | assumption | decide +kernel) (by decide +kernel) ⟨rfl, rfl, rfl, rfl, rfl, by decide +kernel⟩ ?hw ?hc
  case hw => w_witness2
  case hc =>
    refine L2.walk_ofE (l := PySem.Challenge.rw_tryback_k46_errors_stand_apart) (n := 63) (k := 4) (x := "_law_script") (CX := L2.CX0) rfl (by decide) (by kernel_rfl) ⟨rfl, by decide, by decide⟩ ?F (fun _ _ _ _ z => z)
    intro w mg fa h Y G hmg0
    obtain ⟨K, KX, c⟩ := Y
    have hmg : mg ("law" : PySem.Str) = some (.ref fa) := by
      have e : (HandSHeadRun.topDef (OpenLaw.row PySem.Challenge.rw_tryback_k46_errors_stand_apart).prog 26).name = ("law" : PySem.Str) := by kernel_rfl
      rw [← e]
      exact hmg0
    obtain ⟨fd, hb, hF⟩ := K46.facts (P := (PySem.Challenge.rw_tryback_k46_errors_stand_apart).prog) (w := w) KX G hmg c
    exact ⟨K, fd, K46.spLaw K, KX, hb, fun H a ns hl _ hS => ⟨a, ns, rfl, hS, hl, fun _ => rfl⟩, hF⟩

