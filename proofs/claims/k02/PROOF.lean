import PyProof.Rows.All
import Wide.All
import OpenK.AllK
import Wide.FinOn
import KE.KIsAll
import KE.KTryMore
import HandS.ForMost
import HandS.ForExc
import HandS.ExcInit
import HandS.ExcIs
import HandS.ExcValue
import HandS.ExcField
import HandS.IsInst
import HandS.Evl
import HandS.Defaults
import HandS.Head0
import HandS.Head1
import HandS.Head2
import HandS.HeadEnd
import HandS.HeadHook1
import HandS.HeadHook2
import HandS.Iter
import HandS.Dict
import HandS.More
import HandS.HeadHook3
import HandS.TryMany
import HandS.TupAny
import HandS.Star
import HandS.Zip
import HandS.Steps
import PySem.Challenge.RW_tryback_k02_names_refused
import HandS.Walk
import HandS.ExcOwn
import HandS.Flow
set_option Elab.async false
set_option linter.all false
set_option maxRecDepth 100000
set_option maxHeartbeats 4000000
/-! Own exceptions as values: made, their fields read, asked for their class. -/
namespace XV
open PySem PySem.Spec PyProof.Rows L2

/-! ### the class of such a value -/
theorem dataFound {K : PySem.W.Frag} {C : Addr} {od : Option Obj} {n : Str} {a g : Value} (hc : (PySem.W.clsIn K C).isSome = true) (ha : PySem.W.findIn K (.ref C) n = some (some a))
    (hg : PySem.W.specialIn K a "__get__" = some (some g)) (ht : PySem.W.takesIn K a = some true) : PySem.W.findObj K C od n = some (.bind g a) := by
  cases od with
  | none => exact PySem.W.findObj_dataN hc ha hg ht
  | some o => exact PySem.W.findObj_data hc ha hg ht

section
variable {prog : Program} {w : World} {A : Around} {E : Value → Shared → Prop} {sh : Shared} {K : PySem.W.Frag} {e D : Addr} {oe : Obj} {od : Option Obj}
theorem askCls {R : Option Value → Shared → Prop} (T : ExcC K D) (KI : K.In sh.heap) (J : PySem.W.InstAt sh.heap e oe D od) (r : R (some (.ref D)) { sh with toks := sh.toks + 1 }) :
    wpAny (model prog w) A (getAttr? (.ref e) "__class__") R E sh := by
  obtain ⟨t1, t2, t3, t4, t5, t6, t7, t8⟩ := T
  have some' : (PySem.W.clsIn K D).isSome = true := by
    obtain ⟨cd, z, _⟩ := PySem.W.any_some t4
    rw [z]
    rfl
  have fd := dataFound (od := od) some' t5 t6 t7
  obtain ⟨hh, gs, dr, tk, os⟩ := sh
  have ty := J.type (M := model prog w)
  have l1 := PySem.W.looks_findIn (M := model prog w) KI t1
  have l2 := PySem.W.looks_findIn (M := model prog w) KI t2
  have l3 := PySem.W.looks_find (M := model prog w) KI J fd
  have isB : PySem.W.Looks (model prog w) hh (isInstance (.ref e) (.type "BaseException")) true := ty.andThen (PySem.W.looks_subIn KI t3)
  have z0 : (false && onTheHeap (Value.builtin "BaseException.__getattribute__")) = false := rfl
  have z2 : (Value.builtin "BaseException.__getattribute__" == Value.builtin "object.__getattribute__") = false := by decide +kernel
  have z1 : (onTheHeap (Value.ref D) && Value.builtin "BaseException.__getattribute__" == Value.builtin "object.__getattribute__") = false := by rw [z2]; rfl
  unfold getAttr?
  unfold getAttrBy?
  unfold getAttrBy
  refine wpAny_bind (wpAny_mkText (wpAny_bind (wpAny_attempt (wpAny_holding (wpAny_bind (ty.at (wpAny_bind (l1.at ?_))))))))
  show wpAny _ _ (if (onTheHeap (Value.ref D) && Value.builtin "BaseException.__getattribute__" == Value.builtin "object.__getattribute__") = true then _ else _) _ _ _
  rw [z1, if_neg Bool.false_ne_true]
  unfold getAttrByItsOwn
  unfold hookBefore
  refine wpAny_bind ?_
  rw [if_pos (show onTheHeap (Value.ref D) = true from rfl)]
  refine l2.at ?_
  refine wpAny_bind (wpAny_attempt (wpAny_holding ?_))
  unfold callGetattribute
  rw [z0, if_neg Bool.false_ne_true]
  unfold boundAndCalled
  rw [PySem.F.excAttr_ValueError.ga.bind (.ref e)]
  refine wpAny_bind (wpAny_pure ?_)
  show wpAny _ _ (call (.builtin "BaseException.__getattribute__") [.ref e, .str "__class__" tk]) _ _ _
  refine wpAny_call (codeAny_call_builtin PySem.F.excAttr_ValueError.ga.plain PySem.F.entry_bexc_ga ?_)
  refine @PySem.W.check_slot (model prog w) _ _ ⟨hh, gs, dr, tk + 1, os⟩ "BaseException.__getattribute__" "BaseException" "__getattribute__" (.ref e) [.str "__class__" tk] [] _ (by decide +kernel) (by decide +kernel) isB (PySem.F.args_bexc_ga (.ref e) (.str "__class__" tk)) ?_
  unfold Builtin.«object.__getattribute__»
  refine wpAny_bind (wpAny_of_eq (a := ((Value.ref e : Value), [Value.str "__class__" tk])) (by first | rfl | (simp only [Builtin.slotArgs]; rfl)) ?_)
  refine wpAny_bind (wpAny_pure (wpAny_bind (ty.at (wpAny_bind (l3.at ?_)))))
  show wpAny _ _ (holding [Value.builtin "object.__class__"] (call (.builtin "getset_descriptor.__get__") [.builtin "object.__class__", .ref e, .ref D]) >>= ret) _ _ _
  refine wpAny_bind (wpAny_holding (wpAny_call (PySem.W.class_get (s := ⟨hh, gs, dr, tk + 1, os⟩) (ox := oe) (od := od) KI J t8 ?_)))
  refine wpAny_pure ?_
  show wpAny _ _ (handedOut (.ref D)) _ _ _
  rw [PySem.W.handedOut_of (v := .ref D) rfl]
  first
    | exact wpAny_pure (wpAny_pure r)
    | exact wpAny_pure r
    | exact wpAny_pure (wpAny_bind (wpAny_pure (wpAny_pure r)))
theorem kitOf (T : ExcC K D) : PySem.W.KitX K (.ref e) (.ref D) (fun h => PySem.W.InstAt h e oe D od) := by
  obtain ⟨cd, hc, _⟩ := PySem.W.any_some T.hd
  unfold PySem.W.clsIn at hc
  split at hc
  · rename_i c' d' cd' sl' lk
    refine ⟨fun _ _ _ J => J.type, fun M h KI _ A' Q' E' s' k q => ?_, fun h tp dd its n sl KI htp => ?_, fun KI J r => askCls T KI J r⟩
    · unfold isType loadHead
      exact wpAny_bind (wpAny_loadPart (k _ _ (KI _ _ lk)) (wpAny_pure q))
    · refine Bool.eq_false_iff.mpr fun q => ?_
      have e1 : D = tp := Value.ref.inj (beq_iff_eq.mp q)
      rw [← e1] at htp
      have z := (KI _ _ lk).symm.trans htp
      cases z
  · cases hc
end

/-! ### what is tracked of an exception -/
/-- at a: an exception of the class at C that has the fields fs -/
def ExF (H : Hp) (a C : Addr) (fs : List (Str × V)) : Prop := ∃ d, H a = some (exo a C (some d)) ∧ H d = some (exd d fs)
/-- at a: an exception of the class at C -/
def ExAt (H : Hp) (a C : Addr) : Prop := (∃ fs, ExF H a C fs) ∨ H a = some (exo a C none)
theorem ExF.at {H : Hp} {a C : Addr} {fs : List (Str × V)} (h : ExF H a C fs) : ExAt H a C := .inl ⟨fs, h⟩
theorem ExF.mono {H H' : Hp} {a C : Addr} {fs : List (Str × V)} (k : Evl.Ex H H') (h : ExF H a C fs) : ExF H' a C fs := by
  obtain ⟨d, h1, h2⟩ := h
  exact ⟨d, k _ _ h1, k _ _ h2⟩
theorem ExAt.mono {H H' : Hp} {a C : Addr} (k : Evl.Ex H H') (h : ExAt H a C) : ExAt H' a C := by
  rcases h with ⟨fs, h⟩ | h
  · exact .inl ⟨fs, h.mono k⟩
  · exact .inr (k _ _ h)
theorem inst_of {X : Cx} {pins : List (Addr × Obj)} {σ : L2.St} {H : Hp} {s : Shared} {a C : Addr} (I : Inv X pins σ H s) (h : ExAt H a C) : ∃ oe od, PySem.W.InstAt s.heap a oe C od := by
  rcases h with ⟨fs, d, h1, h2⟩ | h
  · obtain ⟨t, ho⟩ := exo_at I.hok h1
    obtain ⟨mA, ⟨oD, es, ep, hD, _⟩, _⟩ := exd_at I.hok h2
    exact ⟨_, some oD, ho, rfl, rfl, hD⟩
  · obtain ⟨t, ho⟩ := exo_at I.hok h
    exact ⟨_, none, ho, rfl, rfl, True.intro⟩

/-! ### isinstance(e, c) -/
def rIsX (K : PySem.W.Frag) : List V → Hp → VK → Prop := fun xs H Q => ∃ (a C : Addr) (c : V) (cv : Value) (b : Bool), xs = [.ref a, c] ∧ ExAt H a C ∧ ExcC K C ∧ ClsV c cv ∧ PySem.W.kitOne K (.ref C) cv = some b ∧ Q (.bl b) H
theorem call_isX {X : Cx} : CallR X (.builtin "isinstance") (rIsX X.K) := by
  intro pins s σ H xs us Q I r h
  obtain ⟨a, C, c, cv, b, rfl, hx, T, kc, e, q⟩ := h
  obtain ⟨u1, u2, rfl, r1, r2⟩ := vals2 r
  cases (show u1 = Value.ref a from r1)
  have e2 := kc.eq r2
  subst e2
  obtain ⟨oe, od, J⟩ := inst_of I hx
  exact PySem.W.kia_one (kitOf T) I.kIn J e (fun z => nomatch z) fun tk => ⟨.bl b, H, I.tok tk, rfl, q⟩

/-! ### e.f -/
def tXv (K : PySem.W.Frag) (f : Str) (te : TE) : TE := fun σ H Q => te σ H fun x H1 => ∃ (a C d : Addr) (fs : List (Str × V)) (v : V), x = .ref a ∧ H1 a = some (exo a C (some d)) ∧ H1 d = some (exd d fs) ∧ XfC K C ∧ PySem.W.findIn K (.ref C) f = some none ∧ fs.lookup f = some v ∧ Q v H1
theorem pe_xv {X : Cx} {e : Expr} {te : TE} {pos : Pos} {f : Str} (he : PE X e te) (hb : attributeBase e f X.env (eval e X.env) = eval e X.env := by rfl) : PE X (.Attribute e f pos) (tXv X.K f te) := by
  refine ⟨fun pins s σ H Q I h => ?_⟩
  refine attr_of hb (thn (he.run pins s σ H _ I h) fun u s1 ⟨x, H1, I1, rx, a, C, d, fs, v, ex, ha, hd, T, hno, l, q⟩ => ?_)
  subst ex
  cases (show u = Value.ref a from rx)
  obtain ⟨t, ho⟩ := exo_at I1.hok ha
  obtain ⟨mA, hns, hr⟩ := exd_at I1.hok hd
  obtain ⟨oD, hoD, hl⟩ := lookIn_ns hns
  obtain ⟨u', hu, ru⟩ := RelO.some_of (v := v) (o := mA f) (by rw [← l]; exact hr f)
  have J : PySem.W.InstAt s1.heap a _ C (some oD) := ⟨ho, rfl, rfl, hoD⟩
  exact HandSPX.exc_get I1.kIn J T.ga T.gg T.exC (PySem.W.findObj_own T.hdC hno rfl (by rw [hl, hu])) (handed_of ru) ⟨v, H1, I1.tok _, ru, q⟩

/-! ### C(e, ..), C's own __init__ keeping sp; C() without one -/
def tMkV (C : Addr) (sp : Sp) (ta : TA) : TE := fun σ H Q => ta σ H fun vs H1 => vs.length ≤ 1000 ∧ ∀ a, H1 a = none → sp (.ref a :: vs) (upd H1 a (exo a C none)) (fun v H2 => v = .non ∧ Q (.ref a) H2) E0
section
variable {X : Cx} {e : Expr} {es : List Expr} {ta : TA} {p pos : Pos} {x : Str} {C fI : Addr} {k : Nat} {fd : FuncData} {ps : List Str} {sp : Sp}
theorem pe_mkv (T : OexC X.K C) (iC : PySem.W.findIn X.K (.ref C) "__init__" = some (some (.ref fI))) (tI : PySem.W.typeIn X.K (.ref fI) = some (.type "function")) (F1 : FnOk X.prog X.w X.K X.mg X.base CX0 k fI fd ps sp)
    (hr : Room (k + 1) X.A) (hb : Binds X.K fd ps []) (hg : Gl X x) (hm : X.mg x = some (.ref C)) (ha : PA X (e :: es) ta)
    (hdb : (x == ("__debug__" : Str)) = false := by decide) (he : starEach (e :: es) X.env = (false, eval e X.env) :: starEach es X.env := by rfl) (hpl : (backTo pos (starEach es X.env)).any (·.1) = false := by rfl) :
    PE X (.Call (.Name x p) (e :: es) [] pos) (tMkV C sp ta) := by
  refine ⟨fun pins s σ H Q I h => ?_⟩
  obtain ⟨nm, q, N, bs, bm, sn, sub, ab, col, dd, k0, k1, k2, k3, k5, lC, lB⟩ := T.cls
  refine wpAny_Call_Name_kw (ld_glob I hg hm ?_ hdb)
  refine PySem.W.callWith_K (h₀ := X.base) I.ok.mod.kin T.kC (thn (ha.run pos pins s σ H _ I h) fun us s1 ⟨vs, H1, I1, r1, hz, q1⟩ => ⟨I1.kIn, ?_⟩) he hpl
  show wpAny _ _ (call (.ref C) us) _ _ _
  obtain ⟨hh, g, dr, tk, os⟩ := s1
  have top : hh.objs.size ≤ hh.objs.size + 1 := Nat.le_succ _
  have w0 := q1 (hh.objs.size + 1) (I1.hok.fresh top)
  have old : ∀ b o, hh.get? b = some o → ((hh.push (PySem.W.kdv_tup us)).push (PySem.HandSPX.excO C hh.objs.size)).get? b = some o := fun b o z => Heap.get?_push_of_some _ (Heap.get?_push_of_some _ z)
  have made : ((hh.push (PySem.W.kdv_tup us)).push (PySem.HandSPX.excO C hh.objs.size)).get? (hh.objs.size + 1) = some (PySem.HandSPX.excO C hh.objs.size) := by heap_get
  have J : Inv X pins σ (upd H1 (hh.objs.size + 1) (exo (hh.objs.size + 1) C none)) ⟨(hh.push (PySem.W.kdv_tup us)).push (PySem.HandSPX.excO C hh.objs.size), g, dr, tk, os⟩ :=
    I1.laid (t' := tk) old top (exo_ok made)
  have rv : Vals (V.ref (hh.objs.size + 1) :: vs) (Value.ref (hh.objs.size + 1) :: us) := .cons rfl r1
  have hl : (Value.ref (hh.objs.size + 1) :: us ++ []).length = ps.length := by
    have z := rv.length
    rw [F1.len _ _ _ _ w0] at z
    rw [List.append_nil]
    exact z.symm
  have hus : us.length ≤ sizeLine := by
    rw [← Paired.length r1, sizeLine_eq]
    omega
  have bd := hb ⟨(hh.push (PySem.W.kdv_tup us)).push (PySem.HandSPX.excO C hh.objs.size), g, dr, tk, os⟩ (Value.ref (hh.objs.size + 1) :: us) J.kIn hl
  rw [List.append_nil] at bd
  have F1' := F1.run _ X.stack _ _ ⟨Value.ref (hh.objs.size + 1) :: us, []⟩ (Value.ref (hh.objs.size + 1) :: us) _ _ E0 (hr.make C us []) (J.env0.make C us []) bd rv w0
  refine wpAny_call (PySem.HandSPX.call_own F.excBase_ValueError (fun Y => PySem.HandSPX.refsVE_contains Y bm lB) (I1.kIn _ _ lC) (PySem.W.looks_findIn I1.kIn iC) (fun self => PySem.W.bind_fn I1.kIn self tI) hus
    (codeAny_mono F1' fun r s' hq => ?_))
  cases r with
  | error er => exact False.elim hq
  | ok fl =>
    cases fl with
    | ret u =>
      obtain ⟨v, H2, I2, r2, ev, q2⟩ := J.after hq
      subst ev
      exact ⟨r2, ⟨.ref (hh.objs.size + 1), H2, I2, rfl, q2⟩⟩
    | next => exact False.elim hq
    | brk => exact False.elim hq
    | cont => exact False.elim hq
def tMk0 (C : Addr) : TE := fun _ H Q => ∀ a, H a = none → Q (.ref a) (upd H a (exo a C none))
theorem pe_mk0 {bmB : List Value} {B newId initId : String} (F : ExcBaseFacts B newId initId bmB) (q : PySem.W.excIn X.K C bmB newId = true) (kC : PySem.W.keepIn X.K (.ref C) = true) (hg : Gl X x) (hm : X.mg x = some (.ref C))
    (hdb : (x == ("__debug__" : Str)) = false := by decide) : PE X (.Call (.Name x p) [] [] pos) (tMk0 C) := by
  refine ⟨fun pins s σ H Q I h => ?_⟩
  refine wpAny_Call_Name_kw (ld_glob I hg hm ?_ hdb)
  refine PySem.W.callWith_K0 I.kIn kC ?_
  show wpAny _ _ (call (.ref C) []) _ _ _
  obtain ⟨bm, N, nm, qn, bs, hdct, sn, sub, ab, col, dd, k0, k1, k2, k3, k5, mN, hC, hN, hni, T⟩ := exc_obj I.kIn q
  refine wpAny_call_exc_subT F T hC hN hni (fun h' a hm => ?_) (by show 0 ≤ sizeLine; exact Nat.zero_le _)
  have hn : H a = none := I.hok.gone hm.new
  obtain ⟨t, ht, _, _⟩ := hm.there
  exact ⟨.ref a, upd H a (exo a C none), I.laidN hm.keeps hm.new hn (exo_ok ht), rfl, h a hn⟩
end
end XV

set_option Elab.async false
set_option linter.all false
set_option maxRecDepth 100000
set_option maxHeartbeats 4000000
/-! A head's facts as any tests of the written part. -/
namespace XH
open PySem PySem.Spec PyProof.Rows L2 He
abbrev Fc : Type := PySem.W.Frag → Bool
def obsB (fa : List Fc) (fn : List DefD) (K : PySem.W.Frag) : AlD := ((fa.all fun f => f K) && fn.all fun d => d.ok K, fn.map fun d => fnW K d.at_)
def SaysB (fa : List Fc) (fn : List DefD) (K : PySem.W.Frag) : Prop := obsB fa fn K = valD fn
def obsBG (n : Nat) (fa : List Fc) (fn : List DefD) (g : Addr → Option Obj) : AlD := obsB fa fn (frG g (asD g n))
def hookB (n : Nat) (fa : List Fc) (fn : List DefD) : PySem.W.Hook where
  α := AlD
  obs := fun st => obsBG n fa fn st.heap.get?
  val := fun _ => valD fn
  says := fun _ hh => ∃ K : PySem.W.Frag, K.In hh ∧ SaysB fa fn K
  of := fun _ _ z => ⟨_, frG_in, z⟩
  keeps := fun _ _ _ ⟨K, inn, c⟩ kk => ⟨K, PySem.W.Frag.In.keeps inn kk, c⟩
theorem obsBG_eq {n : Nat} {fa : List Fc} {fn : List DefD} {g : Addr → Option Obj} {s : Shared} (h : ∀ a, g a = s.heap.get? a) : obsBG n fa fn g = (hookB n fa fn).obs s := by
  have z : g = s.heap.get? := funext h
  rw [z]
  rfl
section
variable {fa : List Fc} {fn : List DefD} {K : PySem.W.Frag}
theorem SaysB.fact (c : SaysB fa fn K) (i : Nat) {f : Fc} (h : fa[i]? = some f := by rfl) : f K = true := by
  have c1 : ((fa.all fun f => f K) && fn.all fun d => d.ok K) = true := congrArg (fun z : AlD => z.1) c
  exact List.all_eq_true.mp (ba c1).1 f (List.mem_of_getElem? h)
theorem SaysB.def_ (c : SaysB fa fn K) (i : Nat) {d : DefD} (h : fn[i]? = some d := by rfl) : ∃ fd, FunD K d.name d.qual d.params d.body d.scope (d.dvs K) (d.kws K) (fAd K d.at_) fd := by
  have c1 : ((fa.all fun f => f K) && fn.all fun d => d.ok K) = true := congrArg (fun z : AlD => z.1) c
  have c2 : fn.map (fun d => fnW K d.at_) = fn.map DefD.val := congrArg (fun z : AlD => z.2) c
  have c3 : (fn.map fun d => fnW K d.at_)[i]? = (fn.map DefD.val)[i]? := congrArg (fun l => l[i]?) c2
  rw [List.getElem?_map, List.getElem?_map, h] at c3
  exact DefD.funD (Option.some.inj c3) (List.all_eq_true.mp (ba c1).2 d (List.mem_of_getElem? h))
end
/-! ### names -/
def glosB (l : List Str) : Fc := fun K => l.all fun x => (Fa.glo x).ok K
def freesB (l : List Str) : Fc := fun K => l.all fun x => (Fa.free x).ok K
theorem glos_ok {K : PySem.W.Frag} {h : Heap} {mg : Str → Option Value} {l : List Str} (X : K.In h) (G : h.Ns mainGlobals mg) (c : glosB l K = true) (x : Str) (hx : x ∈ l) : mg x = some (.ref (ga K x)) := glo_ok X G (List.all_eq_true.mp c x hx)
theorem frees_ok {K : PySem.W.Frag} {h : Heap} {mg : Str → Option Value} {l : List Str} (X : K.In h) (G : h.Ns mainGlobals mg) (c : freesB l K = true) (x : Str) (hx : x ∈ l) : mg x = none := free_ok X G (List.all_eq_true.mp c x hx)
/-! ### own exception classes -/
def excCB (K : PySem.W.Frag) (C : Addr) : Bool :=
  eqO (PySem.W.findIn K (.ref C) "__getattribute__") (some (some (.builtin "BaseException.__getattribute__"))) && (eqO (PySem.W.findIn K (.ref C) "__getattr__") (some none) && (decide (PySem.W.subIn K (.ref C) (.type "BaseException") = some true) &&
  (PySem.W.hasDictIn K C && (eqO (PySem.W.findIn K (.ref C) "__class__") (some (some (.builtin "object.__class__"))) && (eqO (PySem.W.specialIn K (.builtin "object.__class__") "__get__") (some (some (.builtin "getset_descriptor.__get__"))) &&
  (decide (PySem.W.takesIn K (.builtin "object.__class__") = some true) && decide (PySem.W.mroIn K C (.type "object") = some true)))))))
theorem excC_ok {K : PySem.W.Frag} {C : Addr} (h : excCB K C = true) : ExcC K C := by
  obtain ⟨h1, h⟩ := ba h
  obtain ⟨h2, h⟩ := ba h
  obtain ⟨h3, h⟩ := ba h
  obtain ⟨h4, h⟩ := ba h
  obtain ⟨h5, h⟩ := ba h
  obtain ⟨h6, h⟩ := ba h
  obtain ⟨h7, h8⟩ := ba h
  exact ⟨eqO_ok h1, eqO_ok h2, of_decide_eq_true h3, h4, eqO_ok h5, eqO_ok h6, of_decide_eq_true h7, of_decide_eq_true h8⟩
def exB (K : PySem.W.Frag) (C : Addr) : Bool := match K.lookup C with
  | some ⟨.type "type", _, .cls cd, sl⟩ => (match cd.mro, sl.toList with
    | .ref C' :: bm, [_, _, _, _, some (.builtin n), _] => C' == C && (n == "ValueError.__new__" && (!cd.hasDel && (cd.hasDict && PySem.HandSPX.refsVE bm)))
    | _, _ => false)
  | _ => false
theorem exB_ok {K : PySem.W.Frag} {C : Addr} (q : exB K C = true) : ∃ nm qn N bs bm sn sub ab col dd k0 k1 k2 k3 k5, K.lookup C = some (excClassObj nm qn C N bs bm true sn sub ab col dd k0 k1 k2 k3 k5 "ValueError.__new__") ∧ PySem.HandSPX.refsVE bm = true := by
  unfold exB at q
  split at q
  · rename_i dd cd sl lk
    split at q
    · rename_i C' bm k0 k1 k2 k3 n k5 hm hs
      obtain ⟨q1, q⟩ := ba q
      obtain ⟨q2, q⟩ := ba q
      obtain ⟨q3, q⟩ := ba q
      obtain ⟨q4, q5⟩ := ba q
      have e1 := beq_iff_eq.mp q1
      have e2 := beq_iff_eq.mp q2
      subst e1 e2
      obtain ⟨nm, bs, mro, ns, qn, hd, sn, sub, ab, col, del⟩ := cd
      dsimp only at hm q3 q4
      have e3 : del = false := by simpa using q3
      subst hm e3 q4
      have hsl : sl = #[k0, k1, k2, k3, some (.builtin "ValueError.__new__"), k5] := by
        obtain ⟨l⟩ := sl
        have hs' : l = [k0, k1, k2, k3, some (.builtin "ValueError.__new__"), k5] := hs
        rw [hs']
      subst hsl
      exact ⟨nm, qn, ns, bs, bm, sn, sub, ab, col, dd, k0, k1, k2, k3, k5, lk, q5⟩
    · cases q
  · cases q
/-- an own class with an __init__ of its own that stores the fields fs -/
def ownB (K : PySem.W.Frag) (x : Str) (fs : List Str) : Bool :=
  exB K (ga K x) && (eqO (PySem.W.findIn K (.ref (ga K x)) "__setattr__") (some (some (.builtin "object.__setattr__"))) && (decide (PySem.W.typeIn K (.ref (ga K x)) = some (.type "type")) && (PySem.W.keepIn K (.ref (ga K x)) &&
  ((fs.all fun f => eqO (PySem.W.findIn K (.ref (ga K x)) f) (some none)) && (eqO (PySem.W.findIn K (.ref (ga K x)) "__init__") (some (some (.ref (ma K (ga K x) "__init__")))) &&
  (decide (PySem.W.typeIn K (.ref (ma K (ga K x) "__init__")) = some (.type "function")) && excCB K (ga K x)))))))
structure Own (K : PySem.W.Frag) (C fI : Addr) (fs : List Str) : Prop where
  ox : OexC K C
  no : ∀ f ∈ fs, PySem.W.findIn K (.ref C) f = some none
  iC : PySem.W.findIn K (.ref C) "__init__" = some (some (.ref fI))
  tI : PySem.W.typeIn K (.ref fI) = some (.type "function")
  ec : ExcC K C
theorem Own.xf {K : PySem.W.Frag} {C fI : Addr} {fs : List Str} (o : Own K C fI fs) : XfC K C := ⟨o.ec.hg, o.ec.hk, o.ec.hs, o.ec.hd⟩
theorem own_ok {K : PySem.W.Frag} {x : Str} {fs : List Str} (h : ownB K x fs = true) : Own K (ga K x) (ma K (ga K x) "__init__") fs := by
  obtain ⟨h1, h⟩ := ba h
  obtain ⟨h2, h⟩ := ba h
  obtain ⟨h3, h⟩ := ba h
  obtain ⟨h4, h⟩ := ba h
  obtain ⟨h5, h⟩ := ba h
  obtain ⟨h6, h⟩ := ba h
  obtain ⟨h7, h8⟩ := ba h
  have e := excC_ok h8
  exact ⟨⟨exB_ok h1, eqO_ok h2, e.hs, of_decide_eq_true h3, h4⟩, fun f hf => eqO_ok (List.all_eq_true.mp h5 f hf), eqO_ok h6, of_decide_eq_true h7, e⟩
/-- an own class without one -/
def bareB (K : PySem.W.Frag) (x : Str) : Bool := PySem.W.excIn K (ga K x) veBase "ValueError.__new__" && (PySem.W.keepIn K (.ref (ga K x)) && excCB K (ga K x))
structure Bare (K : PySem.W.Frag) (C : Addr) : Prop where
  ex : PySem.W.excIn K C veBase "ValueError.__new__" = true
  kC : PySem.W.keepIn K (.ref C) = true
  ec : ExcC K C
theorem bare_ok {K : PySem.W.Frag} {x : Str} (h : bareB K x = true) : Bare K (ga K x) := by
  obtain ⟨h1, h⟩ := ba h
  obtain ⟨h2, h3⟩ := ba h
  exact ⟨h1, h2, excC_ok h3⟩
/-! ### the promise of such an __init__ of one, of two fields -/
def spI1 (K : PySem.W.Frag) (C : Addr) (f : Str) : Sp := fun vs H Q _ => ∃ (a : Addr) (y : V), vs = [.ref a, y] ∧ OexC K C ∧ PySem.W.findIn K (.ref C) f = some none ∧ H a = some (exo a C none) ∧
  ∀ d, H d = none → d ≠ a → Q .non (upd (upd H d (exd d [(f, y)])) a (exo a C (some d)))
def spI2 (K : PySem.W.Frag) (C : Addr) (f g : Str) : Sp := fun vs H Q _ => ∃ (a : Addr) (y z : V), vs = [.ref a, y, z] ∧ OexC K C ∧ PySem.W.findIn K (.ref C) f = some none ∧ PySem.W.findIn K (.ref C) g = some none ∧ H a = some (exo a C none) ∧
  ∀ d, H d = none → d ≠ a → Q .non (upd (upd (upd H d (exd d [(f, y)])) a (exo a C (some d))) d (exd d [(g, z), (f, y)]))
end XH

set_option Elab.async false
set_option linter.all false
set_option maxRecDepth 100000
set_option maxHeartbeats 4000000
/-! Rules that were lacking: a text some times over, get of a table of the top, what is walked either way, an error without arguments, several clauses that each keep their error, isinstance of it. -/
namespace XR
open PySem PySem.Spec PyProof.Rows L2

/-! ### text * n -/
def repS (z : Str) (n : Nat) : Str := ⟨(List.replicate n z.cps).foldl (· ++ ·) #[]⟩
theorem rep_size (a : Array Nat) : ∀ (n : Nat) (acc : Array Nat), ((List.replicate n a).foldl (· ++ ·) acc).size = acc.size + n * a.size
  | 0, acc => by simp
  | n + 1, acc => by
    rw [List.replicate_succ, List.foldl_cons, rep_size a n, Array.size_append, Nat.succ_mul]
    omega
theorem repS_len (z : Str) (n : Nat) : (repS z n).length = n * z.length := by
  show ((List.replicate n z.cps).foldl (· ++ ·) #[]).size = n * z.cps.size
  rw [rep_size]
  simp
theorem op_mulS {X : Cx} : OpR X (binaryOp .Mult) (fun x y H Q => ∃ (z : Str) (n : Nat), x = .str z ∧ y = .int (n : Int) ∧ (1 ≤ n ∧ n ≤ 1000) ∧ (1 ≤ z.length ∧ z.length ≤ 1000) ∧ Q (.str (repS z n)) H) := by
  intro pins s σ H x y v u Q I rx ry h
  obtain ⟨z, n, rfl, rfl, ⟨n1, n2⟩, ⟨z1, z2⟩, q⟩ := h
  obtain ⟨t, rfl⟩ := rx
  obtain ⟨t', rfl⟩ := ry
  have c1 : decide ((n : Int) < -(2 ^ 63 : Int)) = false := decide_eq_false (by omega)
  have c2 : decide ((n : Int) ≥ 2 ^ 63) = false := decide_eq_false (by omega)
  refine PySem.P.mul_str (by rw [c1, c2]; rfl) (fun _ _ => ?_) (fun _ _ => ?_) ?_
  · have k : (1000000 : Int) ≤ (2 ^ 63 - 1) / (n : Int) := by
      refine Int.le_ediv_of_mul_le (by omega) ?_
      omega
    omega
  · have k : z.length * (n : Int).toNat ≤ 1000 * 1000 := Nat.mul_le_mul z2 (by omega)
    show decide (z.length * (n : Int).toNat > sizeLine) = false
    refine decide_eq_false ?_
    rw [sizeLine_eq]
    omega
  · rw [if_neg (by omega)]
    by_cases e : n = 1
    · subst e
      have e2 : repS z 1 = z := by
        unfold repS
        simp
      rw [if_pos (by rfl)]
      rw [e2] at q
      exact ⟨.str z, H, I, ⟨_, rfl⟩, q⟩
    · have b : ((n : Int) == 1 || z.length == 0) = false := by
        have b1 : ((n : Int) == 1) = false := by
          rw [beq_eq_false_iff_ne]
          omega
        have b2 : (z.length == 0) = false := by
          rw [beq_eq_false_iff_ne]
          omega
        rw [b1, b2]
        rfl
      rw [b, if_neg Bool.false_ne_true]
      have en : (n : Int).toNat = n := by omega
      rw [en]
      have lr : (repS z n).length ≤ sizeLine := by
        rw [repS_len, sizeLine_eq]
        have k : n * z.length ≤ 1000 * 1000 := Nat.mul_le_mul n2 z2
        omega
      exact ⟨lr, ⟨.str (repS z n), H, I.tok _, ⟨_, rfl⟩, q⟩⟩

/-! ### d.get(x), d a table of the top -/
def tKGet (K : PySem.W.Frag) (w : World) (td ty : TE) : TE := fun σ H Q => td σ H fun x H1 => ∃ (a : Addr) (es : Array DictEntry) (n : Nat), x = .ref a ∧ KDict K w a es n ∧ ty σ H1 fun y H2 => ∃ (z : Str) (r : Option Value) (v : V), y = .str z ∧ PySem.W.nsIn K a z = some r ∧ RelV v (r.getD .none) ∧ Q v H2
theorem pe_kget {X : Cx} {o e : Expr} {apos cpos : Pos} {td ty : TE} (ho : PE X o td) (he : PE X e ty) (m : M1 X o "get" apos e cpos) : PE X (.Call (.Attribute o "get" apos) [e] [] cpos) (tKGet X.K X.w td ty) := by
  refine ⟨fun pins s σ H Q I h => ?_⟩
  refine wpAny_Call_method m.base m.few m.line PySem.F.plainAttrs_dict PySem.F.slot_dict_get PySem.F.type_dict_get (thn (ho.run pins s σ H _ I h) fun u s1 ⟨x, H1, I1, rx, a, es, n, ex, D, q1⟩ => ?_)
  subst ex
  cases (show u = Value.ref a from rx)
  refine ⟨kd_type D I1, fun b q => ?_, ?_⟩
  · cases q
    exact ⟨_, I1.kIn _ _ D.at_, rfl⟩
  rw [m.trees]
  refine Calls.callWith_builtin rfl (Calls.evalArgs_plain (Calls.spliced_cons (thn (he.run pins s1 σ H1 _ I1 q1) fun iv s2 ⟨y, H2, I2, ry, z, r, v, ey, en, rv, q2⟩ => Calls.spliced_nil ?_)))
  subst ey
  obtain ⟨t, rfl⟩ := (show ∃ t, iv = Value.str z t from ry)
  have mp := PySem.W.mapOf_K (prog := X.prog) (w := X.w) I2.kIn D.at_ D.lit
  refine call_meetsIn PySem.F.slot_dict_get mp.typeIs PySem.F.entry_dict_get (PySem.F.args_dict_get_2 _ _) (meets_dict_get (strKind X.prog X.w) a (strKind_is X.prog X.w z t) D.low) ⟨_, mp, ?_⟩
  rw [PySem.W.find_K D.at_ en]
  exact ⟨v, H2, I2.tok _, rv, q2⟩

/-! ### what may be walked in two ways -/
theorem pi_or {X : Cx} {tg l : Expr} {w1 w2 : TI} (h1 : PI X tg l w1) (h2 : PI X tg l w2) : PI X tg l (fun σ H R => w1 σ H R ∨ w2 σ H R) := ⟨fun pins s σ H R I h => h.elim (fun k => h1.run pins s σ H R I k) (fun k => h2.run pins s σ H R I k)⟩

/-! ### raise C() -/
theorem pmk0 {X : Cx} {C : Addr} {bmB : List Value} {B newId initId : String} {x : Str} {p pos : Pos} (F : ExcBaseFacts B newId initId bmB) (q : PySem.W.excIn X.K C bmB newId = true) (gC : X.mg x = some (.ref C)) (kC : PySem.W.keepIn X.K (.ref C) = true) (r : Raises X (.ref C)) (hg : Gl X x)
    (hdb : (x == ("__debug__" : Str)) = false := by decide) : PMk X (.Call (.Name x p) [] [] pos) (fun _ H Q => Q (.ref C) none H) := by
  intro pins s σ H Q I h
  refine wpAny_Call_Name_kw (ld_glob I hg gC ?_ hdb)
  refine PySem.W.callWith_K0 I.kIn kC ?_
  show wpAny _ _ (call (.ref C) []) _ _ _
  obtain ⟨bm, N, nm, qn, bs, hdct, sn, sub, ab, col, dd, k0, k1, k2, k3, k5, mN, hC, hN, hni, T⟩ := exc_obj I.kIn q
  exact wpAny_call_exc_subT F T hC hN hni (fun h' a hm => mk_of I hm r h (I.hok.gone hm.new)) (by show 0 ≤ sizeLine; exact Nat.zero_le _)

/-! ### isinstance(e, c), e the error that the suite holds -/
def rIsS (K : PySem.W.Frag) (cls : Value) (d : Option Addr) (a : Addr) : List V → Hp → VK → Prop := fun xs H Q => ∃ (C : Addr) (c : V) (cv : Value) (b : Bool), xs = [.ref a, c] ∧ cls = .ref C ∧ ExcC K C ∧ (∀ dd, d = some dd → ∃ fs, H dd = some (.xd fs)) ∧ ClsV c cv ∧ PySem.W.kitOne K (.ref C) cv = some b ∧ Q (.bl b) H
theorem call_isS {X : Cx} {a : Addr} {oe : Obj} {cls : Value} {d : Option Addr} {pn : List (Addr × Obj)} (hz : Zc cls d oe) (hf : ∃ vs, oe.data = .fields vs) : CallR (X.suite a ((a, oe) :: pn)) (.builtin "isinstance") (rIsS X.K cls d a) := by
  intro pins s σ H xs us Q I r h
  obtain ⟨C, c, cv, b, rfl, rfl, T, hd, kc, e, q⟩ := h
  obtain ⟨u1, u2, rfl, r1, r2⟩ := vals2 r
  cases (show u1 = Value.ref a from r1)
  have e2 := kc.eq r2
  subst e2
  obtain ⟨there, _⟩ := I.pin (a, oe) (List.mem_append_left _ List.mem_cons_self)
  obtain ⟨vs, hv⟩ := hf
  obtain ⟨oc, od, dt, sl⟩ := oe
  obtain ⟨z1, z2⟩ := hz
  dsimp only at z1 z2 hv
  subst z1 z2 hv
  have J : ∃ oD, PySem.W.InstAt s.heap a ⟨.ref C, od, .fields vs, sl⟩ C oD := by
    cases od with
    | none => exact ⟨none, there, rfl, rfl, True.intro⟩
    | some dd =>
      obtain ⟨fs, hx⟩ := hd dd rfl
      have k : ObjOk X.prog X.w H s.heap dd (.xd fs) := I.hok dd _ hx
      obtain ⟨mA, ⟨oD, es, ep, hD, _⟩, _⟩ := k
      exact ⟨some oD, there, rfl, rfl, hD⟩
  obtain ⟨oD, J⟩ := J
  exact PySem.W.kia_one (XV.kitOf T) I.kIn J e (fun z => nomatch z) fun tk => ⟨.bl b, H, I.tok tk, rfl, q⟩

/-! ### try with several clauses, each «as» -/
def wMas (K : PySem.W.Frag) (Wout : WX) (D : Ends) : List (Value × Nat × (Addr → Value → Option Addr → TS)) → WX
  | [] => Wout
  | (c, i, ts) :: more => fun cls d σ H => ∃ b, PySem.W.exmOne K cls c = some b ∧ (b = true → ∀ a, H a = none → ts a cls d { nx := fun σ' H' => D.nx (σ'.set i none) H', rt := D.rt, bk := fun σ' H' => D.bk (σ'.set i none) H', ct := fun σ' H' => D.ct (σ'.set i none) H' } (σ.set i (some (.ref a))) H) ∧
    (b = false → wMas K Wout D more cls d σ H)
inductive HdsA (X : Cx) : List ExceptHandler → List (Value × Nat × (Addr → Value → Option Addr → TS)) → Prop
  | nil : HdsA X [] []
  | cons {x n : Str} {c : Value} {i : Nat} {ts : Addr → Value → Option Addr → TS} {st : Stmt} {suite : List Stmt} {np hp : Pos} {hds : List ExceptHandler} {l : List (Value × Nat × (Addr → Value → Option Addr → TS))} (hc : Names X x c) (hi : X.N[i]? = some n) (hln : X.env.kindOf n = some .local)
      (hsu : ∀ (a : Addr) (oe : Obj) (cls : Value) (d : Option Addr) (pn : List (Addr × Obj)), Zc cls d oe → (∃ vs, oe.data = .fields vs) → PSs (X.suite a ((a, oe) :: pn)) (st :: suite) (ts a cls d)) (more : HdsA X hds l) :
      HdsA X (.ExceptHandler (some (.Name x np)) (some n) (st :: suite) hp :: hds) ((c, i, ts) :: l)
section
variable {X : Cx} {body : List Stmt} {hd0 : ExceptHandler} {hds : List ExceptHandler} {l : List (Value × Nat × (Addr → Value → Option Addr → TS))} {pos : Pos} {tb : WX → TS} {Wout : WX}
theorem ps_try_mas (hst : X.stack = X.env :: X.outer) (hfr0 : X.env.frame = some X.env.locals) (nd : X.N.Nodup) (tk : Takes X Wout)
    (bod : ∀ (W : WX) (pn : List (Addr × Obj)) (xe : Value → Shared → Prop), Takes (X.tr pn xe) W → PassesOwn (model X.prog X.w) X.A X.env xe → PSs (X.tr pn xe) body (tb W))
    (all : HdsA X (hd0 :: hds) l) : PS X (.Try body (hd0 :: hds) [] [] pos) (fun D σ H => tb (wMas X.K Wout D l) D σ H) := by
  refine ⟨fun pins s σ H D I h => ?_⟩
  have okX := I.ok
  have frs0 : X.A.frames = some (X.env :: X.outer) := by rw [okX.frames, hst]
  refine wpAny_Try_except ?_
  refine wpAny_mono ((bod (wMas X.K Wout D l) (X.pn ++ pins) (fun e sa => wpAny (model X.prog X.w) X.A (noteFrame e X.env) (fun _ sb => wpAny (model X.prog X.w) X.A (setFlight e none) (fun _ sc =>
    wpAny (model X.prog X.w) X.A (handleBy e X.env (hd0 :: hds)) (SP X pins D) X.xe sc) X.xe sb) X.xe sa) (fun u st air => ?_) PassesOwn.looking).run [] s σ H D (I.toTry _) h) (fun f s1 fin0 => ?_) (fun _ _ z => z)
  · obtain ⟨a, B, sI, pins', σ1, H1, cls, d, rfl, J0, nb, up, sky, na, os, ag, wish⟩ := air
    have J : Inv X pins σ1 H1 sI := J0.ofTry okX
    have sky1 : Sky B (X.env :: X.outer) a (Zc cls d) X.env.locals st.heap := by rw [← hst]; exact sky
    show wpAny (model X.prog X.w) X.A (noteFrame (.ref a) X.env) _ _ _
    refine Sky.land Zc.steady frs0 hfr0 sky1 fun hA flA upA => ?_
    have JA : Inv X pins σ1 H1 { st with heap := hA } := J.landed nb flA.1 (up.trans upA) os ag
    obtain ⟨oeA, vsA, heA, hzA, hdA⟩ := flA.there
    have noFr : ∀ {hh : Heap} {o : Obj} {ws : Array Value}, hh.FunFrames B (X.env :: X.outer) → hh.get? a = some o → o.data = .fields ws → a ∉ frs (X.env :: X.outer) := fun {hh o ws} ff e dd hm => by
      obtain ⟨_, o2, e2, hnf⟩ := ff.mem hm
      rw [e] at e2
      cases e2
      exact hnf _ dd
    have nfA := noFr flA.2.2.1 heA hdA
    have neL : a ≠ X.env.locals := fun z => nfA (List.mem_filterMap.mpr ⟨X.env, List.mem_cons_self, by rw [hfr0, z]⟩)
    have neF : a ∉ X.fs := fun hm => by
      obtain ⟨e, he, q⟩ := List.mem_filterMap.mp hm
      exact nfA (List.mem_filterMap.mpr ⟨e, List.mem_cons_of_mem _ he, q⟩)
    have SA := JA.suite heA hdA na neL neF
    have walk : ∀ {hs' : List ExceptHandler} {l' : List (Value × Nat × (Addr → Value → Option Addr → TS))}, HdsA X hs' l' → wMas X.K Wout D l' cls d σ1 H1 →
        wpAny (model X.prog X.w) X.A (handleBy (.ref a) X.env hs') (SP X pins D) X.xe { st with heap := hA } := by
      intro hs' l' hk
      induction hk with
      | nil =>
        intro wn
        refine wpAny_handleBy_nil ?_
        obtain ⟨_, _, _, oe, vs, TT, oT, ts', he, hz, hdd, h1, _⟩ := id flA
        unfold PySem.passOn
        refine wpAny_bind (wpAny_field he hdd h1 ?_)
        rw [if_neg (show ¬ ((Value.ref TT == Value.none) = true) from by simp)]
        have on : wpAny (model X.prog X.w) X.A (setFlight (.ref a) X.env.frame) (fun _ sx => wpAny (model X.prog X.w) X.A (throw (.ref a) : Sem Flow) (SP X pins D) X.xe sx) X.xe { st with heap := hA } := by
          rw [hfr0]
          refine HandSPX.setFlight_upZ flA fun hB hhB upB => wpAny_throw (tk _ _ ?_)
          exact ⟨a, B, sI, pins, σ1, H1, cls, d, rfl, J, nb, (up.trans upA).trans upB, .inr (.inr (by rw [hst]; exact hhB)), na, os, ag, wn⟩
        first
          | exact wpAny_bind (wpAny_pure (wpAny_bind on))
          | exact wpAny_bind on
      | @cons x n c i ts st0 suite np hp hds2 l2 hc hi hln hsu more ih =>
        intro wn
        obtain ⟨b, hb1, yes, no⟩ := wn
        refine wpAny_handleBy_cons (codeAny_handlers_test ?_) (by intro q; cases q)
        have LT : PySem.W.Looks (model X.prog X.w) hA (typeOf (.ref a)) cls := fun A' Q' E' s' k q => wpAny_typeOf_ref (k _ _ heA) (by rw [hzA.1]; exact q)
        have LM := PySem.W.exm_one (M := model X.prog X.w) JA.kIn LT hb1
        have nameOf : ∀ {Q' : Value → Shared → Prop} {E' : Value → Shared → Prop}, Q' c { st with heap := hA } → wpAny (model X.prog X.w) (X.A.mark (some (.ref a))) (eval (.Name x np) X.env) Q' E' { st with heap := hA } := fun {Q' E'} q => by
          obtain ⟨hg, hdbg, hm | ⟨hm, hv, hnn⟩⟩ := hc
          · exact ld_glob (X := X.suite a ((a, oeA) :: (X.pn ++ pins))) SA hg hm q hdbg
          · exact ld_blt (X := X.suite a ((a, oeA) :: (X.pn ++ pins))) SA hg hm hv q hnn hdbg
        refine nameOf (LM.here ?_)
        cases b with
        | false =>
          show wpAny _ X.A (handleBy (.ref a) X.env hds2) _ _ _
          exact ih (no rfl)
        | true =>
          refine codeAny_handlers_suite_as ?_
          refine HandSPX.lands_againZ flA fun hB flB upB => ?_
          have JB : Inv X pins σ1 H1 { st with heap := hB } := J.landed nb flB.1 ((up.trans upA).trans upB) os ag
          obtain ⟨oeB, vsB, heB, hzB, hdB⟩ := flB.there
          have SB := JB.suite heB hdB na neL neF
          refine store_ok (X := X.suite a ((a, oeB) :: (X.pn ++ pins))) (v := .ref a) SB nd hi (.inl hln) rfl (fun s5 S5 => ?_) (.inr hln)
          refine wpAny_mono ((hsu a oeB cls d (X.pn ++ pins) hzB ⟨_, hdB⟩).run [] s5 _ H1 _ S5 (yes rfl a na)) (fun f s6 q0 => ?_) (fun _ _ z => False.elim z)
          have gone : ∀ {σ6 : L2.St} {H6 : Hp} {Q6 : Shared → Prop}, Inv (X.suite a ((a, oeB) :: (X.pn ++ pins))) [] σ6 H6 s6 → (∀ s7, Inv X pins (σ6.set i none) H6 s7 → Q6 s7) →
              wpAny (model X.prog X.w) X.A (do bindName X.env n .none; unbindBehindTheSuite X.env n hp) (fun _ s7 => Q6 s7) X.xe s6 := fun {σ6 H6 Q6} S6 hq => gone_ok (S6.unsuite okX) nd hi hln hq
          cases f with
          | next =>
            obtain ⟨_, _, S6, q6⟩ := q0
            exact gone S6 fun s7 J7 => ⟨_, _, J7, q6⟩
          | brk =>
            obtain ⟨_, _, S6, q6⟩ := q0
            exact gone S6 fun s7 J7 => ⟨_, _, J7, q6⟩
          | cont =>
            obtain ⟨_, _, S6, q6⟩ := q0
            exact gone S6 fun s7 J7 => ⟨_, _, J7, q6⟩
          | ret u =>
            obtain ⟨_, _, _, S6, r6, q6⟩ := q0
            exact gone S6 fun s7 J7 => ⟨_, _, _, J7, r6, q6⟩
    exact walk all wish
  · cases f with
    | next =>
      obtain ⟨_, _, J1, q⟩ := fin0
      exact wpAny_execs_nil ⟨_, _, J1.ofTry okX, q⟩
    | brk =>
      obtain ⟨_, _, J1, q⟩ := fin0
      exact ⟨_, _, J1.ofTry okX, q⟩
    | cont =>
      obtain ⟨_, _, J1, q⟩ := fin0
      exact ⟨_, _, J1.ofTry okX, q⟩
    | ret v =>
      obtain ⟨_, _, _, J1, r, q⟩ := fin0
      exact ⟨_, _, _, J1.ofTry okX, r, q⟩
end
end XR

set_option Elab.async false
set_option linter.all false
set_option maxRecDepth 100000
set_option maxHeartbeats 4000000
/-! A pen: a pair of a list of numbers and a count, changed by each draw; all else stands. -/
namespace PEN
open PySem PySem.Spec PyProof.Rows L2 Evl

def cut (p l : Addr) (H : Hp) : Hp := fun a => if a = p ∨ a = l then none else H a
theorem cut_at {p l a : Addr} {H : Hp} (h1 : a ≠ p) (h2 : a ≠ l) : cut p l H a = H a := by
  unfold cut
  rw [if_neg (by rintro (z | z) <;> contradiction)]
theorem cut_some {p l a : Addr} {H : Hp} {o : HO} (h : cut p l H a = some o) : a ≠ p ∧ a ≠ l ∧ H a = some o := by
  unfold cut at h
  by_cases z : a = p ∨ a = l
  · rw [if_pos z] at h
    cases h
  · rw [if_neg z] at h
    exact ⟨fun e => z (.inl e), fun e => z (.inr e), h⟩
theorem cut_ex {p l : Addr} {H : Hp} : Ex (cut p l H) H := fun a o h => (cut_some h).2.2
theorem cut_mono {p l : Addr} {H H' : Hp} (e : Ex H H') : Ex (cut p l H) (cut p l H') := fun a o h => by
  obtain ⟨h1, h2, h3⟩ := cut_some h
  rw [cut_at h1 h2]
  exact e _ _ h3
/-- all but the pen stands -/
def Px (p l : Addr) (H H' : Hp) : Prop := Ex (cut p l H) (cut p l H')
theorem Px.refl {p l : Addr} (H : Hp) : Px p l H H := Ex.refl _
theorem Px.trans {p l : Addr} {H H1 H2 : Hp} (a : Px p l H H1) (b : Px p l H1 H2) : Px p l H H2 := Ex.trans a b
theorem Px.of {p l : Addr} {H H' : Hp} (e : Ex H H') : Px p l H H' := cut_mono e
theorem Px.get {p l a : Addr} {H H' : Hp} {o : HO} (k : Px p l H H') (h1 : a ≠ p) (h2 : a ≠ l) (h : H a = some o) : H' a = some o := (cut_some (k a o ((cut_at h1 h2).trans h))).2.2
theorem Px.upd {p l : Addr} {H H' : Hp} {a : Addr} {o : HO} (k : Px p l H H') (h : a = p ∨ a = l ∨ H a = none) : Px p l H (upd H' a o) := fun b u hb => by
  obtain ⟨h1, h2, h3⟩ := cut_some hb
  have n : b ≠ a := by
    rintro rfl
    rcases h with z | z | z
    · exact h1 z
    · exact h2 z
    · rw [z] at h3
      cases h3
  rw [cut_at h1 h2, upd_ne n]
  exact k.get h1 h2 h3
theorem Px.fresh {p l a : Addr} {H H' : Hp} (k : Px p l H H') (h1 : a ≠ p) (h2 : a ≠ l) (h : H' a = none) : H a = none := by
  cases z : H a with
  | none => rfl
  | some o =>
    rw [k.get h1 h2 z] at h
    cases h
/-- a pen with b draws left to it -/
def Pen (p l : Addr) (b : Nat) (H : Hp) : Prop := ∃ (c : Int) (ns : List Int), H p = some (.lst [.ref l, .int c]) ∧ H l = some (.lst (ns.map V.int)) ∧ ns ≠ [] ∧ 0 ≤ c ∧ c + b ≤ 1000000000000
theorem Pen.ne {p l : Addr} {b : Nat} {H : Hp} (h : Pen p l b H) : p ≠ l := by
  obtain ⟨c, ns, h1, h2, _⟩ := h
  rintro rfl
  rw [h1] at h2
  have z := HO.lst.inj (Option.some.inj h2)
  cases ns with
  | nil => cases z
  | cons n r =>
    rw [List.map_cons] at z
    cases (List.cons.inj z).1
theorem Pen.ex {p l : Addr} {b : Nat} {H H' : Hp} (e : Ex H H') (h : Pen p l b H) : Pen p l b H' := by
  obtain ⟨c, ns, h1, h2, h3⟩ := h
  exact ⟨c, ns, e _ _ h1, e _ _ h2, h3⟩
theorem Pen.less {p l : Addr} {b b' : Nat} {H : Hp} (h : Pen p l b H) (k : b' ≤ b) : Pen p l b' H := by
  obtain ⟨c, ns, h1, h2, h3, h4, h5⟩ := h
  exact ⟨c, ns, h1, h2, h3, h4, by omega⟩
theorem Pen.upd {p l a : Addr} {b : Nat} {H : Hp} {o : HO} (h : Pen p l b H) (h1 : a ≠ p) (h2 : a ≠ l) : Pen p l b (upd H a o) := by
  obtain ⟨c, ns, e1, e2, h3⟩ := h
  exact ⟨c, ns, (upd_ne (Ne.symm h1)).trans e1, (upd_ne (Ne.symm h2)).trans e2, h3⟩
/-- a new thing is not the pen -/
theorem Pen.new {p l a : Addr} {b : Nat} {H : Hp} (h : Pen p l b H) (n : H a = none) : a ≠ p ∧ a ≠ l := by
  obtain ⟨c, ns, e1, e2, _⟩ := h
  exact ⟨(ne_of_none e1 n).symm, (ne_of_none e2 n).symm⟩
theorem cut_fresh {p l a : Addr} {H : Hp} (h : H a = none) : cut p l H a = none := by
  unfold cut
  split
  · rfl
  · exact h
/-- a comprehension without a test goes on with its element -/
theorem yes_go {te : TE} {σ : L2.St} {H : Hp} {R : VK} {B : Hp → Prop} (h : te σ H R) : tYes σ H (fun b H3 => if b = true then te σ H3 R else B H3) := by
  show (if true = true then te σ H R else B H)
  exact iteT h
theorem fits {n : Nat} (h : n ≤ 1000) : n ≤ sizeLine := Nat.le_of_lt (small1000 h)
/-! ### names -/
/-- the signs of a name -/
def Let (z : Str) : Prop := ∀ c ∈ z.cps.toList, 97 ≤ c ∧ c ≤ 122
/-! ### the promises -/
def spDraw : Sp := fun vs H Q _ => ∃ (p l : Addr) (m : Int) (b : Nat), vs = [.ref p, .int m] ∧ (0 < m ∧ m < 1073741824) ∧ Pen p l (b + 1) H ∧ ∀ r H', 0 ≤ r ∧ r < m → Px p l H H' → Pen p l b H' → Q (.int r) H'
def spPick (K : PySem.W.Frag) : Sp := fun vs H Q _ => ∃ (p l a : Addr) (xs : List V) (b : Nat), vs = [.ref p, .ref a] ∧ SqL K (cut p l H) a xs ∧ (xs ≠ [] ∧ xs.length ≤ 1000000) ∧ Pen p l (b + 1) H ∧ ∀ r H', r ∈ xs → Px p l H H' → Pen p l b H' → Q r H'
def spWord : Sp := fun vs H Q _ => ∃ (p l : Addr) (m b : Nat), vs = [.ref p, .int (m : Int)] ∧ (1 ≤ m ∧ m ≤ 12) ∧ Pen p l (b + 14) H ∧ ∀ (z : Str) H', (Let z ∧ 1 ≤ z.length ∧ z.length ≤ m) → Px p l H H' → Pen p l b H' → Q (.str z) H'
def NamesOk (ys : List Str) : Prop := ys.Nodup ∧ ∀ y ∈ ys, Let y ∧ 1 ≤ y.length ∧ y.length ≤ 12
def spNames (K : PySem.W.Frag) : Sp := fun vs H Q _ => ∃ (p l : Addr) (n b : Nat), vs = [.ref p, .int (n : Int)] ∧ n ≤ 11 ∧ Pen p l (b + n * 16) H ∧
  ∀ (q : Addr) (ys : List Str) H', H q = none → H' q = some (.lst (ys.map V.str)) → ys.length = n → NamesOk ys → Px p l H H' → Pen p l b H' → Q (.ref q) H'
end PEN

set_option Elab.async false
set_option linter.all false
set_option maxRecDepth 100000
set_option maxHeartbeats 4000000
/-! A head's facts as any tests of the written part, and tables with text keys beside them. -/
namespace XT
open PySem PySem.Spec PyProof.Rows L2 He XH
abbrev AlU : Type := AlD × List (Option (List (Option (Str × Int))))
def obsU (ff : List Fc) (dd : List DefD) (tt : List Tab) (K : PySem.W.Frag) : AlU := (obsB ff dd K, tt.map fun x => dicW K (x.1 K))
def valU (dd : List DefD) (tt : List Tab) (w : World) : AlU := (valD dd, tt.map fun x => some (keysIn w.params x.2))
def obsUG (n : Nat) (ff : List Fc) (dd : List DefD) (tt : List Tab) (h0 : Addr → Option Obj) : AlU := obsU ff dd tt (frG h0 (asD h0 n))
def SaysU (ff : List Fc) (dd : List DefD) (tt : List Tab) (w : World) (K : PySem.W.Frag) : Prop := obsU ff dd tt K = valU dd tt w
def hookU (n : Nat) (ff : List Fc) (dd : List DefD) (tt : List Tab) : PySem.W.Hook where
  α := AlU
  obs := fun st => obsUG n ff dd tt st.heap.get?
  val := fun ww => valU dd tt ww
  says := fun ww hh => ∃ K : PySem.W.Frag, K.In hh ∧ SaysU ff dd tt ww K
  of := fun _ _ z => ⟨_, frG_in, z⟩
  keeps := fun _ _ _ ⟨K, inn, c⟩ kk => ⟨K, PySem.W.Frag.In.keeps inn kk, c⟩
theorem obsUG_eq {n : Nat} {ff : List Fc} {dd : List DefD} {tt : List Tab} {h0 : Addr → Option Obj} {st : Shared} (h : ∀ a, h0 a = st.heap.get? a) : obsUG n ff dd tt h0 = (hookU n ff dd tt).obs st := by
  have z : h0 = st.heap.get? := funext h
  rw [z]
  rfl
section
variable {ff : List Fc} {dd : List DefD} {tt : List Tab} {w : World} {K : PySem.W.Frag}
theorem SaysU.b (c : SaysU ff dd tt w K) : SaysB ff dd K := congrArg (fun z : AlU => z.1) c
theorem SaysU.at (c : SaysU ff dd tt w K) (i : Nat) {x : Tab} (h : tt[i]? = some x := by rfl) : ∃ es n, KDict K w (x.1 K) es n := by
  have z : (tt.map fun x => dicW K (x.1 K)) = tt.map fun x => some (keysIn w.params x.2) := congrArg (fun z : AlU => z.2) c
  have z2 : (tt.map fun x => dicW K (x.1 K))[i]? = (tt.map fun x => some (keysIn w.params x.2))[i]? := congrArg (fun l => l[i]?) z
  rw [List.getElem?_map, List.getElem?_map, h] at z2
  exact dicW_ok (Option.some.inj z2)
end
/-- an entry of a table that is an empty tuple of the top; that is any object -/
def emptyB (K : PySem.W.Frag) (x k : Str) : Bool := match PySem.W.nsIn K (ga K x) k with
  | some (some (.ref a)) => (match K.lookup a with
    | some ⟨.type c, _, .seq its _, _⟩ => c == "tuple" && its.toList.isEmpty
    | _ => false)
  | _ => false
theorem emptyB_ok {K : PySem.W.Frag} {x k : Str} (q : emptyB K x k = true) : ∃ a, PySem.W.nsIn K (ga K x) k = some (some (.ref a)) ∧ ∀ H, SqT K H a [] := by
  unfold emptyB at q
  split at q
  · rename_i a e
    split at q
    · rename_i c dd its n sl e2
      obtain ⟨q1, q2⟩ := ba q
      have e3 := beq_iff_eq.mp q1
      subst e3
      have e4 : its.toList = [] := List.isEmpty_iff.mp q2
      refine ⟨a, e, fun H => .inr ⟨_, its, n, e2, rfl, rfl, ?_, ?_⟩⟩
      · rw [← Array.length_toList, e4]
        exact Nat.zero_le _
      · rw [e4]
        exact .nil
    · cases q
  · cases q
def refB (K : PySem.W.Frag) (x k : Str) : Bool := match PySem.W.nsIn K (ga K x) k with
  | some (some (.ref _)) => true
  | _ => false
theorem refB_ok {K : PySem.W.Frag} {x k : Str} (q : refB K x k = true) : ∃ a, PySem.W.nsIn K (ga K x) k = some (some (.ref a)) := by
  unfold refB at q
  split at q
  · rename_i a e
    exact ⟨a, e⟩
  · cases q
end XT

set_option Elab.async false
set_option linter.all false
set_option maxRecDepth 100000
set_option maxHeartbeats 8000000

namespace K02
open PySem PySem.Spec PyProof.Rows L2 He XH XV XR PEN Evl
def top (i : Nat) : Stmt := PySem.Challenge.pw_tryback_k02_names_refused.main.body.getD i (.Pass ⟨0, 0, 0, 0⟩)
abbrev s_wall : Stmt := top 0
theorem sc_wall : FnScope ["k"] ["k"] (defScope s_wall) := ⟨rfl, rfl, rfl, by decide +kernel, rfl, by decide +kernel, by decide +kernel⟩
abbrev s_BadCode_init : Stmt := inClass (top 3) 0
theorem sc_BadCode_init : FnScope ["self", "function", "number"] ["self", "function", "number"] (defScope s_BadCode_init) := ⟨rfl, rfl, rfl, by decide +kernel, rfl, by decide +kernel, by decide +kernel⟩
abbrev s_Function_init : Stmt := inClass (top 17) 0
theorem sc_Function_init : FnScope ["self", "name", "body"] ["self", "name", "body"] (defScope s_Function_init) := ⟨rfl, rfl, rfl, by decide +kernel, rfl, by decide +kernel, by decide +kernel⟩
abbrev s_Function___eq__ : Stmt := inClass (top 17) 1
theorem sc_Function___eq__ : FnScope ["self", "other"] ["self", "other"] (defScope s_Function___eq__) := ⟨rfl, rfl, rfl, by decide +kernel, rfl, by decide +kernel, by decide +kernel⟩
abbrev s_Code_init : Stmt := inClass (top 18) 0
theorem sc_Code_init : FnScope ["self", "cells", "rows", "functions", "start", "names", "function"] ["self", "cells", "rows", "functions", "start"] (defScope s_Code_init) := ⟨rfl, rfl, rfl, by decide +kernel, rfl, by decide +kernel, by decide +kernel⟩
abbrev s_Code_named : Stmt := inClass (top 18) 1
theorem sc_Code_named : FnScope ["self", "name"] ["self", "name"] (defScope s_Code_named) := ⟨rfl, rfl, rfl, by decide +kernel, rfl, by decide +kernel, by decide +kernel⟩
abbrev s_Code___eq__ : Stmt := inClass (top 18) 2
theorem sc_Code___eq__ : FnScope ["self", "other"] ["self", "other"] (defScope s_Code___eq__) := ⟨rfl, rfl, rfl, by decide +kernel, rfl, by decide +kernel, by decide +kernel⟩
abbrev s_frozen : Stmt := top 19
theorem sc_frozen : FnScope ["thing", "entry"] ["thing"] (defScope s_frozen) := ⟨rfl, rfl, rfl, by decide +kernel, rfl, by decide +kernel, by decide +kernel⟩
abbrev s_is_name : Stmt := top 20
theorem sc_is_name : FnScope ["word", "letter"] ["word"] (defScope s_is_name) := ⟨rfl, rfl, rfl, by decide +kernel, rfl, by decide +kernel, by decide +kernel⟩
abbrev s_kinds_of : Stmt := top 21
theorem sc_kinds_of : FnScope ["statement"] ["statement"] (defScope s_kinds_of) := ⟨rfl, rfl, rfl, by decide +kernel, rfl, by decide +kernel, by decide +kernel⟩
abbrev s_parts_of : Stmt := top 22
theorem sc_parts_of : FnScope ["statement", "kinds", "entry", "kind"] ["statement"] (defScope s_parts_of) := ⟨rfl, rfl, rfl, by decide +kernel, rfl, by decide +kernel, by decide +kernel⟩
abbrev s_numbered : Stmt := top 23
theorem sc_numbered : FnScope ["body", "around", "found", "statement", "number", "part"] ["body", "around"] (defScope s_numbered) := ⟨rfl, rfl, rfl, by decide +kernel, rfl, by decide +kernel, by decide +kernel⟩
abbrev s_check_bounds : Stmt := top 24
theorem sc_check_bounds : FnScope ["code"] ["code"] (defScope s_check_bounds) := ⟨rfl, rfl, rfl, by decide +kernel, rfl, by decide +kernel, by decide +kernel⟩
abbrev s_check_names : Stmt := top 25
theorem sc_check_names : FnScope ["code", "called", "seen", "name", "function"] ["code"] (defScope s_check_names) := ⟨rfl, rfl, rfl, by decide +kernel, rfl, by decide +kernel, by decide +kernel⟩
abbrev s_names_by_kind : Stmt := top 26
theorem sc_names_by_kind : FnScope ["code", "called", "function"] ["code"] (defScope s_names_by_kind) := ⟨rfl, rfl, rfl, by decide +kernel, rfl, by decide +kernel, by decide +kernel⟩
abbrev s_check_body : Stmt := top 27
theorem sc_check_body : FnScope ["function", "names", "number", "statement", "around"] ["function", "names"] (defScope s_check_body) := ⟨rfl, rfl, rfl, by decide +kernel, rfl, by decide +kernel, by decide +kernel⟩
abbrev s_well_formed : Stmt := top 28
theorem sc_well_formed : FnScope ["statement", "names", "kinds", "entry", "kind"] ["statement", "names"] (defScope s_well_formed) := ⟨rfl, rfl, rfl, by decide +kernel, rfl, by decide +kernel, by decide +kernel⟩
abbrev s_fits : Stmt := top 29
theorem sc_fits : FnScope ["entry", "kind", "names"] ["entry", "kind", "names"] (defScope s_fits) := ⟨rfl, rfl, rfl, by decide +kernel, rfl, by decide +kernel, by decide +kernel⟩
abbrev s_misplaced : Stmt := top 30
theorem sc_misplaced : FnScope ["word", "around", "block"] ["word", "around"] (defScope s_misplaced) := ⟨rfl, rfl, rfl, by decide +kernel, rfl, by decide +kernel, by decide +kernel⟩
abbrev s_law_draw : Stmt := top 32
theorem sc_law_draw : FnScope ["_law_pen", "_law_many", "_law_spot", "_law_at", "_law_cell", "_law_mixed"] ["_law_pen", "_law_many"] (defScope s_law_draw) := ⟨rfl, rfl, rfl, by decide +kernel, rfl, by decide +kernel, by decide +kernel⟩
abbrev s_law_pick : Stmt := top 33
theorem sc_law_pick : FnScope ["_law_pen", "_law_row"] ["_law_pen", "_law_row"] (defScope s_law_pick) := ⟨rfl, rfl, rfl, by decide +kernel, rfl, by decide +kernel, by decide +kernel⟩
abbrev s_law_word : Stmt := top 34
theorem sc_law_word : FnScope ["_law_pen", "_law_most", "_law_letters", "_law_k"] ["_law_pen", "_law_most"] (defScope s_law_word) := ⟨rfl, rfl, rfl, by decide +kernel, rfl, by decide +kernel, by decide +kernel⟩
abbrev s_law_names : Stmt := top 35
theorem sc_law_names : FnScope ["_law_pen", "_law_many", "_law_found", "_law_k", "_law_name_here", "_law_spare", "_law_word_here", "_law_n"] ["_law_pen", "_law_many"] (defScope s_law_names) := ⟨rfl, rfl, rfl, by decide +kernel, rfl, by decide +kernel, by decide +kernel⟩
abbrev s_law_name : Stmt := top 36
theorem sc_law_name : FnScope ["_law_pen", "_law_good_here", "_law_bad"] ["_law_pen", "_law_good_here"] (defScope s_law_name) := ⟨rfl, rfl, rfl, by decide +kernel, rfl, by decide +kernel, by decide +kernel⟩
abbrev s_law_good : Stmt := top 37
theorem sc_law_good : FnScope ["_law_name_here", "_law_letters", "_law_sign"] ["_law_name_here"] (defScope s_law_good) := ⟨rfl, rfl, rfl, by decide +kernel, rfl, by decide +kernel, by decide +kernel⟩
abbrev s_law_due : Stmt := top 38
theorem sc_law_due : FnScope ["_law_cells", "_law_rows", "_law_order", "_law_start", "_law_names_here", "_law_at"] ["_law_cells", "_law_rows", "_law_order", "_law_start"] (defScope s_law_due) := ⟨rfl, rfl, rfl, by decide +kernel, rfl, by decide +kernel, by decide +kernel⟩
abbrev s_law_told : Stmt := top 39
theorem sc_law_told : FnScope ["_law_cells", "_law_rows", "_law_functions", "_law_start", "_law_code", "_law_told_here", "e"] ["_law_cells", "_law_rows", "_law_functions", "_law_start"] (defScope s_law_told) := ⟨rfl, rfl, rfl, by decide +kernel, rfl, by decide +kernel, by decide +kernel⟩
abbrev s_law : Stmt := top 40
theorem sc_law : FnScope ["_law_script", "_law_pen", "_law_turn", "_law_counts", "_law_names_here", "_law_cells", "_law_rest", "_law_rows", "_law_order", "_law_start", "_law_body", "_law_functions", "_law_name_here"] ["_law_script"] (defScope s_law) := ⟨rfl, rfl, rfl, by decide +kernel, rfl, by decide +kernel, by decide +kernel⟩
abbrev FnP (K : PySem.W.Frag) (x qn : Str) (st : Stmt) (f : Addr) (fd : FuncData) : Prop := FunD K x qn (defArgs st) (defBody st) (defScope st) [] [] f fd
def globs : List Str := ["BadCode", "CHANGE_WORDS", "Code", "ENTRIES", "FIXED_WORDS", "Function", "ROUND_WORDS", "TooGreat", "TryError", "_law_draw", "_law_due", "_law_good", "_law_name", "_law_names", "_law_pick", "_law_told", "_law_word", "_wall", "check_body", "check_bounds", "check_names", "fits", "frozen", "is_name", "kinds_of", "law", "misplaced", "names_by_kind", "numbered", "parts_of", "well_formed"]
def frees : List Str := ["range", "len", "int", "str", "list", "tuple", "isinstance", "all", "sum", "zip", "enumerate", "ValueError"]
def Cl (P : Program) (w : World) (K : PySem.W.Frag) (mg : Str → Option Value) (base : Heap) (CX : CXT) (k : Nat) (f : Addr) (ps : List Str) (sp : Sp) : Prop := ∃ fd, FnOk P w K mg base CX k f fd ps sp ∧ Binds K fd ps [] ∧ PySem.W.keepIn K (.ref f) = true
structure Txt (K : PySem.W.Frag) (w : World) (mg : Str → Option Value) : Prop where
  gl : ∀ x ∈ globs, mg x = some (.ref (ga K x))
  fr : ∀ x ∈ frees, mg x = none
  c_MOST_CELLS : ∃ t, mg "MOST_CELLS" = some (.int 3 t)
  c_MOST_ROWS : ∃ t, mg "MOST_ROWS" = some (.int 2 t)
  c_MOST_FUNCTIONS : ∃ t, mg "MOST_FUNCTIONS" = some (.int 3 t)
  c_MOST_STATEMENTS : ∃ t, mg "MOST_STATEMENTS" = some (.int 14 t)
  c_MOST_BLOCKS_AROUND : ∃ t, mg "MOST_BLOCKS_AROUND" = some (.int 2 t)
  c_LONGEST_NAME : ∃ t, mg "LONGEST_NAME" = some (.int 12 t)
  c_LETTERS : ∃ t, mg "LETTERS" = some (.str "abcdefghijklmnopqrstuvwxyz" t)
end K02
set_option Elab.async false
set_option linter.all false
set_option maxRecDepth 100000
set_option maxHeartbeats 8000000
namespace K02
open PySem PySem.Spec PyProof.Rows L2 He XH XV XR PEN Evl

section
variable {P : Program} {w : World} {K : PySem.W.Frag} {mg : Str → Option Value} {base : Heap}

theorem ok_law_draw {fd : FuncData} (F : FnP K "_law_draw" "_law_draw" s_law_draw (ga K "_law_draw") fd) (T : Txt K w mg) : FnOk P w K mg base CX0 (0 + 1) (ga K "_law_draw") fd ["_law_pen", "_law_many"] spDraw := by
  refine FunD.ok F sc_law_draw (fun vs H Q E h => ?_) (fun cdv A outer s H vs Q E hr h => ?_)
  · obtain ⟨p, l, m, b, rfl, _⟩ := h
    rfl
  · obtain ⟨p, l, m, b, rfl, ⟨m0, m1⟩, hP, kk⟩ := h
    have n_int := T.fr "int" (by decide +kernel)
    have n_len := T.fr "len" (by decide +kernel)
    refine ⟨_, PSs.nox (pss_cons (ps_set (i := 2) sc_law_draw.nd rfl (Or.inl rfl) (pe_ix ix_list (pv 0) pe_int (fun _ _ => rfl)))
      (pss_cons (ps_asg (pe_op op_add (pv 2) pe_int) (pg_sub (pv 0) pe_int set_list))
      (pss_cons (ps_set (i := 3) sc_law_draw.nd rfl (Or.inl rfl) (pe_op op_mod (pe_callTy call_int1 (by rfl) n_int (by decide +kernel) (pa_cons (pv 2) pa_nil)) (pe_callB call_len_seq (by rfl) n_len (by decide +kernel) (pa_cons (pe_ix ix_list (pv 0) pe_int (fun _ _ => rfl)) pa_nil))))
      (pss_cons (ps_set (i := 4) sc_law_draw.nd rfl (Or.inl rfl) (pe_callTy call_int1 (by rfl) n_int (by decide +kernel) (pa_cons (pe_ix ix_list (pe_ix ix_list (pv 0) pe_int (fun _ _ => rfl)) (pv 3) (fun _ _ => rfl)) pa_nil)))
      (pss_cons (ps_if (pt_cmpR op_ge (pv 4) (pe_op op_pow pe_int pe_int) (nomark _))
      (pss_cons (ps_asg (pe_op op_fdiv (pv 4) (pv 1)) (pg_sub (pe_ix ix_list (pv 0) pe_int (fun _ _ => rfl)) (pv 3) set_list))
      (pss_one (ps_ret (pe_op op_mod (pe_callTy call_int1 (by rfl) n_int (by decide +kernel) (pa_cons (pv 4) pa_nil)) (pv 1)))))
      pss_nil)
      (pss_cons (ps_set (i := 5) sc_law_draw.nd rfl (Or.inl rfl) (pe_op op_pow (pe_callTy call_int1 (by rfl) n_int (by decide +kernel) (pa_cons (pe_op op_add (pe_op op_add (pe_op op_mul (pe_op op_mod (pe_callTy call_int1 (by rfl) n_int (by decide +kernel) (pa_cons (pv 4) pa_nil)) pe_int) pe_int) (pe_op op_mul (pv 2) pe_int)) pe_int) pa_nil)) pe_int))
      (pss_one (ps_ret (pe_op op_mod (pe_op op_fdiv (pe_callTy call_int1 (by rfl) n_int (by decide +kernel) (pa_cons (pe_op op_mod (pe_callTy call_int1 (by rfl) n_int (by decide +kernel) (pa_cons (pv 5) pa_nil)) pe_int) pa_nil)) pe_int) (pv 1)))))))))), ?_⟩
    have npl := hP.ne
    obtain ⟨c, ns, hp, hl, hne, c0, c1⟩ := hP
    have hl' : 0 < ns.length := by
      cases ns with
      | nil => exact absurd rfl hne
      | cons x r => exact Nat.succ_pos _
    have h1 : upd H p (.lst [.ref l, .int (c + 1)]) p = some (.lst [.ref l, .int (c + 1)]) := upd_same
    have h2 : upd H p (.lst [.ref l, .int (c + 1)]) l = some (.lst (ns.map V.int)) := (upd_ne npl.symm).trans hl
    have px1 : Px p l H (upd H p (.lst [.ref l, .int (c + 1)])) := (Px.refl H).upd (.inl rfl)
    have pen1 : Pen p l b (upd H p (.lst [.ref l, .int (c + 1)])) := ⟨c + 1, ns, h1, h2, hne, by omega, by omega⟩
    refine ⟨.ref p, rfl, p, _, 1, .int c, rfl, rfl, SqL.of hp, atI_nat (j := 1) rfl, ?_⟩
    refine ⟨.int c, rfl, c, 1, rfl, rfl, .ref p, rfl, p, _, 1, 1, rfl, rfl, hp, rfl, ?_⟩
    have em := Int.emod_nonneg c (show ((ns.map V.int).length : Int) ≠ 0 by rw [List.length_map]; omega)
    have el := Int.emod_lt_of_pos c (show (0 : Int) < ((ns.map V.int).length : Int) by rw [List.length_map]; omega)
    refine ⟨.int c, rfl, .inl ⟨c, rfl, .ref p, rfl, p, _, 0, .ref l, rfl, rfl, SqL.of h1, atI_nat (j := 0) rfl, l, _, rfl, .inl (SqL.of h2), c, _, rfl, rfl, (by show (0 : Int) < ((ns.map V.int).length : Int); rw [List.length_map]; omega), ?_⟩⟩
    generalize hz : c % ((ns.map V.int).length : Int) = z at em el
    obtain ⟨j, rfl⟩ : ∃ j : Nat, z = (j : Int) := ⟨z.toNat, by omega⟩
    have hj : j < ns.length := by
      rw [List.length_map] at el
      omega
    have gj : (ns.map V.int)[j]? = some (.int ns[j]) := by
      rw [List.getElem?_map, List.getElem?_eq_getElem hj]
      rfl
    generalize ns[j] = x at gj
    refine ⟨.ref p, rfl, p, _, 0, .ref l, rfl, rfl, SqL.of h1, atI_nat (j := 0) rfl, .int (c % ((ns.map V.int).length : Int)), rfl, l, _, j, .int x, rfl, by rw [hz], SqL.of h2, atI_nat gj, .inl ⟨x, rfl, ?_⟩⟩
    refine ⟨.int x, rfl, 10, 18, rfl, rfl, ⟨by decide, by decide, by decide⟩, x, _, rfl, rfl, _, rfl, ite2 (fun _ => ?_) (fun _ => ?_)⟩
    · have h3 : upd (upd H p (.lst [.ref l, .int (c + 1)])) l (.lst ((ns.map V.int).set j (.int (x / m)))) p = some (.lst [.ref l, .int (c + 1)]) := (upd_ne npl).trans h1
      have e3 : (ns.map V.int).set j (.int (x / m)) = (ns.set j (x / m)).map V.int := List.map_set.symm
      refine ⟨.int x, rfl, .int m, rfl, x, m, rfl, rfl, ⟨m0, m1⟩, .ref p, rfl, p, _, 0, .ref l, rfl, rfl, SqL.of h1, atI_nat (j := 0) rfl, .int (c % ((ns.map V.int).length : Int)), rfl, l, _, j, j, rfl, by rw [hz], h2, ixN_nat (by rw [List.length_map]; exact hj), ?_⟩
      refine ⟨.int x, rfl, .inl ⟨x, rfl, .int m, rfl, x, m, rfl, rfl, m0, ?_⟩⟩
      refine kk _ _ ⟨Int.emod_nonneg _ (by omega), Int.emod_lt_of_pos _ m0⟩ (px1.upd (.inr (.inl rfl))) ⟨c + 1, ns.set j (x / m), h3, ?_, ?_, by omega, by omega⟩
      · rw [← e3]
        exact upd_same
      · intro q
        have q2 : (ns.set j (x / m)).length = 0 := by
          rw [q]
          rfl
        rw [List.length_set] at q2
        omega
    · refine ⟨.int x, rfl, .inl ⟨x, rfl, x, 1000000007, rfl, rfl, (show (0 : Int) < 1000000007 by decide), _, 48271, rfl, rfl, .inr ⟨by decide, by decide⟩, .int c, rfl, c, 7919, rfl, rfl, .inr ⟨by decide, by decide⟩, _, _, rfl, rfl, _, 104729, rfl, rfl, .inl ⟨_, rfl, _, 5, rfl, rfl, ?_, ?_⟩⟩⟩
      · have z0 := Int.emod_nonneg x (show (1000000007 : Int) ≠ 0 by decide)
        have z1 := Int.emod_lt_of_pos x (show (0 : Int) < 1000000007 by decide)
        refine ⟨by decide, by decide, ?_⟩
        generalize x % 1000000007 = u at *
        omega
      · refine ⟨_, rfl, .inl ⟨_, rfl, _, 2147483647, rfl, rfl, (show (0 : Int) < 2147483647 by decide), .inl ⟨_, rfl, _, 8, rfl, rfl, ⟨by decide, by decide⟩, .int m, rfl, _, m, rfl, rfl, m0, ?_⟩⟩⟩
        exact kk _ _ ⟨Int.emod_nonneg _ (by omega), Int.emod_lt_of_pos _ m0⟩ px1 pen1

theorem ok_law_pick {fd : FuncData} (F : FnP K "_law_pick" "_law_pick" s_law_pick (ga K "_law_pick") fd) (T : Txt K w mg) (c_law_draw : Cl P w K mg base CX0 1 (ga K "_law_draw") ["_law_pen", "_law_many"] spDraw) : FnOk P w K mg base CX0 (1 + 1) (ga K "_law_pick") fd ["_law_pen", "_law_row"] (spPick K) := by
  obtain ⟨fd_law_draw, G_law_draw, b_law_draw, kp_law_draw⟩ := c_law_draw
  refine FunD.ok F sc_law_pick (fun vs H Q E h => ?_) (fun cdv A outer s H vs Q E hr h => ?_)
  · obtain ⟨p, l, a, xs, b, rfl, _⟩ := h
    rfl
  · obtain ⟨p, l, a, xs, b, rfl, hS, ⟨x0, x1⟩, hP, kk⟩ := h
    have g_law_draw := T.gl "_law_draw" (by decide +kernel)
    have n_len := T.fr "len" (by decide +kernel)
    refine ⟨_, PSs.nox (pss_one (ps_ret (pe_ix ix_list (pv 1) (pe_call G_law_draw (hr.mono (by decide)) (by rfl) g_law_draw kp_law_draw b_law_draw .nil pass0 (pa_cons (pv 0) (pa_cons (pe_callB call_len_seq (by rfl) n_len (by decide +kernel) (pa_cons (pv 1) pa_nil)) pa_nil))) (fun _ _ => rfl)))), ?_⟩
    have hS' : SqL K H a xs := ex_l cut_ex hS
    have hl : 0 < xs.length := by
      cases xs with
      | nil => exact absurd rfl x0
      | cons x r => exact Nat.succ_pos _
    refine ⟨.ref a, rfl, .ref p, rfl, .ref a, rfl, a, xs, rfl, .inl hS', p, l, (xs.length : Int), b, rfl, ⟨by omega, by omega⟩, hP, fun r H' hr px pen => ?_⟩
    obtain ⟨j, rfl⟩ : ∃ j : Nat, r = (j : Int) := ⟨r.toNat, by omega⟩
    have hj : j < xs.length := by omega
    have gj : xs[j]? = some xs[j] := List.getElem?_eq_getElem hj
    exact ⟨a, xs, j, xs[j], rfl, rfl, ex_l cut_ex (ex_l px hS), atI_nat gj, kk _ _ (List.getElem_mem hj) px pen⟩

end
end K02
set_option Elab.async false
set_option linter.all false
set_option maxRecDepth 100000
set_option maxHeartbeats 8000000
namespace K02
open PySem PySem.Spec PyProof.Rows L2 He XH XV XR PEN Evl


def alphabet : Str := "abcdefghijklmnopqrstuvwxyz"
theorem alpha_at : ∀ j : Fin 26, alphabet.cps.toList[j.1]? = some (97 + j.1) := by decide +kernel
theorem alpha_pick {r : Int} (h : 0 ≤ r ∧ r < 26) : ∃ c : Nat, atI alphabet.cps.toList r = some c ∧ 97 ≤ c ∧ c ≤ 122 := by
  have e : ((r.toNat : Nat) : Int) = r := by omega
  have z := atI_nat (xs := alphabet.cps.toList) (j := r.toNat) (alpha_at ⟨r.toNat, by omega⟩)
  rw [e] at z
  exact ⟨97 + r.toNat, z, by omega, by omega⟩
def sign (c : Nat) : Str := ⟨#[c]⟩
theorem joinL_signs : ∀ cs : List Nat, TL.joinL [] (cs.map fun c => [c]) = cs
  | [] => rfl
  | [c] => rfl
  | c :: d :: r => by
    show [c] ++ ([] ++ TL.joinL [] ((d :: r).map fun c => [c])) = c :: d :: r
    rw [joinL_signs (d :: r)]
    rfl
theorem join_signs (cs : List Nat) : (Txt.join ("" : Str) (cs.map sign)).cps.toList = cs := by
  have z : TL.tl (Txt.join ("" : Str) (cs.map sign)) = TL.joinL (TL.tl ("" : Str)) ((cs.map sign).map TL.tl) := by
    rw [TL.join_eq, TL.tl_join]
  rw [List.map_map] at z
  have e : (TL.tl ∘ sign) = fun c => [c] := rfl
  rw [e] at z
  have e2 : TL.tl ("" : Str) = [] := by decide +kernel
  rw [e2, joinL_signs] at z
  exact z
theorem len_codes (z : Str) : z.length = z.cps.toList.length := by
  show z.cps.size = _
  simp
theorem sum_signs : ∀ cs : List Nat, ((cs.map sign).map (·.length)).sum = cs.length
  | [] => rfl
  | c :: r => by
    show 1 + ((r.map sign).map (·.length)).sum = r.length + 1
    rw [sum_signs r]
    omega

section
variable {P : Program} {w : World} {K : PySem.W.Frag} {mg : Str → Option Value} {base : Heap}

theorem ok_law_word {fd : FuncData} (F : FnP K "_law_word" "_law_word" s_law_word (ga K "_law_word") fd) (T : Txt K w mg) (c_law_draw : Cl P w K mg base CX0 1 (ga K "_law_draw") ["_law_pen", "_law_many"] spDraw) : FnOk P w K mg base CX0 (1 + 1) (ga K "_law_word") fd ["_law_pen", "_law_most"] spWord := by
  obtain ⟨fd_law_draw, G_law_draw, b_law_draw, kp_law_draw⟩ := c_law_draw
  refine FunD.ok F sc_law_word (fun vs H Q E h => ?_) (fun cdv A outer s H vs Q E hr h => ?_)
  · obtain ⟨p, l, m, b, rfl, _⟩ := h
    rfl
  · obtain ⟨p, l, m, b, rfl, ⟨m1, m2⟩, hP, kk⟩ := h
    have n_range := T.fr "range" (by decide +kernel)
    have g_law_draw := T.gl "_law_draw" (by decide +kernel)
    refine ⟨_, PSs.nox (pss_cons (ps_set (i := 2) sc_law_word.nd rfl (Or.inr rfl) pe_str)
      (pss_one (ps_ret (pe_join pe_str (pe_lc (own := [("_law_k", 3)]) (g := gName 3) (by rfl) sc_law_word.nd (pi_range1 (by rfl) n_range (pa_cons (pe_op op_add pe_int (pe_call G_law_draw (hr.mono (by decide)) (by rfl) g_law_draw kp_law_draw b_law_draw .nil pass0 (pa_cons (pv 0) (pa_cons (pv 1) pa_nil)))) pa_nil)) (blkOk_by (own := [("_law_k", 3)]) (N := ["_law_pen", "_law_most", "_law_letters", "_law_k"]) (sc := defScope s_law_word) (by decide +kernel)) (fun _ _ _ _ _ => (pg_name (i := 3) sc_law_word.nd rfl (Or.inl rfl))) (fun _ _ _ _ _ => pts_nil) (fun _ _ _ _ _ => (pe_ix ix_str (pv 2) (pe_call G_law_draw (hr.mono (by decide)) (by rfl) g_law_draw kp_law_draw b_law_draw .nil pass0 (pa_cons (pv 0) (pa_cons pe_int pa_nil))) (fun _ _ => rfl)))))))), ?_⟩
    refine ⟨⟨_, rfl⟩, ⟨.ref p, rfl, .int m, rfl, p, l, m, b + 13, rfl, ⟨by omega, by omega⟩, hP, fun r H1 hr px1 pen1 => ⟨1, r, rfl, rfl, 1 + r, rfl, by omega, by omega, fun D hD => ?_⟩⟩⟩
    refine lc_range (lo := 0) (n := (1 + r).toNat) (fun i H' => ∃ cs : List Nat, cs.length = i ∧ (∀ c ∈ cs, 97 ≤ c ∧ c ≤ 122) ∧ H' D = some (.lst ((cs.map sign).map V.str)) ∧ Px p l H H' ∧ Pen p l (b + 13 - i) H')
      ⟨[], rfl, (fun c hc => nomatch hc), upd_same, px1.trans (Px.of (Ex.new hD)), (pen1.ex (Ex.new hD)).less (by omega)⟩ (fun i H' hi hI => ?_) (fun H' hI => ?_)
    · obtain ⟨cs, e1, e2, e3, e4, e5⟩ := hI
      have nD : D ≠ p ∧ D ≠ l := pen1.new hD
      refine ⟨rfl, yes_go ?_⟩
      refine ⟨.str alphabet, rfl, .ref p, rfl, p, l, 26, b + 13 - (i + 1), rfl, ⟨by decide, by decide⟩, e5.less (by omega), fun r2 H2 hr2 px2 pen2 => ?_⟩
      obtain ⟨c, ac, c1, c2⟩ := alpha_pick hr2
      refine ⟨alphabet, r2, c, rfl, rfl, fits (by decide +kernel), ac, (cs.map sign).map V.str, px2.get nD.1 nD.2 e3, ?_, cs ++ [c], ?_, ?_, ?_, (e4.trans px2).upd (.inr (.inr (px1.fresh nD.1 nD.2 hD))), pen2.upd nD.1 nD.2⟩
      · rw [List.length_map, List.length_map]
        exact small1000 (by omega)
      · rw [List.length_append, e1]
        rfl
      · intro x hx
        rcases List.mem_append.mp hx with h | h
        · exact e2 x h
        · rw [List.mem_singleton.mp h]
          exact ⟨c1, c2⟩
      · rw [upd_same, List.map_append, List.map_append]
        rfl
    · obtain ⟨cs, e1, e2, e3, e4, e5⟩ := hI
      have ln : (Txt.join ("" : Str) (cs.map sign)).length = cs.length := by rw [len_codes, join_signs]
      refine ⟨"", D, cs.map sign, rfl, rfl, .inl (sq_of e3), ?_, kk _ _ ⟨?_, ?_, ?_⟩ e4 (e5.less (by omega))⟩
      · rw [sum_signs, List.length_map]
        show cs.length + cs.length * 0 ≤ 16777216
        omega
      · intro c hc
        rw [join_signs] at hc
        exact e2 c hc
      · rw [ln]
        omega
      · rw [ln]
        omega

end
end K02
set_option Elab.async false
set_option linter.all false
set_option maxRecDepth 100000
set_option maxHeartbeats 8000000
namespace K02
open PySem PySem.Spec PyProof.Rows L2 He XH XV XR PEN Evl


/-! ### comprehensions over a range from lo -/
theorem el_lcR2 {σ : L2.St} {H : Hp} {t : TT} {te : TE} {ta : TA} {j : Nat} {vs : List Nat} {lo n : Int} (f : Nat → Bool) (v : Nat → V) (h : EvA ta σ H [.int lo, .int n]) (hn : 0 ≤ lo ∧ lo ≤ 40000 ∧ lo ≤ n ∧ n ≤ 40000) (hw : ∀ x, wipe ((wipe σ vs).set j (some x)) vs = wipe σ vs)
    (ht : ∀ (i : Nat) H1, Ex H H1 → lo + (i : Int) < n → EvT t ((wipe σ vs).set j (some (.int (lo + (i : Int))))) H1 (f i)) (he : ∀ (i : Nat) H1, Ex H H1 → lo + (i : Int) < n → f i = true → Ev te ((wipe σ vs).set j (some (.int (lo + (i : Int))))) H1 (v i)) :
    EvL (tLc (iRng2 ta) (gName j) t te vs) σ H (given (n - lo).toNat f v) := fun H0 e Q q => h H0 e _ fun H1 e1 => ⟨lo, n, rfl, ⟨by omega, by omega, by omega, by omega⟩, fun Dl hD =>
  lc_range (lo := lo) (n := (n - lo).toNat) (Cw H1 f v Dl) ⟨hD, Ex.new hD, upd_same⟩ (fun i H' hi pw => ⟨hw _, cw_turn pw (by omega) (ht i H1 (e.trans e1) (by omega)) (fun hf => he i H1 (e.trans e1) (by omega) hf)⟩)
    (fun H' pw => q Dl H' (fresh_back e1 pw.1) (e1.trans pw.2.1) pw.2.2)⟩
/-! ### texts of one sign -/
theorem fold_codes (a : Array Nat) : ∀ (n : Nat) (acc : Array Nat), ((List.replicate n a).foldl (· ++ ·) acc).toList = acc.toList ++ (List.replicate n a.toList).flatten
  | 0, acc => by simp
  | n + 1, acc => by
    rw [List.replicate_succ, List.foldl_cons, fold_codes a n, Array.toList_append, List.replicate_succ, List.flatten_cons, List.append_assoc]
theorem repS_codes (z : Str) (n : Nat) : (repS z n).cps.toList = (List.replicate n z.cps.toList).flatten := by
  show ((List.replicate n z.cps).foldl (· ++ ·) #[]).toList = _
  rw [fold_codes]
  rfl
def aS (n : Nat) : Str := repS ("a" : Str) n
theorem aS_len (n : Nat) : (aS n).length = n := by
  have z := repS_len ("a" : Str) n
  have e : (("a" : Str)).length = 1 := by decide +kernel
  rw [e, Nat.mul_one] at z
  exact z
theorem aS_let (n : Nat) : Let (aS n) := by
  intro c hc
  have e : (("a" : Str)).cps.toList = [97] := by decide +kernel
  have z : c ∈ (List.replicate n [97]).flatten := by
    have k := repS_codes ("a" : Str) n
    rw [e] at k
    rw [← k]
    exact hc
  obtain ⟨l, hl, hc2⟩ := List.mem_flatten.mp z
  rw [(List.mem_replicate.mp hl).2] at hc2
  rw [List.mem_singleton.mp hc2]
  exact ⟨by decide, by decide⟩
theorem inV_strs (z : Str) : ∀ ys : List Str, inV (.str z) (ys.map V.str) = decide (z ∈ ys)
  | [] => by simp [inV]
  | y :: r => by
    have ih := inV_strs z r
    show (eqV (.str y) (.str z) || inV (.str z) (r.map V.str)) = decide (z ∈ y :: r)
    rw [ih]
    show ((y == z) || decide (z ∈ r)) = decide (z ∈ y :: r)
    by_cases h : z = y
    · subst h
      simp
    · have h' : ¬ y = z := fun e => h e.symm
      simp [h, h']
theorem flat_strs (ys : List Str) : (ys.map V.str).all flatV = true := by
  rw [List.all_map]
  exact List.all_eq_true.mpr fun _ _ => rfl
theorem crowd : ∀ {cs ys : List Str}, cs.Nodup → (∀ c ∈ cs, c ∈ ys) → cs.length ≤ ys.length
  | [], _, _, _ => Nat.zero_le _
  | c :: r, ys, nd, h => by
    obtain ⟨n1, n2⟩ := List.nodup_cons.mp nd
    have hc := h c (List.mem_cons_self ..)
    have k : r.length ≤ (ys.erase c).length := crowd n2 fun d hd => (List.mem_erase_of_ne (fun e => n1 (by rw [← e]; exact hd))).mpr (h d (List.mem_cons_of_mem _ hd))
    rw [List.length_erase_of_mem hc] at k
    have hl : 0 < ys.length := List.length_pos_of_mem hc
    rw [List.length_cons]
    omega
def cands : List Str := (List.range 12).map fun i => aS (1 + i)
theorem cands_nodup : cands.Nodup := by
  have z : ((List.range 12).map fun i => (aS (1 + i)).length).Nodup := by
    have e : ((List.range 12).map fun i => (aS (1 + i)).length) = (List.range 12).map fun i => 1 + i := List.map_congr_left fun i _ => aS_len _
    rw [e]
    decide
  have z2 : (cands.map (·.length)).Nodup := by
    unfold cands
    rw [List.map_map]
    exact z
  exact List.Pairwise.of_map (f := fun z : Str => z.length) (fun a b h e => h (by rw [e])) z2
theorem spare_first {ys : List Str} (hl : ys.length ≤ 10) : ∃ z, (given 12 (fun i => !decide (aS (1 + i) ∈ ys)) (fun i => V.str (aS (1 + i))))[0]? = some (.str z) ∧ z ∉ ys ∧ Let z ∧ 1 ≤ z.length ∧ z.length ≤ 12 := by
  have ne : ((List.range 12).filter fun i => !decide (aS (1 + i) ∈ ys)) ≠ [] := by
    intro e
    have all : ∀ c ∈ cands, c ∈ ys := by
      intro c hc
      obtain ⟨i, hi, rfl⟩ := List.mem_map.mp hc
      by_cases h : aS (1 + i) ∈ ys
      · exact h
      · have m : i ∈ (List.range 12).filter fun i => !decide (aS (1 + i) ∈ ys) := List.mem_filter.mpr ⟨hi, by simp [h]⟩
        rw [e] at m
        cases m
    have k := crowd cands_nodup all
    have k2 : cands.length = 12 := by
      unfold cands
      rw [List.length_map, List.length_range]
    omega
  unfold given
  cases hf : (List.range 12).filter fun i => !decide (aS (1 + i) ∈ ys) with
  | nil => exact absurd hf ne
  | cons i r =>
    have m : i ∈ (List.range 12).filter fun i => !decide (aS (1 + i) ∈ ys) := by
      rw [hf]
      exact List.mem_cons_self ..
    obtain ⟨m1, m2⟩ := List.mem_filter.mp m
    have m3 := List.mem_range.mp m1
    exact ⟨aS (1 + i), rfl, by simpa using m2, aS_let _, by rw [aS_len]; omega, by rw [aS_len]; omega⟩
theorem two_c {k : Bool} {u v : V} {σ : L2.St} {H : Hp} {Q : VK} (h : ∀ x, x = u ∨ x = v → Q x H) : if k = true then tC u σ H Q else tC v σ H Q := by
  cases k with
  | true => exact h u (.inl rfl)
  | false => exact h v (.inr rfl)

theorem given_all_at {j : Nat} {x : V} {v : Nat → V} {n : Nat} (h : (given n (fun _ => true) v)[j]? = some x) : x = v j := by
  unfold given at h
  rw [List.filter_eq_self.mpr (fun _ _ => rfl), List.getElem?_map] at h
  cases q : (List.range n)[j]? with
  | none =>
    rw [q] at h
    cases h
  | some k =>
    rw [q] at h
    obtain ⟨hk, ek⟩ := List.getElem?_eq_some_iff.mp q
    rw [List.getElem_range] at ek
    subst ek
    exact (Option.some.inj h).symm
section
variable {P : Program} {w : World} {K : PySem.W.Frag} {mg : Str → Option Value} {base : Heap}

theorem ok_law_names {fd : FuncData} (F : FnP K "_law_names" "_law_names" s_law_names (ga K "_law_names") fd) (T : Txt K w mg) (c_law_draw : Cl P w K mg base CX0 1 (ga K "_law_draw") ["_law_pen", "_law_many"] spDraw) (c_law_word : Cl P w K mg base CX0 2 (ga K "_law_word") ["_law_pen", "_law_most"] spWord) : FnOk P w K mg base CX0 (2 + 1) (ga K "_law_names") fd ["_law_pen", "_law_many"] (spNames K) := by
  obtain ⟨fd_law_draw, G_law_draw, b_law_draw, kp_law_draw⟩ := c_law_draw
  obtain ⟨fd_law_word, G_law_word, b_law_word, kp_law_word⟩ := c_law_word
  refine FunD.ok F sc_law_names (fun vs H Q E h => ?_) (fun cdv A outer s H vs Q E hr h => ?_)
  · obtain ⟨p, l, n, b, rfl, _⟩ := h
    rfl
  · obtain ⟨p, l, n, b, rfl, hn, hP, kk⟩ := h
    have n_range := T.fr "range" (by decide +kernel)
    have g_law_word := T.gl "_law_word" (by decide +kernel)
    have g_law_draw := T.gl "_law_draw" (by decide +kernel)
    refine ⟨_, PSs.nox (pss_cons (ps_set (i := 2) sc_law_names.nd rfl (Or.inr rfl) (pe_lst pa_nil))
      (pss_cons (ps_for PassesOwn.never rfl (pi_range1 (by rfl) n_range (pa_cons (pv 1) pa_nil)) (pg_name (i := 3) sc_law_names.nd rfl (Or.inl rfl))
      (pss_cons (ps_set (i := 4) sc_law_names.nd rfl (Or.inl rfl) (pe_call G_law_word (hr.mono (by decide)) (by rfl) g_law_word kp_law_word b_law_word .nil pass0 (pa_cons (pv 0) (pa_cons (pe_ifExp (pt_cmpR op_eq (pe_call G_law_draw (hr.mono (by decide)) (by rfl) g_law_draw kp_law_draw b_law_draw .nil pass0 (pa_cons (pv 0) (pa_cons pe_int pa_nil))) pe_int (nomark _)) pe_int pe_int) pa_nil))))
      (pss_cons (ps_setLc (i := 5) (own := [("_law_word_here", 6)]) (g := gName 6) (by rfl) sc_law_names.nd rfl rfl (sw_true rfl rfl rfl (by decide +kernel)) (pi_list (pe_lc (own := [("_law_n", 7)]) (g := gName 7) (by rfl) sc_law_names.nd (pi_range2 (by rfl) n_range (pa_cons pe_int (pa_cons pe_int pa_nil))) (blkOk_by (own := [("_law_n", 7)]) (N := ["_law_pen", "_law_many", "_law_found", "_law_k", "_law_name_here", "_law_spare", "_law_word_here", "_law_n"]) (sc := defScope s_law_names) (by decide +kernel)) (fun _ _ _ _ _ => (pg_name (i := 7) sc_law_names.nd rfl (Or.inl rfl))) (fun _ _ _ _ _ => pts_nil) (fun _ _ _ _ _ => (pe_op op_mulS pe_str (pv 7))))) (blkOk_by (own := [("_law_word_here", 6)]) (N := ["_law_pen", "_law_many", "_law_found", "_law_k", "_law_name_here", "_law_spare", "_law_word_here", "_law_n"]) (sc := defScope s_law_names) (by decide +kernel)) (fun _ _ _ _ _ => (pg_name (i := 6) sc_law_names.nd rfl (Or.inl rfl))) (fun _ _ _ _ _ => (pts_one (pt_cmpR (op_notIn_seq : OpR _ _ (rIn K true)) (pv 6) (pv 2) (by rfl)))) (fun _ _ _ _ _ => (pv 6)))
      (pss_one (ps_expr (pe_bm PySem.F.plainAttrs_list PySem.F.slot_list_append PySem.F.type_list_append mt_append (pv 2) (pa_cons (pe_ifExp (pt_cmpR op_in_seq (pv 4) (pv 2) (by rfl)) (pe_ix ix_list (pv 5) pe_int (fun _ _ => rfl)) (pv 4)) pa_nil)))))))
      (pss_one (ps_ret (pv 2))))), ?_⟩
    refine ⟨fits (show 0 ≤ 1000 by decide), fun fl nf => ?_⟩
    have nF := hP.new nf
    refine q_forR1 (n := (n : Int)) (ea_cons (ev_var rfl) ea_nil) ⟨by omega, by omega⟩ (fun i σ' H' => ∃ ys v3 v4 v5 v6 v7, σ' = [some (.ref p), some (.int (n : Int)), some (.ref fl), v3, v4, v5, v6, v7] ∧ H' fl = some (.lst (ys.map V.str)) ∧ ys.length = i ∧ NamesOk ys ∧ Px p l H H' ∧ Pen p l (b + (n - i) * 16) H')
      (fun H1 e1 => ⟨[], none, none, none, none, none, rfl, e1 _ _ upd_same, rfl, ⟨List.nodup_nil, fun y hy => nomatch hy⟩, Px.trans ((Px.refl H).upd (.inr (.inr nf))) (Px.of e1), ((hP.upd nF.1 nF.2).ex e1)⟩) (fun i σ' H' hi hI => ?_) (fun σ' H' hI => ?_)
    · obtain ⟨ys, v3, v4, v5, v6, v7, rfl, hf, hl, ⟨nd, good⟩, px, pen⟩ := hI
      have hi' : i < n := by omega
      have hb : b + (n - i) * 16 = b + (n - (i + 1)) * 16 + 16 := by
        obtain ⟨d, hd⟩ : ∃ d, n - i = d + 1 := ⟨n - i - 1, by omega⟩
        rw [hd, show n - (i + 1) = d by omega, Nat.succ_mul]
        omega
      rw [hb] at pen
      -- the word
      refine ⟨.ref p, rfl, .ref p, rfl, p, l, 4, b + (n - (i + 1)) * 16 + 15, rfl, ⟨by decide, by decide⟩, pen, fun r H1 hr px1 pen1 => ⟨rfl, _, rfl, two_c fun x hx => ?_⟩⟩
      obtain ⟨m, rfl, m1, m2⟩ : ∃ m : Nat, x = .int (m : Int) ∧ 1 ≤ m ∧ m ≤ 12 := by
        rcases hx with rfl | rfl
        · exact ⟨12, rfl, by decide, by decide⟩
        · exact ⟨2, rfl, by decide, by decide⟩
      refine ⟨p, l, m, b + (n - (i + 1)) * 16, rfl, ⟨m1, m2⟩, pen1.less (by omega), fun z H2 hz px2 pen2 => ?_⟩
      have hf2 : H2 fl = some (.lst (ys.map V.str)) := px2.get nF.1 nF.2 (px1.get nF.1 nF.2 hf)
      -- spare
      dsimp only [gName, List.set]
      refine q_asgL (xs := given 12 (fun i => !decide (aS (1 + i) ∈ ys)) (fun i => V.str (aS (1 + i)))) ?_ fun sp H3 hs e3 h3 => ?_
      · refine el_lcNL (xs := given 12 (fun _ => true) (fun i => V.str (aS (1 + i)))) (fun i => !decide (aS (1 + i) ∈ ys)) (fun i => V.str (aS (1 + i))) ?_ (by decide) (fun _ => rfl) (fun j x H1' e1' hx => ?_) (fun j x H1' e1' hx _ => ?_)
        · refine el_lcR2 (lo := 1) (n := 13) (fun _ => true) (fun i => V.str (aS (1 + i))) (ea_cons ev_c (ea_cons ev_c ea_nil)) (by decide) (fun _ => rfl) (fun _ _ _ _ => fun H1 _ Q q => q H1 (Ex.refl H1)) (fun j H1' _ hj _ => ?_)
          refine ev_op ev_c (ev_var rfl) (fun H2' _ Q q => ⟨"a", 1 + j, rfl, ?_, ⟨by omega, by omega⟩, ⟨by decide +kernel, by decide +kernel⟩, q H2' (Ex.refl _)⟩)
          rw [Int.natCast_add]
          rfl
        · have ex : x = .str (aS (1 + j)) := given_all_at hx
          subst ex
          have k := rv_niL (K := K) (x := .str (aS (1 + j))) (H := H1') (sq_of (e1' _ _ hf2)) rfl (flat_strs ys)
          rw [inV_strs] at k
          exact et_test (ev_op (ev_var rfl) (ev_var rfl) k)
        · have ex : x = .str (aS (1 + j)) := given_all_at hx
          subst ex
          exact ev_var rfl
      -- found.append(..)
      have hf3 := e3 _ _ hf2
      obtain ⟨y, gy, y1, y2, y3, y4⟩ := spare_first (ys := ys) (by omega)
      have px3 : Px p l H H3 := ((px.trans px1).trans px2).trans (Px.of e3)
      have pen3 := pen2.ex e3
      have more : ∀ u : Str, u ∉ ys → Let u ∧ 1 ≤ u.length ∧ u.length ≤ 12 → ∃ ys' : List Str, upd H3 fl (.lst (ys.map V.str ++ [.str u])) fl = some (.lst (ys'.map V.str)) ∧ ys'.length = i + 1 ∧ NamesOk ys' ∧ Px p l H (upd H3 fl (.lst (ys.map V.str ++ [.str u]))) ∧ Pen p l (b + (n - (i + 1)) * 16) (upd H3 fl (.lst (ys.map V.str ++ [.str u]))) := by
        intro u hu gu
        refine ⟨ys ++ [u], ?_, by rw [List.length_append, hl]; rfl, ⟨?_, ?_⟩, px3.upd (.inr (.inr nf)), pen3.upd nF.1 nF.2⟩
        · rw [upd_same, List.map_append]
          rfl
        · refine List.nodup_append.mpr ⟨nd, List.nodup_cons.mpr ⟨List.not_mem_nil, List.nodup_nil⟩, ?_⟩
          intro a ha b' hb' e
          rw [List.mem_singleton.mp hb'] at e
          exact hu (e ▸ ha)
        · intro w hw
          rcases List.mem_append.mp hw with h | h
          · exact good w h
          · rw [List.mem_singleton.mp h]
            exact gu
      refine ⟨.ref fl, rfl, .inl ⟨rfl, _, sq_of hf3⟩, ?_⟩
      refine ⟨.str z, rfl, .ref fl, rfl, fl, _, rfl, .inl (sq_of hf3), rfl, flat_strs ys, _, rfl, ?_⟩
      show if (if false = true then !inV (.str z) (ys.map V.str) else inV (.str z) (ys.map V.str)) = true then _ else _
      rw [if_neg Bool.false_ne_true, inV_strs]
      refine ite2 (fun c => ?_) (fun c => ?_)
      · obtain ⟨ys', m1', m2', m3', m4', m5'⟩ := more y y1 ⟨y2, y3, y4⟩
        refine ⟨.ref sp, rfl, sp, _, 0, .str y, rfl, rfl, sq_of h3, atI_nat (j := 0) gy, fl, _, _, rfl, rfl, hf3, ?_, ⟨ys', _, _, _, _, _, rfl, m1', m2', m3', m4', m5'⟩⟩
        rw [List.length_map]
        exact small1000 (by omega)
      · obtain ⟨ys', m1', m2', m3', m4', m5'⟩ := more z (fun q => c (decide_eq_true q)) ⟨hz.1, hz.2.1, by omega⟩
        refine ⟨.str z, rfl, fl, _, _, rfl, rfl, hf3, ?_, ⟨ys', _, _, _, _, _, rfl, m1', m2', m3', m4', m5'⟩⟩
        rw [List.length_map]
        exact small1000 (by omega)
    · obtain ⟨ys, v3, v4, v5, v6, v7, rfl, hf, hl, ok, px, pen⟩ := hI
      have e : (n : Int).toNat = n := by omega
      rw [e] at hl pen
      refine ⟨.ref fl, rfl, kk fl ys H' nf hf hl ok px (pen.less (by omega))⟩

end
end K02
set_option Elab.async false
set_option linter.all false
set_option maxRecDepth 100000
set_option maxHeartbeats 8000000
namespace K02
open PySem PySem.Spec PyProof.Rows L2 He XH XV XR PEN Evl


/-! ### what is never reached; x in an empty tuple -/
theorem pe_nv {X : Cx} {e : Expr} : PE X e (fun _ _ _ => False) := ⟨fun _ _ _ _ _ _ h => h.elim⟩
theorem pt_nv {X : Cx} {e : Expr} : PT X e (fun _ _ _ => False) := ⟨fun _ _ _ _ _ _ h => h.elim⟩
theorem pg_nv {X : Cx} {e : Expr} : PG X e (fun _ _ _ _ => False) := ⟨fun _ _ _ _ _ _ _ _ _ h => h.elim⟩
theorem op_in_nil {X : Cx} : OpR X (compareOp .In) (fun x y H Q => ∃ p, y = .ref p ∧ SqT X.K H p [] ∧ Q (.bl false) H) := by
  intro pins s σ H x y v u Q I rx ry h
  obtain ⟨p, rfl, hq, q⟩ := h
  cases ry
  obtain ⟨its, r, pl, hz⟩ := I.tuple hq
  cases r
  refine SeqAt.in_tupleAt (fun _ => false) pl (fun w hw => by simp at hw) ?_
  have e : (([] : List Value).toArray.any fun x => false) = false := by simp
  rw [e]
  exact ⟨.bl false, H, I, rfl, q⟩
/-! ### the program's own things -/
structure Tx (K : PySem.W.Frag) (w : World) (mg : Str → Option Value) : Prop extends Txt K w mg where
  en : ∃ es n a, KDict K w (ga K "ENTRIES") es n ∧ PySem.W.nsIn K (ga K "ENTRIES") "fault" = some (some (.ref a)) ∧ ∀ H, SqT K H a []
  fx : ∃ es n a b, KDict K w (ga K "FIXED_WORDS") es n ∧ PySem.W.nsIn K (ga K "FIXED_WORDS") "how" = some (some (.ref a)) ∧ PySem.W.nsIn K (ga K "FIXED_WORDS") "end" = some (some (.ref b))
  ro : ∀ H, SqT K H (ga K "ROUND_WORDS") [.str "again", .str "out"]
  cf : Cls K (ga K "Function")
  cc : Cls K (ga K "Code")
  nf : ∀ x ∈ ["name", "body", "many"], NoAttr K (ga K "Function") x
  nc : ∀ x ∈ ["cells", "rows", "functions", "start"], NoAttr K (ga K "Code") x
  mf : Mk K (ga K "Function") (ma K (ga K "Function") "__init__")
  mc : Mk K (ga K "Code") (ma K (ga K "Code") "__init__")
  bc : Own K (ga K "BadCode") (ma K (ga K "BadCode") "__init__") ["function", "number"]
  tg : Bare K (ga K "TooGreat")
  ty : PySem.W.typeIn K (.ref (ga K "TooGreat")) = some (.type "type")
/-! ### names -/
def goodN (z : Str) : Bool := decide (1 ≤ z.length) && (decide (z.length ≤ 12) && z.cps.toList.all fun c => decide (c ∈ alphabet.cps.toList))
def spIsName : Sp := fun vs H Q _ => ∃ z : Str, vs = [.str z] ∧ z.length ≤ 1000 ∧ ∀ H', Ex H H' → Q (.bl (goodN z)) H'
/-! ### bodies -/
def fw : Str := "fault"
def Bd (H : Hp) (bs : List Addr) : Prop := ∀ t ∈ bs, H t = some (.tup [.str fw])
theorem Bd.mono {H H' : Hp} {bs : List Addr} (e : Ex H H') (h : Bd H bs) : Bd H' bs := fun t ht => e _ _ (h t ht)
def spFz0 : Sp := fun vs H Q _ => ∃ z : Str, vs = [.str z] ∧ ∀ H', Ex H H' → Q (.str z) H'
def spFz1 (K : PySem.W.Frag) : Sp := fun vs H Q _ => ∃ t, vs = [.ref t] ∧ H t = some (.tup [.str fw]) ∧ ∀ u H', H u = none → Ex H H' → H' u = some (.tup [.str fw]) → Q (.ref u) H'
def spFz2 (K : PySem.W.Frag) : Sp := fun vs H Q _ => ∃ b bs, vs = [.ref b] ∧ (H b = some (.tup (bs.map V.ref)) ∨ H b = some (.lst (bs.map V.ref))) ∧ bs.length ≤ 10 ∧ Bd H bs ∧ ∀ u us H', H u = none → Ex H H' → H' u = some (.tup (us.map V.ref)) → us.length = bs.length → Bd H' us → Q (.ref u) H'
def spKinds (K : PySem.W.Frag) : Sp := fun vs H Q _ => ∃ t, vs = [.ref t] ∧ H t = some (.tup [.str fw]) ∧ ∀ a H', (∀ H, SqT K H a []) → Ex H H' → Q (.ref a) H'
def spParts (K : PySem.W.Frag) : Sp := fun vs H Q _ => ∃ t, vs = [.ref t] ∧ H t = some (.tup [.str fw]) ∧ ∀ q H', H q = none → Ex H H' → H' q = some (.lst []) → Q (.ref q) H'
def Nb (H : Hp) (ar : Addr) (prs : List Addr) : Prop := ∀ pr ∈ prs, ∃ t, H pr = some (.tup [.ref t, .ref ar]) ∧ H t = some (.tup [.str fw])
theorem Nb.mono {H H' : Hp} {ar : Addr} {bs : List Addr} (e : Ex H H') (h : Nb H ar bs) : Nb H' ar bs := fun p hp => by
  obtain ⟨t, h1, h2⟩ := h p hp
  exact ⟨t, e _ _ h1, e _ _ h2⟩
def spNumb (K : PySem.W.Frag) : Sp := fun vs H Q _ => ∃ b ar bs, vs = [.ref b, .ref ar] ∧ H b = some (.tup (bs.map V.ref)) ∧ bs.length ≤ 10 ∧ Bd H bs ∧ ∀ q prs H', H q = none → Ex H H' → H' q = some (.lst (prs.map V.ref)) → prs.length = bs.length → Nb H' ar prs → Q (.ref q) H'
theorem ev_chain {ta tb tc : TE} {σ : L2.St} {H : Hp} {a b c : Int} (ha : Ev ta σ H (.int a)) (hb : Ev tb σ H (.int b)) (hc : Ev tc σ H (.int c)) : Ev (tChain (rI0 fun i j => .bl (decide (i ≤ j))) (rI0 fun i j => .bl (decide (i ≤ j))) ta tb tc) σ H (.bl (decide (a ≤ b) && decide (b ≤ c))) := fun H1 e Q q =>
  ha H1 e _ fun H2 e2 => hb H2 (e.trans e2) _ fun H3 e3 => ⟨a, b, rfl, rfl, decide (a ≤ b), rfl, by
    cases h : decide (a ≤ b) with
    | false =>
      rw [h] at q
      exact ite_ff (q H3 (e2.trans e3))
    | true =>
      rw [h, Bool.true_and] at q
      exact ite_tt (hc H3 ((e.trans e2).trans e3) _ fun H4 e4 => ⟨b, c, rfl, rfl, q H4 ((e2.trans e3).trans e4)⟩)⟩
theorem isi_str {K : PySem.W.Frag} {H : Hp} {z : Str} : RC (rIsi K) [.str z, .ty "str"] H (.bl true) := fun H1 e Q q => ⟨.str z, .ty "str", .type "str", .type "str", true, rfl, .ty _, .base (.str z), kit_ty (by decide +kernel), q H1 (Ex.refl _)⟩
theorem ev_isiT {K : PySem.W.Frag} {ta : TE} {σ : L2.St} {H : Hp} {x : V} {t : Value} {b : Bool} (ha : Ev ta σ H x) (hT : ∀ H1, Ex H H1 → TyX K H1 x t) (hk : PySem.W.kitAny K t [.type "list", .type "tuple"] = some b) :
    Ev (tCB (rIsiT K) (tCons ta (tCons (tTup (tCons (tC (.ty "list")) (tCons (tC (.ty "tuple")) tNil))) tNil))) σ H (.bl b) := fun H1 e Q q =>
  ha H1 e _ fun H2 e2 => (eu_tup (ea_cons ev_c (ea_cons ev_c ea_nil)) (by decide)) H2 (e.trans e2) _ fun p H3 n e3 h3 => ⟨x, p, _, t, [.type "list", .type "tuple"], b, rfl, h3, .cons (.ty _) (.cons (.ty _) .nil), hT H3 ((e.trans e2).trans e3), hk, q H3 (e2.trans e3)⟩
theorem kit_no {K : PySem.W.Frag} : PySem.W.kitAny K (.type "str") [.type "list", .type "tuple"] = some false := kitAny_cons (b := false) (kit_ty (by decide +kernel)) (fun _ => kitAny_cons (b := false) (kit_ty (by decide +kernel)) (fun _ => kitAny_nil) (fun z => nomatch z)) (fun z => nomatch z)
theorem kit_l {K : PySem.W.Frag} : PySem.W.kitAny K (.type "list") [.type "list", .type "tuple"] = some true := kitAny_cons (b := true) (kit_ty (by decide +kernel)) (fun z => nomatch z) (fun _ => rfl)
theorem kit_t {K : PySem.W.Frag} : PySem.W.kitAny K (.type "tuple") [.type "list", .type "tuple"] = some true := kitAny_cons (b := false) (kit_ty (by decide +kernel)) (fun _ => kitAny_cons (b := true) (kit_ty (by decide +kernel)) (fun z => nomatch z) (fun _ => rfl)) (fun z => nomatch z)
theorem take_more {α : Type} {l : List α} {i : Nat} {c : α} (h : l[i]? = some c) : l.take (i + 1) = l.take i ++ [c] := by
  rw [List.take_add_one, h]
  rfl
theorem memC (z : Str) : ∀ (n : Nat), n ≤ z.cps.toList.length → (z.cps.toList.take n).length = n := fun n h => by
  rw [List.length_take]
  omega

section
variable {P : Program} {w : World} {K : PySem.W.Frag} {mg : Str → Option Value} {base : Heap}

theorem ok_is_name {fd : FuncData} (F : FnP K "is_name" "is_name" s_is_name (ga K "is_name") fd) (T : Tx K w mg) : FnOk P w K mg base CX0 (0 + 1) (ga K "is_name") fd ["word"] spIsName := by
  refine FunD.ok F sc_is_name (fun vs H Q E h => ?_) (fun cdv A outer s H vs Q E hr h => ?_)
  · obtain ⟨z, rfl, _⟩ := h
    rfl
  · obtain ⟨z, rfl, hz, kk⟩ := h
    have n_isinstance := T.fr "isinstance" (by decide +kernel)
    have n_str := T.fr "str" (by decide +kernel)
    have n_len := T.fr "len" (by decide +kernel)
    obtain ⟨tk_LONGEST_NAME, g_LONGEST_NAME⟩ := T.c_LONGEST_NAME
    have n_all := T.fr "all" (by decide +kernel)
    obtain ⟨tk_LETTERS, g_LETTERS⟩ := T.c_LETTERS
    refine ⟨_, PSs.nox (pss_cons (ps_if (PW.pt (pw_or (pt_not (pt_val (pe_callB call_isi (by rfl) n_isinstance (by decide +kernel) (pa_cons (pv 0) (pa_cons (pe_bltn (v := .ty "str") (by rfl) n_str (by decide +kernel) rfl) pa_nil))))) (pw_or1 (pt_not (pt_chain op_le op_le pe_int (pe_callB call_len_str (by rfl) n_len (by decide +kernel) (pa_cons (pv 0) pa_nil)) (pe_glob (v := .int _) (by rfl) g_LONGEST_NAME ⟨_, rfl⟩))))))
      (pss_one (ps_ret pe_bl))
      pss_nil)
      (pss_one (ps_ret (pe_callB (cr_all rfl) (by rfl) n_all (by decide +kernel) (pa_cons (pe_lc (own := [("letter", 1)]) (g := gName 1) (by rfl) sc_is_name.nd (pi_str (pv 0)) (blkOk_by (own := [("letter", 1)]) (N := ["word", "letter"]) (sc := defScope s_is_name) (by decide +kernel)) (fun _ _ _ _ _ => (pg_name (i := 1) sc_is_name.nd rfl (Or.inl rfl))) (fun _ _ _ _ _ => pts_nil) (fun _ _ _ _ _ => (pe_cmpR op_in_sign (pv 1) (pe_glob (v := .str _) (by rfl) g_LETTERS ⟨_, rfl⟩) (by rfl)))) pa_nil))))), ?_⟩
    refine q_when (b := !(decide ((1 : Int) ≤ (z.length : Int)) && decide ((z.length : Int) ≤ 12))) (et_is (et_or (et_not (et_B (ev_cb (ea_cons (ev_var rfl) (ea_cons ev_c ea_nil)) isi_str))) fun _ => et_not (et_test (ev_chain ev_c (ev_cb (ea_cons (ev_var rfl) ea_nil) fun H1 e Q q => ⟨z, rfl, fits hz, q H1 (Ex.refl _)⟩) ev_c))) (by simp)) (fun hb H1 e1 => ?_) (fun hb H1 e1 => ?_)
    · refine s_ret ev_c fun H2 e2 => ?_
      have z1 : goodN z = false := by
        unfold goodN
        rw [← Bool.and_assoc]
        have z2 : (decide (1 ≤ z.length) && decide (z.length ≤ 12)) = false := by
          rw [Bool.not_eq_true'] at hb
          rw [← hb]
          congr 1 <;> exact decide_eq_decide.mpr (by omega)
        rw [z2]
        rfl
      have k := kk H2 (e1.trans e2)
      rw [z1] at k
      exact k
    · refine ⟨.str z, rfl, z, rfl, fun D hD => ?_⟩
      refine lc_it walk_str (fun i H' => Ex H H' ∧ H' D = some (.lst ((z.cps.toList.take i).map fun c => V.bl (decide (c ∈ alphabet.cps.toList))))) ⟨e1.trans (Ex.new hD), upd_same⟩ (fun _ _ _ _ => True.intro) (fun i x H2 H3 hi hI hy => ?_) (fun H2 hI => ?_)
      · obtain ⟨rfl, c, hc, rfl⟩ := hy
        obtain ⟨e2, e3⟩ := hI
        have hDn : H D = none := fresh_back e1 hD
        have hc2 : z.cps.toList[i]? = some c := by rw [Array.getElem?_toList]; exact hc
        refine ⟨rfl, yes_go ⟨.str ⟨#[c]⟩, rfl, c, alphabet, rfl, rfl, _, e3, ?_, e2.mut hDn, ?_⟩⟩
        · rw [List.length_map, List.length_take]
          have k : z.cps.toList.length = z.length := (len_codes z).symm
          exact Nat.lt_of_le_of_lt (show _ ≤ 1000 by omega) (by rw [sizeLine_eq]; decide)
        · rw [upd_same, take_more hc2, List.map_append]
          rfl
      · obtain ⟨e2, e3⟩ := hI
        have z1 : (z.cps.toList.take z.cps.size) = z.cps.toList := List.take_of_length_le (by simp)
        rw [z1] at e3
        refine ⟨D, z.cps.toList.map fun c => decide (c ∈ alphabet.cps.toList), rfl, sq_of (by rw [e3, List.map_map]; rfl), ?_⟩
        have z2 : goodN z = (z.cps.toList.map fun c => decide (c ∈ alphabet.cps.toList)).all id := by
          unfold goodN
          rw [List.all_map]
          rw [Bool.not_eq_false', Bool.and_eq_true] at hb
          have k1 := of_decide_eq_true hb.1
          have k2 := of_decide_eq_true hb.2
          rw [decide_eq_true (show 1 ≤ z.length by omega), decide_eq_true (show z.length ≤ 12 by omega)]
          rfl
        have k := kk H2 e2
        rw [z2] at k
        exact k

theorem ok_frozen0 {fd : FuncData} (F : FnP K "frozen" "frozen" s_frozen (ga K "frozen") fd) (T : Tx K w mg) : FnOk P w K mg base CX0 (0 + 1) (ga K "frozen") fd ["thing"] spFz0 := by
  refine FunD.ok F sc_frozen (fun vs H Q E h => ?_) (fun cdv A outer s H vs Q E hr h => ?_)
  · obtain ⟨z, rfl, _⟩ := h
    rfl
  · obtain ⟨z, rfl, kk⟩ := h
    have n_isinstance := T.fr "isinstance" (by decide +kernel)
    have n_list := T.fr "list" (by decide +kernel)
    have n_tuple := T.fr "tuple" (by decide +kernel)
    refine ⟨_, PSs.nox (pss_cons (ps_if (pt_val (pe_callB call_isiT (by rfl) n_isinstance (by decide +kernel) (pa_cons (pv 0) (pa_cons (pe_tup (pa_cons (pe_bltn (v := .ty "list") (by rfl) n_list (by decide +kernel) rfl) (pa_cons (pe_bltn (v := .ty "tuple") (by rfl) n_tuple (by decide +kernel) rfl) pa_nil))) pa_nil))))
      (pss_one ps_never)
      pss_nil)
      (pss_one (ps_ret (pv 0)))), ?_⟩
    refine q_when (b := false) (et_B (ev_isiT (ev_var rfl) (fun H1 _ => .base (.str z)) kit_no)) (fun hb => nomatch hb) (fun _ H1 e1 => ?_)
    exact s_ret (ev_var rfl) fun H2 e2 => kk H2 (e1.trans e2)

theorem ok_frozen1 {fd : FuncData} (F : FnP K "frozen" "frozen" s_frozen (ga K "frozen") fd) (T : Tx K w mg) (c_frozen : Cl P w K mg base CX0 1 (ga K "frozen") ["thing"] spFz0) : FnOk P w K mg base CX0 (1 + 1) (ga K "frozen") fd ["thing"] (spFz1 K) := by
  obtain ⟨fd_frozen, G_frozen, b_frozen, kp_frozen⟩ := c_frozen
  refine FunD.ok F sc_frozen (fun vs H Q E h => ?_) (fun cdv A outer s H vs Q E hr h => ?_)
  · obtain ⟨t, rfl, _⟩ := h
    rfl
  · obtain ⟨t, rfl, ht, kk⟩ := h
    have n_isinstance := T.fr "isinstance" (by decide +kernel)
    have n_list := T.fr "list" (by decide +kernel)
    have n_tuple := T.fr "tuple" (by decide +kernel)
    have g_frozen := T.gl "frozen" (by decide +kernel)
    refine ⟨_, PSs.nox (pss_cons (ps_if (pt_val (pe_callB call_isiT (by rfl) n_isinstance (by decide +kernel) (pa_cons (pv 0) (pa_cons (pe_tup (pa_cons (pe_bltn (v := .ty "list") (by rfl) n_list (by decide +kernel) rfl) (pa_cons (pe_bltn (v := .ty "tuple") (by rfl) n_tuple (by decide +kernel) rfl) pa_nil))) pa_nil))))
      (pss_one (ps_ret (pe_callTy call_tuple_of (by rfl) n_tuple (by decide +kernel) (pa_cons (pe_lc (own := [("entry", 1)]) (g := gName 1) (by rfl) sc_frozen.nd (pi_tup (pv 0)) (blkOk_by (own := [("entry", 1)]) (N := ["thing", "entry"]) (sc := defScope s_frozen) (by decide +kernel)) (fun _ _ _ _ _ => (pg_name (i := 1) sc_frozen.nd rfl (Or.inl rfl))) (fun _ _ _ _ _ => pts_nil) (fun _ _ _ _ _ => (pe_call G_frozen (hr.mono (by decide)) (by rfl) g_frozen kp_frozen b_frozen .nil pass0 (pa_cons (pv 1) pa_nil)))) pa_nil))))
      pss_nil)
      (pss_one (ps_ret (pv 0)))), ?_⟩
    refine q_when (b := true) (et_B (ev_isiT (ev_var rfl) (fun H1 e => .base (.tup (e _ _ ht))) kit_t)) (fun _ H1 e1 => ?_) (fun hb => nomatch hb)
    refine ⟨.ref t, rfl, t, rfl, ⟨_, st_of (e1 _ _ ht)⟩, fun D hD => ?_⟩
    have hDn : H D = none := fresh_back e1 hD
    refine lc_tup (xs := [.str fw]) (fun i H' => Ex H H' ∧ H' D = some (.lst (([.str fw] : List V).take i))) ⟨e1.trans (Ex.new hD), upd_same⟩ (fun i H' _ hI => st_of (hI.1 _ _ ht)) (fun i x H2 hx hI => ?_) (fun H2 hI => ?_)
    · obtain ⟨e2, e3⟩ := hI
      have i0 : i = 0 := by
        rcases Nat.lt_or_ge i 1 with z | z
        · omega
        · rw [List.getElem?_eq_none (show ([.str fw] : List V).length ≤ i from z)] at hx
          cases hx
      subst i0
      cases hx
      refine ⟨rfl, yes_go ⟨.str fw, rfl, fw, rfl, fun H3 e4 => ⟨[], e4 _ _ e3, by decide, (e2.trans e4).mut hDn, upd_same⟩⟩⟩
    · obtain ⟨e2, e3⟩ := hI
      exact ⟨D, _, rfl, .inl ⟨sq_of e3, fun u hu => kk u _ (fresh_back e2 hu) (e2.trans (Ex.new hu)) upd_same⟩⟩

theorem ok_frozen2 {fd : FuncData} (F : FnP K "frozen" "frozen" s_frozen (ga K "frozen") fd) (T : Tx K w mg) (c_frozen : Cl P w K mg base CX0 2 (ga K "frozen") ["thing"] (spFz1 K)) : FnOk P w K mg base CX0 (2 + 1) (ga K "frozen") fd ["thing"] (spFz2 K) := by
  obtain ⟨fd_frozen, G_frozen, b_frozen, kp_frozen⟩ := c_frozen
  refine FunD.ok F sc_frozen (fun vs H Q E h => ?_) (fun cdv A outer s H vs Q E hr h => ?_)
  · obtain ⟨b, bs, rfl, _⟩ := h
    rfl
  · obtain ⟨b, bs, rfl, hb, hl, hB, kk⟩ := h
    have n_isinstance := T.fr "isinstance" (by decide +kernel)
    have n_list := T.fr "list" (by decide +kernel)
    have n_tuple := T.fr "tuple" (by decide +kernel)
    have g_frozen := T.gl "frozen" (by decide +kernel)
    refine ⟨_, PSs.nox (pss_cons (ps_if (pt_val (pe_callB call_isiT (by rfl) n_isinstance (by decide +kernel) (pa_cons (pv 0) (pa_cons (pe_tup (pa_cons (pe_bltn (v := .ty "list") (by rfl) n_list (by decide +kernel) rfl) (pa_cons (pe_bltn (v := .ty "tuple") (by rfl) n_tuple (by decide +kernel) rfl) pa_nil))) pa_nil))))
      (pss_one (ps_ret (pe_callTy call_tuple_of (by rfl) n_tuple (by decide +kernel) (pa_cons (pe_lc (own := [("entry", 1)]) (g := gName 1) (by rfl) sc_frozen.nd (pi_or (pi_list (pv 0)) (pi_tup (pv 0))) (blkOk_by (own := [("entry", 1)]) (N := ["thing", "entry"]) (sc := defScope s_frozen) (by decide +kernel)) (fun _ _ _ _ _ => (pg_name (i := 1) sc_frozen.nd rfl (Or.inl rfl))) (fun _ _ _ _ _ => pts_nil) (fun _ _ _ _ _ => (pe_call G_frozen (hr.mono (by decide)) (by rfl) g_frozen kp_frozen b_frozen .nil pass0 (pa_cons (pv 1) pa_nil)))) pa_nil))))
      pss_nil)
      (pss_one (ps_ret (pv 0)))), ?_⟩
    have ty : ∃ t, (∀ H1, Ex H H1 → TyX K H1 (.ref b) t) ∧ PySem.W.kitAny K t [.type "list", .type "tuple"] = some true := by
      rcases hb with hb | hb
      · exact ⟨_, fun H1 e => .base (.tup (e _ _ hb)), kit_t⟩
      · exact ⟨_, fun H1 e => .base (.lst (e _ _ hb)), kit_l⟩
    obtain ⟨t, ty, kt⟩ := ty
    refine q_when (b := true) (et_B (ev_isiT (ev_var rfl) ty kt)) (fun _ H1 e1 => ?_) (fun hb => nomatch hb)
    have go : ∀ D, H1 D = none → ∀ i (x : V) H2, (bs.map V.ref)[i]? = some x → (∃ us, us.length = i ∧ Ex H H2 ∧ H2 D = some (.lst (us.map V.ref)) ∧ Bd H2 us) → ∃ t, x = .ref t ∧ H2 t = some (.tup [.str fw]) ∧ i ≤ 10 := by
      intro D hD i x H2 hx hI
      rw [List.getElem?_map] at hx
      cases q : bs[i]? with
      | none =>
        rw [q] at hx
        cases hx
      | some t =>
        rw [q] at hx
        cases hx
        obtain ⟨us, _, e2, _, _⟩ := hI
        have k := (List.getElem?_eq_some_iff.mp q).1
        exact ⟨t, rfl, e2 _ _ (hB t (List.mem_of_getElem? q)), by omega⟩
    have fin : ∀ D, H1 D = none → ∀ H2, (∃ us, us.length = bs.length ∧ Ex H H2 ∧ H2 D = some (.lst (us.map V.ref)) ∧ Bd H2 us) → ∃ us, us.length = bs.length ∧ Ex H H2 ∧ H2 D = some (.lst (us.map V.ref)) ∧ Bd H2 us := fun _ _ _ h => h
    have out : ∀ D, H1 D = none → ∀ H2, (∃ us, us.length = (bs.map V.ref).length ∧ Ex H H2 ∧ H2 D = some (.lst (us.map V.ref)) ∧ Bd H2 us) → ∃ p ys, ([.ref D] : List V) = [.ref p] ∧ ((SqL K H2 p ys ∧ ∀ l, H2 l = none → Q (.ref l) (upd H2 l (.tup ys))) ∨ (SqT K H2 p ys ∧ Q (.ref p) H2)) := by
      intro D hD H2 hI
      obtain ⟨us, hu, e2, e3, e4⟩ := hI
      rw [List.length_map] at hu
      exact ⟨D, _, rfl, .inl ⟨sq_of e3, fun u hu' => kk u us _ (fresh_back e2 hu') (e2.trans (Ex.new hu')) upd_same hu (e4.mono (Ex.new hu'))⟩⟩
    have step : ∀ D, H1 D = none → ∀ i (t : Addr) H2, i ≤ 10 → (∃ us, us.length = i ∧ Ex H H2 ∧ H2 D = some (.lst (us.map V.ref)) ∧ Bd H2 us) → ∀ u H3, H2 u = none → Ex H2 H3 → H3 u = some (.tup [.str fw]) →
        ∃ acc, H3 D = some (.lst acc) ∧ acc.length < sizeLine ∧ ∃ us, us.length = i + 1 ∧ Ex H (upd H3 D (.lst (acc ++ [.ref u]))) ∧ upd H3 D (.lst (acc ++ [.ref u])) D = some (.lst (us.map V.ref)) ∧ Bd (upd H3 D (.lst (acc ++ [.ref u]))) us := by
      intro D hD i t H2 hi hI u H3 hu e4 h4
      obtain ⟨us, hl2, e2, e3, e5⟩ := hI
      refine ⟨us.map V.ref, e4 _ _ e3, ?_, us ++ [u], by rw [List.length_append, hl2]; rfl, (e2.trans e4).mut (fresh_back e1 hD), by rw [upd_same, List.map_append]; rfl, fun v hv => ?_⟩
      · rw [List.length_map]
        exact small1000 (by omega)
      · have hv3 : H3 v = some (.tup [.str fw]) := by
          rcases List.mem_append.mp hv with h | h
          · exact e4 _ _ (e5 v h)
          · rw [List.mem_singleton.mp h]
            exact h4
        rw [upd_ne (fun e => by rw [e, e4 _ _ e3] at hv3; cases hv3)]
        exact hv3
    have e0 : ∀ D, H1 D = none → ∃ us : List Addr, us.length = 0 ∧ Ex H (upd H1 D (.lst [])) ∧ upd H1 D (.lst []) D = some (.lst (us.map V.ref)) ∧ Bd (upd H1 D (.lst [])) us := fun D hD => ⟨[], rfl, e1.trans (Ex.new hD), upd_same, fun t ht => nomatch ht⟩
    rcases hb with hb | hb
    · refine .inr ⟨.ref b, rfl, b, rfl, ⟨_, st_of (e1 _ _ hb)⟩, fun D hD => ?_⟩
      refine lc_tup (xs := bs.map V.ref) (fun i H' => ∃ us, us.length = i ∧ Ex H H' ∧ H' D = some (.lst (us.map V.ref)) ∧ Bd H' us) (e0 D hD) (fun i H' _ hI => st_of (hI.choose_spec.2.1 _ _ hb)) (fun i x H2 hx hI => ?_) (fun H2 hI => out D hD H2 hI)
      obtain ⟨t', rfl, ht, hi⟩ := go D hD i x H2 hx hI
      exact ⟨rfl, yes_go ⟨.ref t', rfl, t', rfl, ht, fun u H3 hu e4 h4 => step D hD i t' H2 hi hI u H3 hu e4 h4⟩⟩
    · refine .inl ⟨.ref b, rfl, b, rfl, ⟨_, sq_of (e1 _ _ hb)⟩, fun D hD => ?_⟩
      refine lc_list (xs := bs.map V.ref) (fun i H' => ∃ us, us.length = i ∧ Ex H H' ∧ H' D = some (.lst (us.map V.ref)) ∧ Bd H' us) (e0 D hD) (fun i H' _ hI => sq_of (hI.choose_spec.2.1 _ _ hb)) (fun i x H2 hx hI => ?_) (fun H2 hI => out D hD H2 hI)
      obtain ⟨t', rfl, ht, hi⟩ := go D hD i x H2 hx hI
      exact ⟨rfl, yes_go ⟨.ref t', rfl, t', rfl, ht, fun u H3 hu e4 h4 => step D hD i t' H2 hi hI u H3 hu e4 h4⟩⟩

theorem ok_kinds_of {fd : FuncData} (F : FnP K "kinds_of" "kinds_of" s_kinds_of (ga K "kinds_of") fd) (T : Tx K w mg) : FnOk P w K mg base CX0 (0 + 1) (ga K "kinds_of") fd ["statement"] (spKinds K) := by
  refine FunD.ok F sc_kinds_of (fun vs H Q E h => ?_) (fun cdv A outer s H vs Q E hr h => ?_)
  · obtain ⟨t, rfl, _⟩ := h
    rfl
  · obtain ⟨t, rfl, ht, kk⟩ := h
    have n_isinstance := T.fr "isinstance" (by decide +kernel)
    have n_tuple := T.fr "tuple" (by decide +kernel)
    have n_str := T.fr "str" (by decide +kernel)
    have g_ENTRIES := T.gl "ENTRIES" (by decide +kernel)
    refine ⟨_, PSs.nox (pss_cons (ps_if (PW.pt (pw_and (pt_val (pe_callB call_isi (by rfl) n_isinstance (by decide +kernel) (pa_cons (pv 0) (pa_cons (pe_bltn (v := .ty "tuple") (by rfl) n_tuple (by decide +kernel) rfl) pa_nil)))) (pw_and (pt_truth (pv 0) (fun _ => rfl)) (pw_and1 (pt_val (pe_callB call_isi (by rfl) n_isinstance (by decide +kernel) (pa_cons (pe_ix ix_tup (pv 0) pe_int (fun _ _ => rfl)) (pa_cons (pe_bltn (v := .ty "str") (by rfl) n_str (by decide +kernel) rfl) pa_nil))))))))
      (pss_one (ps_ret (pe_kget (pe_glob (v := .ref _) (by rfl) g_ENTRIES rfl) (pe_ix ix_tup (pv 0) pe_int (fun _ _ => rfl)) ⟨rfl, rfl, rfl, rfl⟩)))
      pss_nil)
      (pss_one (ps_ret pe_non))), ?_⟩
    obtain ⟨es, n, a, hD, hN, hA⟩ := T.en
    refine q_when (b := true) (et_is (et_and (et_B (ev_cb (ea_cons (ev_var rfl) (ea_cons ev_c ea_nil)) fun H1 e Q q => ⟨.ref t, .ty "tuple", .type "tuple", .type "tuple", true, rfl, .ty _, .base (.tup (e _ _ ht)), kit_ty (by decide +kernel), q H1 (Ex.refl _)⟩)) fun _ =>
      et_and (b := true) (a := true) (fun H1 e Q q => ev_var rfl H1 e _ fun H2 e2 => ⟨true, (show TruV K (.ref t) H2 true from Or.inr (Or.inl ⟨_, st_of (e2 _ _ (e _ _ ht)), rfl⟩)), q H2 e2⟩) fun _ => et_B (ev_cb (ea_cons (ev_op (ev_var rfl) ev_c (rv_ixT (st_of ht) (v := .str fw) rfl)) (ea_cons ev_c ea_nil)) isi_str)) rfl) (fun _ H1 e1 => ?_) (fun hb => nomatch hb)
    exact ⟨_, es, n, rfl, hD, .ref t, rfl, t, [.str fw], 0, .str fw, rfl, rfl, st_of (e1 _ _ ht), rfl, fw, _, .ref a, rfl, hN, rfl, kk a H1 hA e1⟩

theorem ok_parts_of {fd : FuncData} (F : FnP K "parts_of" "parts_of" s_parts_of (ga K "parts_of") fd) (T : Tx K w mg) (c_kinds_of : Cl P w K mg base CX0 1 (ga K "kinds_of") ["statement"] (spKinds K)) : FnOk P w K mg base CX0 (1 + 1) (ga K "parts_of") fd ["statement"] (spParts K) := by
  obtain ⟨fd_kinds_of, G_kinds_of, b_kinds_of, kp_kinds_of⟩ := c_kinds_of
  refine FunD.ok F sc_parts_of (fun vs H Q E h => ?_) (fun cdv A outer s H vs Q E hr h => ?_)
  · obtain ⟨t, rfl, _⟩ := h
    rfl
  · obtain ⟨t, rfl, ht, kk⟩ := h
    have g_kinds_of := T.gl "kinds_of" (by decide +kernel)
    have n_zip := T.fr "zip" (by decide +kernel)
    refine ⟨_, PSs.nox (pss_cons (ps_set (i := 1) sc_parts_of.nd rfl (Or.inl rfl) (pe_call G_kinds_of (hr.mono (by decide)) (by rfl) g_kinds_of kp_kinds_of b_kinds_of .nil pass0 (pa_cons (pv 0) pa_nil)))
      (pss_cons (ps_if (pt_cmpR op_isN (pv 1) pe_non (nomark _))
      (pss_one (ps_ret (pe_lst pa_nil)))
      pss_nil)
      (pss_one (ps_ret (pe_lc (own := [("entry", 2), ("kind", 3)]) (by rfl) sc_parts_of.nd (RZ.pi_zipA (by rfl) n_zip (pa_cons (pe_slice sl_tup (pv 0) (po_some pe_int) po_none) (pa_cons (pv 1) pa_nil))) (blkOk_by (own := [("entry", 2), ("kind", 3)]) (N := ["statement", "kinds", "entry", "kind"]) (sc := defScope s_parts_of) (by decide +kernel)) (fun _ _ _ _ _ => pg_nv) (fun _ _ _ _ _ => (pts_one pt_nv)) (fun _ _ _ _ _ => pe_nv)))))), ?_⟩
    refine ⟨.ref t, rfl, t, rfl, ht, fun a H1 hA e1 => ?_⟩
    dsimp only [gName, List.set]
    refine q_when (b := false) (et_test fun H2 e2 R q => ⟨.ref a, rfl, rfl, q H2 (Ex.refl _)⟩) (fun hb => nomatch hb) (fun _ H2 e2 => ?_)
    refine ⟨.ref t, rfl, 1, rfl, t, [.str fw], rfl, st_of (e2 _ _ (e1 _ _ ht)), ?_, fun p hp => ⟨.ref a, rfl, p, a, [], [], rfl, .inr ⟨st_of upd_same, hA _, fun D hD => ?_⟩⟩⟩
    · intro h
      exact absurd h.1 (by decide)
    · refine ⟨fun i m H' => H' = upd (upd H2 p (.tup [])) D (.lst []), ⟨0, rfl⟩, fun i m H' hW => .inl ⟨⟨[], [], ?_, hA _, .inl (Nat.zero_le _)⟩, ?_⟩⟩
      · rw [hW]
        exact st_of (Ex.new hD _ _ upd_same)
      · rw [hW]
        exact kk D _ (fresh_back ((e1.trans e2).trans (Ex.new hp)) hD) (((e1.trans e2).trans (Ex.new hp)).trans (Ex.new hD)) upd_same

theorem ok_numbered {fd : FuncData} (F : FnP K "numbered" "numbered" s_numbered (ga K "numbered") fd) (T : Tx K w mg) (c_parts_of : Cl P w K mg base CX0 2 (ga K "parts_of") ["statement"] (spParts K)) : FnOk P w K mg base CX0 (2 + 1) (ga K "numbered") fd ["body", "around"] (spNumb K) := by
  obtain ⟨fd_parts_of, G_parts_of, b_parts_of, kp_parts_of⟩ := c_parts_of
  refine FunD.ok F sc_numbered (fun vs H Q E h => ?_) (fun cdv A outer s H vs Q E hr h => ?_)
  · obtain ⟨b, ar, bs, rfl, _⟩ := h
    rfl
  · obtain ⟨b, ar, bs, rfl, hb, hl, hB, kk⟩ := h
    have n_enumerate := T.fr "enumerate" (by decide +kernel)
    have g_parts_of := T.gl "parts_of" (by decide +kernel)
    refine ⟨_, PSs.nox (pss_cons (ps_set (i := 2) sc_numbered.nd rfl (Or.inl rfl) (pe_lst pa_nil))
      (pss_cons (ps_for PassesOwn.never rfl (pi_tup (pv 0)) (pg_name (i := 3) sc_numbered.nd rfl (Or.inl rfl))
      (pss_cons (ps_expr (pe_bm PySem.F.plainAttrs_list PySem.F.slot_list_append PySem.F.type_list_append mt_append (pv 2) (pa_cons (pe_tup (pa_cons (pv 3) (pa_cons (pv 1) pa_nil))) pa_nil)))
      (pss_one (ps_for PassesOwn.never rfl (pi_enum (by rfl) n_enumerate (pa_cons (pe_call G_parts_of (hr.mono (by decide)) (by rfl) g_parts_of kp_parts_of b_parts_of .nil pass0 (pa_cons (pv 3) pa_nil)) pa_nil)) pg_nv (pss_one ps_never)))))
      (pss_one (ps_ret (pv 2))))), ?_⟩
    refine q_asgL (el_lst ea_nil (by decide)) fun D H1 hD e1 h1 => ?_
    dsimp only [gName, List.set]
    refine ⟨.ref b, rfl, b, rfl, ⟨_, st_of (e1 _ _ hb)⟩, ?_⟩
    refine for_tup (xs := bs.map V.ref) (fun i σ' H' => ∃ prs v3 v4 v5, σ' = [some (.ref b), some (.ref ar), some (.ref D), v3, v4, v5] ∧ H' D = some (.lst (prs.map V.ref)) ∧ prs.length = i ∧ Ex H H' ∧ Nb H' ar prs)
      ⟨[], _, _, _, rfl, h1, rfl, e1, fun p hp => nomatch hp⟩ (fun i σ' H' _ hI => ?_) (fun i x σ' H' hx hI => ?_) (fun σ' H' hI => ?_)
    · obtain ⟨prs, v3, v4, v5, rfl, h2, h3, e2, h4⟩ := hI
      exact st_of (e2 _ _ hb)
    · obtain ⟨prs, v3, v4, v5, rfl, h2, h3, e2, h4⟩ := hI
      rw [List.getElem?_map] at hx
      cases q : bs[i]? with
      | none =>
        rw [q] at hx
        cases hx
      | some t =>
        rw [q] at hx
        cases hx
        have ti := (List.getElem?_eq_some_iff.mp q).1
        have ht := hB t (List.mem_of_getElem? q)
        dsimp only [gName, List.set]
        refine q_appU h2 (ev_var rfl) (eu_tup (ea_cons (ev_var rfl) (ea_cons (ev_var rfl) ea_nil)) (show 2 ≤ 100000 by decide)) (by rw [List.length_map]; omega) fun p H3 hp e3 h5 => ?_
        have e4 : Ex H (upd H3 D (.lst (prs.map V.ref ++ [.ref p]))) := (e2.trans e3).mut hD
        have nb : Nb (upd H3 D (.lst (prs.map V.ref ++ [.ref p]))) ar (prs ++ [p]) := by
          intro pr hpr
          have hz : ∃ t, H3 pr = some (.tup [.ref t, .ref ar]) ∧ H3 t = some (.tup [.str fw]) := by
            rcases List.mem_append.mp hpr with h | h
            · exact h4.mono e3 pr h
            · rw [List.mem_singleton.mp h]
              exact ⟨t, h5, e3 _ _ (e2 _ _ ht)⟩
          obtain ⟨t', z1, z2⟩ := hz
          refine ⟨t', ?_, ?_⟩
          · rw [upd_ne (fun e => by rw [e, e3 _ _ h2] at z1; cases z1)]
            exact z1
          · rw [upd_ne (fun e => by rw [e, e3 _ _ h2] at z2; cases z2)]
            exact z2
        refine ⟨.ref t, rfl, t, rfl, e4 _ _ ht, fun s H5 hs e5 h6 => ⟨s, [], rfl, sq_of h6, fun i' m' σ' H' => σ' = [some (.ref b), some (.ref ar), some (.ref D), some (.ref t), v4, v5] ∧ H' = H5, ⟨0, rfl, rfl⟩, fun i' m' σ' H' hW => .inl ⟨?_, ?_⟩⟩⟩
        · rw [hW.2]
          exact ⟨[], sq_of h6, Nat.zero_le _⟩
        · rw [hW.1, hW.2]
          exact ⟨prs ++ [p], _, _, _, rfl, e5 _ _ (by rw [upd_same, List.map_append]; rfl), by rw [List.length_append, h3]; rfl, e4.trans e5, nb.mono e5⟩
    · obtain ⟨prs, v3, v4, v5, rfl, h2, h3, e2, h4⟩ := hI
      rw [List.length_map] at h3
      exact ⟨.ref D, rfl, kk D prs H' hD e2 h2 h3 h4⟩

end
end K02
set_option Elab.async false
set_option linter.all false
set_option maxRecDepth 100000
set_option maxHeartbeats 8000000
namespace K02
open PySem PySem.Spec PyProof.Rows L2 He XH XV XR PEN Evl


def Fn (K : PySem.W.Frag) (H : Hp) (f : Addr) (nm : Str) : Prop := ∃ dx b n bs, H f = some (.ins (ga K "Function") dx [("name", .str nm), ("body", .ref b), ("many", .int n)]) ∧ H b = some (.tup (bs.map V.ref)) ∧ bs.length ≤ 10 ∧ Bd H bs
theorem Fn.mono {K : PySem.W.Frag} {H H' : Hp} {f : Addr} {nm : Str} (e : Ex H H') (h : Fn K H f nm) : Fn K H' f nm := by
  obtain ⟨dx, b, n, bs, h1, h2, h3, h4⟩ := h
  exact ⟨dx, b, n, bs, e _ _ h1, e _ _ h2, h3, h4.mono e⟩
/-- all but a stands -/
def Xa (a : Addr) (H H' : Hp) : Prop := ∀ c o, c ≠ a → H c = some o → H' c = some o
theorem Xa.of {a : Addr} {H H' : Hp} (e : Ex H H') : Xa a H H' := fun c o _ h => e c o h
theorem Xa.trans {a : Addr} {H H1 H2 : Hp} (p : Xa a H H1) (q : Xa a H1 H2) : Xa a H H2 := fun c o n h => q c o n (p c o n h)
theorem Xa.upd {a : Addr} {H : Hp} {o : HO} : Xa a H (upd H a o) := fun c u n h => (upd_ne n).trans h
theorem Xa.new {a : Addr} {H0 H H' : Hp} (e : Ex H0 H) (n : H0 a = none) (k : Xa a H H') : Ex H0 H' := fun c o h => k c o (ne_of_none h n) (e c o h)
theorem putF_tail {f g : Str} {v x : V} {r : List (Str × V)} (h : ¬ g = f) : putF f v ((g, x) :: r) = (g, x) :: putF f v r := if_neg h
def spFI (K : PySem.W.Frag) : Sp := fun vs H Q _ => ∃ a nm b bs dx, vs = [.ref a, .str nm, .ref b] ∧ H a = some (.ins (ga K "Function") dx []) ∧ (H b = some (.tup (bs.map V.ref)) ∨ H b = some (.lst (bs.map V.ref))) ∧ bs.length ≤ 10 ∧ Bd H bs ∧ ∀ H', Xa a H H' → Fn K H' a nm → Q .non H'
def spWell : Sp := fun vs H Q _ => ∃ t nm, vs = [.ref t, nm] ∧ H t = some (.tup [.str fw]) ∧ ∀ H', Ex H H' → Q (.bl true) H'
def spMis : Sp := fun vs H Q _ => ∃ ar, vs = [.str fw, .ref ar] ∧ H ar = some (.tup []) ∧ ∀ H', Ex H H' → Q (.bl false) H'
def spBody (K : PySem.W.Frag) : Sp := fun vs H Q _ => ∃ f nm z, vs = [.ref f, nm] ∧ Fn K H f z ∧ ∀ H', Ex H H' → Q .non H'


def Fns (K : PySem.W.Frag) (H : Hp) (fos : List Addr) (os : List Str) : Prop := fos.length = os.length ∧ ∀ (i : Nat) (f : Addr) (z : Str), fos[i]? = some f → os[i]? = some z → Fn K H f z
theorem Fns.mono {K : PySem.W.Frag} {H H' : Hp} {fos : List Addr} {os : List Str} (e : Ex H H') (h : Fns K H fos os) : Fns K H' fos os := ⟨h.1, fun i f z h1 h2 => (h.2 i f z h1 h2).mono e⟩
structure Cd (K : PySem.W.Frag) (H : Hp) (a c r f : Addr) (cs rs os : List Str) (st : Str) (fos : List Addr) : Prop where
  ca : H c = some (.tup (cs.map V.str))
  ra : H r = some (.tup (rs.map V.str))
  fa : H f = some (.tup (fos.map V.ref))
  fs : Fns K H fos os
  at_ : ∃ dx, H a = some (.ins (ga K "Code") dx [("cells", .ref c), ("rows", .ref r), ("functions", .ref f), ("start", .str st)])
  sz : cs.length ≤ 40 ∧ rs.length ≤ 40 ∧ os.length ≤ 40
theorem Cd.mono {K : PySem.W.Frag} {H H' : Hp} {a c r f : Addr} {cs rs os : List Str} {st : Str} {fos : List Addr} (e : Ex H H') (h : Cd K H a c r f cs rs os st fos) : Cd K H' a c r f cs rs os st fos := by
  obtain ⟨h1, h2, h3, h4, ⟨dx, h5⟩, h6⟩ := h
  exact ⟨e _ _ h1, e _ _ h2, e _ _ h3, h4.mono e, ⟨dx, e _ _ h5⟩, h6⟩
theorem pe_fldc {X : Cx} {K : PySem.W.Frag} {e : Expr} {ta : TE} {f : Str} {pos : Pos} (hK : X.K = K) (he : PE X e ta) (hb : attributeBase e f X.env (eval e X.env) = eval e X.env) : PE X (.Attribute e f pos) (tFld K ta f) := hK ▸ pe_fld he hb
/-- a field of an instance, as it is read -/
theorem ev_fld {K : PySem.W.Frag} {ta : TE} {σ : L2.St} {H : Hp} {a C dx : Addr} {fs : List (Str × V)} {f : Str} {v : V} (h : Ev ta σ H (.ref a)) (ha : H a = some (.ins C dx fs)) (c : Cls K C) (n : NoAttr K C f) (l : fs.lookup f = some v) : Ev (tFld K ta f) σ H v := fun H1 e Q q =>
  h H1 e _ fun H2 e2 => ⟨a, C, dx, fs, v, rfl, e2 _ _ (e _ _ ha), c, n, l, q H2 e2⟩
theorem el_called {K : PySem.W.Frag} {w : World} {mg : Str → Option Value} {te : TE} {σ : L2.St} {H : Hp} {f : Addr} {fos : List Addr} {os : List Str} {j : Nat} {vs : List Nat} (T : Tx K w mg) (ht : Ev te σ H (.ref f)) (hf : H f = some (.tup (fos.map V.ref))) (hF : Fns K H fos os) (hl : os.length ≤ 40)
    (hw : ∀ x, wipe ((wipe σ vs).set j (some x)) vs = wipe σ vs) (hj : ∀ x, ((wipe σ vs).set j (some x))[j]? = some (some x)) : EvL (tLc (iTup K te) (gName j) tYes (tFld K (tVar j) "name") vs) σ H (os.map V.str) := fun H0 e Q q => ht H0 e _ fun H1 e1 => by
  have hf1 := e1 _ _ (e _ _ hf)
  refine ⟨f, rfl, ⟨_, st_of hf1⟩, fun D hD => ?_⟩
  refine lc_tup (xs := fos.map V.ref) (fun i H' => Ex H1 H' ∧ H' D = some (.lst ((os.take i).map V.str))) ⟨Ex.new hD, upd_same⟩ (fun i H' _ hI => st_of (hI.1 _ _ hf1)) (fun i x H2 hx hI => ?_) (fun H2 hI => ?_)
  · obtain ⟨e2, h2⟩ := hI
    rw [List.getElem?_map] at hx
    cases p : fos[i]? with
    | none =>
      rw [p] at hx
      cases hx
    | some t =>
      rw [p] at hx
      cases hx
      have hi := (List.getElem?_eq_some_iff.mp p).1
      obtain ⟨z, ho⟩ : ∃ z, os[i]? = some z := ⟨os[i]'(by rw [← hF.1]; exact hi), List.getElem?_eq_getElem _⟩
      obtain ⟨dx, b, n, bs, g1, g2, g3, g4⟩ := hF.2 i t _ p ho
      refine ⟨hw _, yes_go ⟨.ref t, hj _, t, _, dx, _, .str z, rfl, e2 _ _ (e1 _ _ (e _ _ g1)), T.cf, T.nf "name" (by decide +kernel), rfl, _, h2, ?_, e2.mut hD, ?_⟩⟩
      · rw [List.length_map, List.length_take]
        exact small1000 (by omega)
      · rw [upd_same, take_more ho, List.map_append]
        rfl
  · obtain ⟨e2, h2⟩ := hI
    rw [List.length_map, hF.1, List.take_of_length_le (Nat.le_refl _)] at h2
    exact q D H2 (fresh_back e1 hD) (e1.trans e2) h2
theorem q_cb {te : TE} {r : List V → Hp → VK → Prop} {i : Nat} {tz : TS} {D : Ends} {σ : L2.St} {H : Hp} (h : te σ H fun x H1 => r [x] H1 fun v H2 => tz D (σ.set i (some v)) H2) : tSeq (tAsg (tCB r (tCons te tNil)) (gName i)) tz D σ H := h
def spByKind (K : PySem.W.Frag) : Sp := fun vs H Q _ => ∃ a c r f cs rs os st fos, vs = [.ref a] ∧ Cd K H a c r f cs rs os st fos ∧ ∀ p H', Ex H H' → Q (.ref p) H'

section
variable {P : Program} {w : World} {K : PySem.W.Frag} {mg : Str → Option Value} {base : Heap}

theorem ok_Function_init {fd : FuncData} {f : Addr} (F : FnP K "__init__" "Function.__init__" s_Function_init f fd) (T : Tx K w mg) (c_frozen : Cl P w K mg base CX0 3 (ga K "frozen") ["thing"] (spFz2 K)) (c_numbered : Cl P w K mg base CX0 3 (ga K "numbered") ["body", "around"] (spNumb K)) : FnOk P w K mg base CX0 (3 + 1) f fd ["self", "name", "body"] (spFI K) := by
  obtain ⟨fd_frozen, G_frozen, b_frozen, kp_frozen⟩ := c_frozen
  obtain ⟨fd_numbered, G_numbered, b_numbered, kp_numbered⟩ := c_numbered
  refine FunD.ok F sc_Function_init (fun vs H Q E h => ?_) (fun cdv A outer s H vs Q E hr h => ?_)
  · obtain ⟨a, nm, b, bs, dx, rfl, _⟩ := h
    rfl
  · obtain ⟨a, nm, b, bs, dx, rfl, ha, hb, hl, hB, kk⟩ := h
    have g_frozen := T.gl "frozen" (by decide +kernel)
    have n_len := T.fr "len" (by decide +kernel)
    have g_numbered := T.gl "numbered" (by decide +kernel)
    refine ⟨_, PSs.nox (pss_cons (ps_fld (pv 0) (pv 1) rfl)
      (pss_cons (ps_fld (pv 0) (pe_call G_frozen (hr.mono (by decide)) (by rfl) g_frozen kp_frozen b_frozen .nil pass0 (pa_cons (pv 2) pa_nil)) rfl)
      (pss_one (ps_fld (pv 0) (pe_callB call_len_seq (by rfl) n_len (by decide +kernel) (pa_cons (pe_call G_numbered (hr.mono (by decide)) (by rfl) g_numbered kp_numbered b_numbered .nil pass0 (pa_cons (pe_fld (pv 0) rfl) (pa_cons (pe_tup pa_nil) pa_nil))) pa_nil)) rfl)))), ?_⟩
    refine ⟨.str nm, rfl, .ref a, rfl, a, _, dx, [], rfl, ha, T.cf, T.nf "name" (by decide +kernel), by decide, ?_⟩
    have e1 : upd H a (.ins (ga K "Function") dx (putF "name" (.str nm) [])) a = some (.ins (ga K "Function") dx [("name", .str nm)]) := upd_same
    generalize hH1 : upd H a (.ins (ga K "Function") dx (putF "name" (.str nm) [])) = H1 at e1
    have x1 : Xa a H H1 := by rw [← hH1]; exact Xa.upd
    have nb : b ≠ a := by
      rintro rfl
      rcases hb with hb | hb <;> rw [ha] at hb <;> cases hb
    have hb1 : H1 b = some (.tup (bs.map V.ref)) ∨ H1 b = some (.lst (bs.map V.ref)) := hb.elim (fun h => .inl (x1 _ _ nb h)) (fun h => .inr (x1 _ _ nb h))
    have hB1 : Bd H1 bs := fun t ht => x1 _ _ (fun e => by have z := hB t ht; rw [e, ha] at z; cases z) (hB t ht)
    refine ⟨.ref b, rfl, b, bs, rfl, hb1, hl, hB1, fun u us H2 hu e2 h2 hl2 hB2 => ?_⟩
    refine ⟨.ref a, rfl, a, _, dx, _, rfl, e2 _ _ e1, T.cf, T.nf "body" (by decide +kernel), (show 1 < 1000 by decide), ?_⟩
    rw [putF_tail (by decide +kernel)]
    have e3 : upd H2 a (.ins (ga K "Function") dx (("name", .str nm) :: putF "body" (.ref u) [])) a = some (.ins (ga K "Function") dx [("name", .str nm), ("body", .ref u)]) := upd_same
    generalize hH3 : upd H2 a (.ins (ga K "Function") dx (("name", .str nm) :: putF "body" (.ref u) [])) = H3 at e3
    have x3 : Xa a H2 H3 := by rw [← hH3]; exact Xa.upd
    have nu : u ≠ a := fun e => by rw [e, e1] at hu; cases hu
    have h3 := x3 _ _ nu h2
    have hB3 : Bd H3 us := fun t ht => x3 _ _ (fun e => by have z := hB2 t ht; rw [e, e2 _ _ e1] at z; cases z) (hB2 t ht)
    refine ⟨.ref a, rfl, a, _, dx, _, .ref u, rfl, e3, T.cf, T.nf "body" (by decide +kernel), rfl, (by decide), fun ar har => ?_⟩
    have e4 := Ex.new (o := .tup []) har
    refine ⟨u, ar, us, rfl, e4 _ _ h3, by omega, hB3.mono e4, fun q prs H4 hq e5 h5 hl5 _ => ?_⟩
    refine ⟨q, _, rfl, .inl (sq_of h5), .ref a, rfl, a, _, dx, _, rfl, e5 _ _ (e4 _ _ e3), T.cf, T.nf "many" (by decide +kernel), (show 2 < 1000 by decide), ?_⟩
    rw [putF_tail (by decide +kernel), putF_tail (by decide +kernel)]
    have x4 : Xa a H3 H4 := Xa.of (e4.trans e5)
    refine kk _ (((x1.trans (Xa.of e2)).trans (x3.trans x4)).trans Xa.upd) ⟨dx, u, _, us, upd_same, (upd_ne nu).trans (x4 _ _ nu h3), by omega, fun t ht => ?_⟩
    have z := x4 _ _ (fun e => by have z := hB3 t ht; rw [e, e3] at z; cases z) (hB3 t ht)
    rw [upd_ne (fun e => by have z := hB3 t ht; rw [e, e3] at z; cases z)]
    exact z

theorem ok_well_formed {fd : FuncData} (F : FnP K "well_formed" "well_formed" s_well_formed (ga K "well_formed") fd) (T : Tx K w mg) (c_kinds_of : Cl P w K mg base CX0 1 (ga K "kinds_of") ["statement"] (spKinds K)) : FnOk P w K mg base CX0 (1 + 1) (ga K "well_formed") fd ["statement", "names"] spWell := by
  obtain ⟨fd_kinds_of, G_kinds_of, b_kinds_of, kp_kinds_of⟩ := c_kinds_of
  refine FunD.ok F sc_well_formed (fun vs H Q E h => ?_) (fun cdv A outer s H vs Q E hr h => ?_)
  · obtain ⟨t, nm, rfl, _⟩ := h
    rfl
  · obtain ⟨t, nm, rfl, ht, kk⟩ := h
    have g_kinds_of := T.gl "kinds_of" (by decide +kernel)
    have n_len := T.fr "len" (by decide +kernel)
    have n_all := T.fr "all" (by decide +kernel)
    have n_zip := T.fr "zip" (by decide +kernel)
    refine ⟨_, PSs.nox (pss_cons (ps_set (i := 2) sc_well_formed.nd rfl (Or.inl rfl) (pe_call G_kinds_of (hr.mono (by decide)) (by rfl) g_kinds_of kp_kinds_of b_kinds_of .nil pass0 (pa_cons (pv 0) pa_nil)))
      (pss_cons (ps_if (PW.pt (pw_or (pt_cmpR op_isN (pv 2) pe_non (nomark _)) (pw_or1 (pt_cmpR op_ne (pe_callB call_len_seq (by rfl) n_len (by decide +kernel) (pa_cons (pv 0) pa_nil)) (pe_op op_add pe_int (pe_callB call_len_seq (by rfl) n_len (by decide +kernel) (pa_cons (pv 2) pa_nil))) (nomark _)))))
      (pss_one (ps_ret pe_bl))
      pss_nil)
      (pss_one (ps_ret (pe_callB (cr_all rfl) (by rfl) n_all (by decide +kernel) (pa_cons (pe_lc (own := [("entry", 3), ("kind", 4)]) (by rfl) sc_well_formed.nd (RZ.pi_zipA (by rfl) n_zip (pa_cons (pe_slice sl_tup (pv 0) (po_some pe_int) po_none) (pa_cons (pv 2) pa_nil))) (blkOk_by (own := [("entry", 3), ("kind", 4)]) (N := ["statement", "names", "kinds", "entry", "kind"]) (sc := defScope s_well_formed) (by decide +kernel)) (fun _ _ _ _ _ => pg_nv) (fun _ _ _ _ _ => pts_nil) (fun _ _ _ _ _ => pe_nv)) pa_nil)))))), ?_⟩
    refine ⟨.ref t, rfl, t, rfl, ht, fun a H1 hA e1 => ?_⟩
    dsimp only [gName, List.set]
    have ht1 := e1 _ _ ht
    refine q_when (b := false) (et_or (a := false) (b := false) (et_test fun H2 e2 R q => ⟨.ref a, rfl, rfl, q H2 (Ex.refl _)⟩) fun _ => et_test (ev_op (ev_cb (ea_cons (ev_var rfl) ea_nil) fun H2 e2 R q => ⟨t, _, rfl, .inr (st_of (e2 _ _ ht1)), q H2 (Ex.refl _)⟩)
      (ev_op ev_c (ev_cb (ea_cons (ev_var rfl) ea_nil) fun H2 e2 R q => ⟨a, [], rfl, .inr (hA _), q H2 (Ex.refl _)⟩) rv_I0) (rv_ne rfl))) (fun hb => nomatch hb) (fun _ H2 e2 => ?_)
    refine ⟨.ref t, rfl, 1, rfl, t, [.str fw], rfl, st_of (e2 _ _ ht1), ?_, fun p hp => ⟨.ref a, rfl, p, a, [], [], rfl, .inr ⟨st_of upd_same, hA _, fun D hD => ?_⟩⟩⟩
    · intro h
      exact absurd h.1 (by decide)
    · refine ⟨fun i m H' => H' = upd (upd H2 p (.tup [])) D (.lst []), ⟨0, rfl⟩, fun i m H' hW => .inl ⟨⟨[], [], ?_, hA _, .inl (Nat.zero_le _)⟩, ?_⟩⟩
      · rw [hW]
        exact st_of (Ex.new hD _ _ upd_same)
      · rw [hW]
        exact ⟨D, [], rfl, sq_of upd_same, kk _ (((e1.trans e2).trans (Ex.new hp)).trans (Ex.new hD))⟩

theorem ok_misplaced {fd : FuncData} (F : FnP K "misplaced" "misplaced" s_misplaced (ga K "misplaced") fd) (T : Tx K w mg) : FnOk P w K mg base CX0 (0 + 1) (ga K "misplaced") fd ["word", "around"] spMis := by
  refine FunD.ok F sc_misplaced (fun vs H Q E h => ?_) (fun cdv A outer s H vs Q E hr h => ?_)
  · obtain ⟨ar, rfl, _⟩ := h
    rfl
  · obtain ⟨ar, rfl, ha, kk⟩ := h
    have g_ROUND_WORDS := T.gl "ROUND_WORDS" (by decide +kernel)
    refine ⟨_, PSs.nox (pss_cons (ps_if (PW.pt (pw_and (pt_cmpR op_in_seq (pv 0) (pe_glob (v := .ref _) (by rfl) g_ROUND_WORDS rfl) (by rfl)) (pw_and1 pt_nv)))
      (pss_one (ps_ret pe_bl))
      pss_nil)
      (pss_one (ps_ret (pe_and (pe_cmpR op_in_nil (pe_tup (pa_cons pe_str (pa_cons pe_int pa_nil))) (pv 1) (by rfl)) (pe_one pe_nv))))), ?_⟩
    refine q_when (b := false) (et_and (a := false) (b := false) (et_test (ev_op (ev_var rfl) ev_c fun H1 e R q => ⟨_, [.str "again", .str "out"], rfl, .inr (T.ro _), rfl, rfl, q H1 (Ex.refl _)⟩)) (fun z => nomatch z)) (fun hb => nomatch hb) (fun _ H1 e1 => ?_)
    exact ⟨(by show 2 ≤ sizeLine; decide), fun p hp => ⟨.ref ar, rfl, ar, rfl, st_of (Ex.new hp _ _ (e1 _ _ ha)), false, rfl, ite_ff (kk _ (e1.trans (Ex.new hp)))⟩⟩

theorem ok_names_by_kind {fd : FuncData} (F : FnP K "names_by_kind" "names_by_kind" s_names_by_kind (ga K "names_by_kind") fd) (T : Tx K w mg) : FnOk P w K mg base CX0 (0 + 1) (ga K "names_by_kind") fd ["code"] (spByKind K) := by
  refine FunD.ok F sc_names_by_kind (fun vs H Q E h => ?_) (fun cdv A outer s H vs Q E hr h => ?_)
  · obtain ⟨a, c, r, f, cs, rs, os, st, fos, rfl, _⟩ := h
    rfl
  · obtain ⟨a, c, r, f, cs, rs, os, st, fos, rfl, hC, kk⟩ := h
    have n_tuple := T.fr "tuple" (by decide +kernel)
    have g_FIXED_WORDS := T.gl "FIXED_WORDS" (by decide +kernel)
    refine ⟨_, PSs.nox (pss_cons (ps_set (i := 1) sc_names_by_kind.nd rfl (Or.inl rfl) (pe_callTy call_tuple_of (by rfl) n_tuple (by decide +kernel) (pa_cons (pe_lc (own := [("function", 2)]) (g := gName 2) (by rfl) sc_names_by_kind.nd (pi_tup (pe_fld (pv 0) rfl)) (blkOk_by (own := [("function", 2)]) (N := ["code", "called", "function"]) (sc := defScope s_names_by_kind) (by decide +kernel)) (fun _ _ _ _ _ => (pg_name (i := 2) sc_names_by_kind.nd rfl (Or.inl rfl))) (fun _ _ _ _ _ => pts_nil) (fun _ _ _ _ _ => (pe_fldc (K := K) rfl (pv 2) rfl))) pa_nil)))
      (pss_one (ps_ret (pe_disp (pps_cons pe_str (pe_fld (pv 0) rfl) (pps_cons pe_str (pe_fld (pv 0) rfl) (pps_cons pe_str (pv 1) (pps_cons pe_str (pe_ix ix_kdict (pe_glob (v := .ref _) (by rfl) g_FIXED_WORDS rfl) pe_str (fun _ _ => rfl)) (pps_cons pe_str (pe_ix ix_kdict (pe_glob (v := .ref _) (by rfl) g_FIXED_WORDS rfl) pe_str (fun _ _ => rfl)) pps_nil))))) rfl rfl (by simp) (by decide))))), ?_⟩
    obtain ⟨dx, hA⟩ := hC.at_
    obtain ⟨es, n, a1, a2, D1, D2, D3⟩ := T.fx
    refine q_cb (el_called (te := tFld K (tVar 0) "functions") (σ := L2.start ["code", "called", "function"] [V.ref a]) (j := 2) (vs := [2]) T (ev_fld (ev_var rfl) hA T.cc (T.nc "functions" (by decide +kernel)) rfl) hC.fa hC.fs hC.sz.2.2 (fun _ => by rfl) (fun _ => by rfl) H (Ex.refl H) _ fun q H1 hq e1 h1 => ?_)
    refine ⟨q, _, rfl, .inl ⟨sq_of h1, fun u hu => ?_⟩⟩
    dsimp only [gName, List.set]
    intro p hp
    have e2 := e1.trans ((Ex.new (o := .tup (os.map V.str)) hu).trans (Ex.new (o := .dK []) hp))
    have hA2 := e2 _ _ hA
    refine ⟨.ref a, rfl, a, _, dx, _, .ref c, rfl, hA2, T.cc, T.nc "cells" (by decide +kernel), rfl, ?_⟩
    refine ⟨.ref a, rfl, a, _, dx, _, .ref r, rfl, hA2, T.cc, T.nc "rows" (by decide +kernel), rfl, ?_⟩
    refine ⟨.ref u, rfl, ?_⟩
    refine ⟨_, "how", .ref a1, rfl, rfl, ⟨es, n, _, D1.at_, D1.lit, D2, rfl⟩, ?_⟩
    refine ⟨_, "end", .ref a2, rfl, rfl, ⟨es, n, _, D1.at_, D1.lit, D3, rfl⟩, ?_⟩
    exact ⟨upd_same, [(Sum.inr "cell", .ref c), (Sum.inr "row", .ref r), (Sum.inr "function", .ref u), (Sum.inr "how", .ref a1), (Sum.inr "end", .ref a2)], rfl, (show 5 ≤ 15 by decide), kk p _ (e2.mut (fresh_back (e1.trans (Ex.new hu)) hp))⟩

theorem ok_check_body {fd : FuncData} (F : FnP K "check_body" "check_body" s_check_body (ga K "check_body") fd) (T : Tx K w mg) (c_numbered : Cl P w K mg base CX0 3 (ga K "numbered") ["body", "around"] (spNumb K)) (c_well_formed : Cl P w K mg base CX0 2 (ga K "well_formed") ["statement", "names"] spWell) (c_misplaced : Cl P w K mg base CX0 1 (ga K "misplaced") ["word", "around"] spMis) (c_parts_of : Cl P w K mg base CX0 2 (ga K "parts_of") ["statement"] (spParts K)) : FnOk P w K mg base CX0 (3 + 1) (ga K "check_body") fd ["function", "names"] (spBody K) := by
  obtain ⟨fd_numbered, G_numbered, b_numbered, kp_numbered⟩ := c_numbered
  obtain ⟨fd_well_formed, G_well_formed, b_well_formed, kp_well_formed⟩ := c_well_formed
  obtain ⟨fd_misplaced, G_misplaced, b_misplaced, kp_misplaced⟩ := c_misplaced
  obtain ⟨fd_parts_of, G_parts_of, b_parts_of, kp_parts_of⟩ := c_parts_of
  refine FunD.ok F sc_check_body (fun vs H Q E h => ?_) (fun cdv A outer s H vs Q E hr h => ?_)
  · obtain ⟨f, nm, z, rfl, _⟩ := h
    rfl
  · obtain ⟨f, nm, z, rfl, hF, kk⟩ := h
    have n_enumerate := T.fr "enumerate" (by decide +kernel)
    have g_numbered := T.gl "numbered" (by decide +kernel)
    obtain ⟨tk_MOST_STATEMENTS, g_MOST_STATEMENTS⟩ := T.c_MOST_STATEMENTS
    have g_well_formed := T.gl "well_formed" (by decide +kernel)
    have g_misplaced := T.gl "misplaced" (by decide +kernel)
    have g_parts_of := T.gl "parts_of" (by decide +kernel)
    have n_len := T.fr "len" (by decide +kernel)
    obtain ⟨tk_MOST_BLOCKS_AROUND, g_MOST_BLOCKS_AROUND⟩ := T.c_MOST_BLOCKS_AROUND
    refine ⟨_, PSs.nox (pss_one (ps_for PassesOwn.never rfl (pi_enum (by rfl) n_enumerate (pa_cons (pe_call G_numbered (hr.mono (by decide)) (by rfl) g_numbered kp_numbered b_numbered .nil pass0 (pa_cons (pe_fld (pv 0) rfl) (pa_cons (pe_tup pa_nil) pa_nil))) pa_nil)) (pg_tup rfl (pgs_cons (pg_name (i := 2) sc_check_body.nd rfl (Or.inl rfl)) (pgs_cons (pg_tup rfl (pgs_cons (pg_name (i := 3) sc_check_body.nd rfl (Or.inl rfl)) (pgs_cons (pg_name (i := 4) sc_check_body.nd rfl (Or.inl rfl)) pgs_nil))) pgs_nil)))
      (pss_cons (ps_if (pt_cmpR op_eq (pv 2) (pe_glob (v := .int _) (by rfl) g_MOST_STATEMENTS ⟨_, rfl⟩) (nomark _))
      (pss_one ps_never)
      pss_nil)
      (pss_cons (ps_if (PW.pt (pw_or (pt_not (pt_val (pe_call G_well_formed (hr.mono (by decide)) (by rfl) g_well_formed kp_well_formed b_well_formed .nil pass0 (pa_cons (pv 3) (pa_cons (pv 1) pa_nil))))) (pw_or1 (pt_val (pe_call G_misplaced (hr.mono (by decide)) (by rfl) g_misplaced kp_misplaced b_misplaced .nil pass0 (pa_cons (pe_ix ix_tup (pv 3) pe_int (fun _ _ => rfl)) (pa_cons (pv 4) pa_nil)))))))
      (pss_one ps_never)
      pss_nil)
      (pss_one (ps_if (PW.pt (pw_and (pt_truth (pe_call G_parts_of (hr.mono (by decide)) (by rfl) g_parts_of kp_parts_of b_parts_of .nil pass0 (pa_cons (pv 3) pa_nil)) (fun _ => rfl)) (pw_and1 (pt_cmpR op_gt (pe_callB call_len_seq (by rfl) n_len (by decide +kernel) (pa_cons (pv 4) pa_nil)) (pe_glob (v := .int _) (by rfl) g_MOST_BLOCKS_AROUND ⟨_, rfl⟩) (nomark _)))))
      (pss_one ps_never)
      pss_nil)))))), ?_⟩
    obtain ⟨dx, b, n, bs, h1, h2, h3, h4⟩ := hF
    refine ⟨.ref f, rfl, f, _, dx, _, .ref b, rfl, h1, T.cf, T.nf "body" (by decide +kernel), rfl, (by show 0 ≤ sizeLine; decide), fun ar har => ?_⟩
    have e1 := Ex.new (o := .tup []) har
    refine ⟨b, ar, bs, rfl, e1 _ _ h2, h3, h4.mono e1, fun q prs H1 hq e2 g1 g2 g3 => ?_⟩
    have hA : H1 ar = some (.tup []) := e2 _ _ upd_same
    refine ⟨q, prs.map V.ref, rfl, sq_of g1, ?_⟩
    refine for_it (walk_enum (xs := prs.map V.ref)) (fun i σ' H' => ∃ v2 v3 v4, σ' = [some (.ref f), some nm, v2, v3, v4] ∧ Ex H1 H') ⟨_, _, _, rfl, Ex.refl _⟩ (fun i σ' H' _ hI => ?_) (fun i x σ' H2 H3 hi hI hy => ?_) (fun σ' H' hI => ?_)
    · obtain ⟨v2, v3, v4, rfl, e3⟩ := hI
      exact sq_of (e3 _ _ g1)
    · obtain ⟨v2, v3, v4, rfl, e3⟩ := hI
      obtain ⟨tq, x1, y1, rfl, hT, rfl, p1, p2⟩ := hy
      cases p1
      replace p2 : (prs.map V.ref)[i]? = some y1 := p2
      rw [List.getElem?_map] at p2
      cases p : prs[i]? with
      | none =>
        rw [p] at p2
        cases p2
      | some pr =>
        rw [p] at p2
        cases p2
        have hi2 := (List.getElem?_eq_some_iff.mp p).1
        obtain ⟨t, t1, t2⟩ := g3 pr (List.mem_of_getElem? p)
        have e4 : Ex H1 (upd H2 tq (.tup [.int (i : Nat), .ref pr])) := e3.trans (Ex.new hT)
        refine ⟨tq, _, rfl, st_of upd_same, rfl, .int (i : Nat), [.ref pr], rfl, .ref pr, [], rfl, pr, [.ref t, .ref ar], rfl, st_of (e4 _ _ t1), rfl, .ref t, [.ref ar], rfl, .ref ar, [], rfl, rfl, rfl, ?_⟩
        dsimp only [gName, List.set]
        refine q_when (b := false) (et_is (et_test (ev_op (ev_var rfl) ev_c (rv_eq rfl))) (decide_eq_false (by intro h; injection h with h; omega))) (fun hb => nomatch hb) (fun _ H4 e5 => ?_)
        have e6 := e4.trans e5
        refine q_when (b := false) (et_or (a := false) (b := false) (et_not (a := true) (et_B (ev_call (ea_cons (ev_var rfl) (ea_cons (ev_var rfl) ea_nil)) fun H5 e7 R q _ => ⟨t, nm, rfl, (e6.trans e7) _ _ t2, fun H6 e8 => q H6 e8⟩))) fun _ =>
          et_B (ev_call (ea_cons (ev_op (ev_var rfl) ev_c (rv_ixT (st_of (e6 _ _ t2)) (v := .str fw) rfl)) (ea_cons (ev_var rfl) ea_nil)) fun H5 e7 R q _ => ⟨ar, rfl, (e6.trans e7) _ _ hA, fun H6 e8 => q H6 e8⟩)) (fun hb => nomatch hb) (fun _ H5 e7 => ?_)
        have e8 := e6.trans e7
        refine ⟨.ref t, rfl, t, rfl, e8 _ _ t2, fun s H6 hs e9 hS => ⟨false, (show TruV K (.ref s) H6 false from Or.inl ⟨[], sq_of hS, rfl⟩), ite_ff (ite_ff ⟨_, _, _, rfl, e8.trans e9⟩)⟩⟩
    · obtain ⟨v2, v3, v4, rfl, e3⟩ := hI
      exact kk H' ((e1.trans e2).trans e3)

end
end K02
set_option Elab.async false
set_option linter.all false
set_option maxRecDepth 100000
set_option maxHeartbeats 8000000
namespace K02
open PySem PySem.Spec PyProof.Rows L2 He XH XV XR PEN Evl


def great (cs rs os : List Str) : Bool := decide ((3 : Int) < (cs.length : Int)) || (decide ((2 : Int) < (rs.length : Int)) || decide ((3 : Int) < (os.length : Int)))
def okN (ns : List Str) : Prop := ∀ (i : Nat) (z : Str), ns[i]? = some z → goodN z = true ∧ z ∉ ns.take i
def fine (cs rs os : List Str) (st : Str) : Prop := okN (cs ++ rs ++ os) ∧ st ∈ os
def short (ns : List Str) : Prop := ∀ z ∈ ns, z.length ≤ 1000
def BadE (K : PySem.W.Frag) (H : Hp) (E : XK) (F : Hp → Prop) : Prop := ∀ d H', F H' → H' d = some (.xd [("number", .non), ("function", .non)]) → E (.ref (ga K "BadCode")) (some d) H'
def spBounds (K : PySem.W.Frag) : Sp := fun vs H Q E => ∃ a c r f cs rs os st fos, vs = [.ref a] ∧ Cd K H a c r f cs rs os st fos ∧ ∀ H', Ex H H' → (great cs rs os = true → E (.ref (ga K "TooGreat")) none H') ∧ (great cs rs os = false → Q .non H')
def spChk (K : PySem.W.Frag) : Sp := fun vs H Q E => ∃ a c r f cs rs os st fos, vs = [.ref a] ∧ Cd K H a c r f cs rs os st fos ∧ short (cs ++ rs ++ os) ∧ (fine cs rs os st → ∀ H', Ex H H' → Q .non H') ∧ (¬ fine cs rs os st → BadE K H E fun H' => Ex H H')
def spCI (K : PySem.W.Frag) : Sp := fun vs H Q E => ∃ a c r f cs rs os st fos dx, vs = [.ref a, .ref c, .ref r, .ref f, .str st] ∧ H a = some (.ins (ga K "Code") dx []) ∧ H c = some (.lst (cs.map V.str)) ∧ H r = some (.lst (rs.map V.str)) ∧ H f = some (.lst (fos.map V.ref)) ∧ Fns K H fos os ∧
  (cs.length ≤ 40 ∧ rs.length ≤ 40 ∧ os.length ≤ 40) ∧ short (cs ++ rs ++ os) ∧ (great cs rs os = true → ∀ H', Xa a H H' → E (.ref (ga K "TooGreat")) none H') ∧ (great cs rs os = false → ¬ fine cs rs os st → BadE K H E fun H' => Xa a H H') ∧
  (great cs rs os = false → fine cs rs os st → ∀ c r f H', Xa a H H' → Cd K H' a c r f cs rs os st fos → Q .non H')
theorem bad_made {K : PySem.W.Frag} {C : Addr} {σ : L2.St} {H : Hp} {Q : XK} (U : OexC K C) (n1 : PySem.W.findIn K (.ref C) "function" = some none) (n2 : PySem.W.findIn K (.ref C) "number" = some none)
    (h : ∀ d H', Ex H H' → H' d = some (.xd [("number", .non), ("function", .non)]) → Q (.ref C) (some d) H') : tMkO C (spI2 K C "function" "number") [] (tCons (tC .non) (tCons (tC .non) tNil)) σ H Q := by
  refine ⟨(show 2 ≤ 1000 by decide), fun a ha => ⟨a, .non, .non, rfl, U, n1, n2, upd_same, fun d hd hda => ⟨rfl, d, _, (upd_ne (Ne.symm hda)).trans upd_same, upd_same, ?_, h d _ ?_ upd_same⟩⟩⟩
  · exact (upd_ne hda).symm.trans hd
  · intro c o hc
    have c1 : c ≠ a := ne_of_none hc ha
    have c2 : c ≠ d := ne_of_none hc ((upd_ne hda).symm.trans hd)
    rw [upd_ne c2, del_ne c1, upd_ne c2, upd_ne c1, upd_ne c2, upd_ne c1]
    exact hc


theorem Fn.xa {K : PySem.W.Frag} {H H' : Hp} {f a C dx : Addr} {nm : Str} (k : Xa a H H') (ha : H a = some (.ins C dx [])) (h : Fn K H f nm) : Fn K H' f nm := by
  obtain ⟨dx2, b, n, bs, h1, h2, h3, h4⟩ := h
  refine ⟨dx2, b, n, bs, k _ _ ?_ h1, k _ _ ?_ h2, h3, fun t ht => k _ _ ?_ (h4 t ht)⟩
  · rintro rfl
    rw [ha] at h1
    cases h1
  · rintro rfl
    rw [ha] at h2
    cases h2
  · rintro rfl
    have z := h4 _ ht
    rw [ha] at z
    cases z
theorem Fns.xa {K : PySem.W.Frag} {H H' : Hp} {a C dx : Addr} {fos : List Addr} {os : List Str} (k : Xa a H H') (ha : H a = some (.ins C dx [])) (h : Fns K H fos os) : Fns K H' fos os := ⟨h.1, fun i f z h1 h2 => (h.2 i f z h1 h2).xa k ha⟩

section
variable {P : Program} {w : World} {K : PySem.W.Frag} {mg : Str → Option Value} {base : Heap}

theorem ok_BadCode_init {C f : Addr} {fd : FuncData} (F : FnP K "__init__" "BadCode.__init__" s_BadCode_init f fd) : FnOk P w K mg base CX0 1 f fd ["self", "function", "number"] (spI2 K C "function" "number") := by
  refine FunD.ok F sc_BadCode_init (fun vs H Q E h => ?_) (fun cdv A outer s H vs Q E hr h => ?_)
  · obtain ⟨a, y, z, rfl, _⟩ := h
    rfl
  · obtain ⟨a, y, z, rfl, U, no, no2, ha, kk⟩ := h
    refine ⟨_, PSs.nox (pss_cons (ps_ost (pv 0) (pv 1)) (pss_one (ps_ost (pv 0) (pv 2)))), ?_⟩
    exact ⟨y, rfl, .ref a, rfl, a, C, rfl, U, no, .inl ⟨ha, fun dx h1 h2 => ⟨z, rfl, .ref a, rfl, a, C, rfl, U, no2, .inr ⟨dx, _, upd_same, (upd_ne h2).trans upd_same, by show 1 ≤ 900; decide, kk dx h1 h2⟩⟩⟩⟩

theorem ok_check_bounds {fd : FuncData} (F : FnP K "check_bounds" "check_bounds" s_check_bounds (ga K "check_bounds") fd) (T : Tx K w mg) : FnOk P w K mg base (L2.CX P w) (0 + 1) (ga K "check_bounds") fd ["code"] (spBounds K) := by
  refine FunD.ok F sc_check_bounds (fun vs H Q E h => ?_) (fun cdv A outer s H vs Q E hr h => ?_)
  · obtain ⟨a, c, r, f, cs, rs, os, st, fos, rfl, _⟩ := h
    rfl
  · obtain ⟨a, c, r, f, cs, rs, os, st, fos, rfl, hC, kk⟩ := h
    have n_len := T.fr "len" (by decide +kernel)
    obtain ⟨tk_MOST_CELLS, g_MOST_CELLS⟩ := T.c_MOST_CELLS
    obtain ⟨tk_MOST_ROWS, g_MOST_ROWS⟩ := T.c_MOST_ROWS
    obtain ⟨tk_MOST_FUNCTIONS, g_MOST_FUNCTIONS⟩ := T.c_MOST_FUNCTIONS
    have g_TooGreat := T.gl "TooGreat" (by decide +kernel)
    refine ⟨_, (pss_one (ps_if (PW.pt (pw_or (pt_cmpR op_gt (pe_callB call_len_seq (by rfl) n_len (by decide +kernel) (pa_cons (pe_fld (pv 0) rfl) pa_nil)) (pe_glob (v := .int _) (by rfl) g_MOST_CELLS ⟨_, rfl⟩) (nomark _)) (pw_or (pt_cmpR op_gt (pe_callB call_len_seq (by rfl) n_len (by decide +kernel) (pa_cons (pe_fld (pv 0) rfl) pa_nil)) (pe_glob (v := .int _) (by rfl) g_MOST_ROWS ⟨_, rfl⟩) (nomark _)) (pw_or1 (pt_cmpR op_gt (pe_callB call_len_seq (by rfl) n_len (by decide +kernel) (pa_cons (pe_fld (pv 0) rfl) pa_nil)) (pe_glob (v := .int _) (by rfl) g_MOST_FUNCTIONS ⟨_, rfl⟩) (nomark _))))))
      (pss_one (ps_raise rfl (takes_of rfl rfl rfl rfl) (pmk0 PySem.F.excBase_ValueError T.tg.ex g_TooGreat T.tg.kC (raises_own T.tg.ec.hs T.ty) (by rfl))))
      pss_nil)), ?_⟩
    obtain ⟨dx, hA⟩ := hC.at_
    refine s_when (b := great cs rs os) (et_or (et_test (ev_op (ev_cb (ea_cons (ev_fld (ev_var rfl) hA T.cc (T.nc "cells" (by decide +kernel)) rfl) ea_nil) fun H2 e2 R q => ⟨c, _, rfl, .inr (st_of (e2 _ _ hC.ca)), q H2 (Ex.refl _)⟩) ev_c (by rw [List.length_map]; exact rv_I0))) fun _ =>
      et_or (et_test (ev_op (ev_cb (ea_cons (ev_fld (ev_var rfl) hA T.cc (T.nc "rows" (by decide +kernel)) rfl) ea_nil) fun H2 e2 R q => ⟨r, _, rfl, .inr (st_of (e2 _ _ hC.ra)), q H2 (Ex.refl _)⟩) ev_c (by rw [List.length_map]; exact rv_I0))) fun _ =>
      et_test (ev_op (ev_cb (ea_cons (ev_fld (ev_var rfl) hA T.cc (T.nc "functions" (by decide +kernel)) rfl) ea_nil) fun H2 e2 R q => ⟨f, _, rfl, .inr (st_of (e2 _ _ hC.fa)), q H2 (Ex.refl _)⟩) ev_c (by rw [List.length_map, hC.fs.1]; exact rv_I0))) (fun hb H1 e1 => ?_) (fun hb H1 e1 => ?_)
    · exact (kk H1 e1).1 hb
    · exact (kk H1 e1).2 hb

theorem ok_check_names {fd : FuncData} (F : FnP K "check_names" "check_names" s_check_names (ga K "check_names") fd) (T : Tx K w mg) (c_is_name : Cl P w K mg base CX0 1 (ga K "is_name") ["word"] spIsName) (c_BadCode_init : Cl P w K mg base CX0 1 (ma K (ga K "BadCode") "__init__") ["self", "function", "number"] (spI2 K (ga K "BadCode") "function" "number")) : FnOk P w K mg base (L2.CX P w) (2 + 1) (ga K "check_names") fd ["code"] (spChk K) := by
  obtain ⟨fd_is_name, G_is_name, b_is_name, kp_is_name⟩ := c_is_name
  obtain ⟨fd_BadCode_init, G_BadCode_init, b_BadCode_init, kp_BadCode_init⟩ := c_BadCode_init
  refine FunD.ok F sc_check_names (fun vs H Q E h => ?_) (fun cdv A outer s H vs Q E hr h => ?_)
  · obtain ⟨a, c, r, f, cs, rs, os, st, fos, rfl, _⟩ := h
    rfl
  · obtain ⟨a, c, r, f, cs, rs, os, st, fos, rfl, hC, hs, k1, k2⟩ := h
    have g_is_name := T.gl "is_name" (by decide +kernel)
    have g_BadCode := T.gl "BadCode" (by decide +kernel)
    refine ⟨_, (pss_cons (ps_setLc (i := 1) (own := [("function", 4)]) (g := gName 4) (by rfl) sc_check_names.nd rfl rfl (sw_true rfl rfl rfl (by decide +kernel)) (pi_tup (pe_fld (pv 0) rfl)) (blkOk_by (own := [("function", 4)]) (N := ["code", "called", "seen", "name", "function"]) (sc := defScope s_check_names) (by decide +kernel)) (fun _ _ _ _ _ => (pg_name (i := 4) sc_check_names.nd rfl (Or.inl rfl))) (fun _ _ _ _ _ => pts_nil) (fun _ _ _ _ _ => (pe_fldc (K := K) rfl (pv 4) rfl)))
      (pss_cons (ps_set (i := 2) sc_check_names.nd rfl (Or.inl rfl) (pe_lst pa_nil))
      (pss_cons (ps_for (passes_of rfl) rfl (pi_list (pe_lst (StX.pa_star (pe_fld (pv 0) rfl) (StX.pa_star (pe_fld (pv 0) rfl) (StX.pa_star (pv 1) pa_nil))))) (pg_name (i := 3) sc_check_names.nd rfl (Or.inl rfl))
      (pss_cons (ps_if (PW.pt (pw_or (pt_not (pt_val (pe_call G_is_name (hr.mono (by decide)) (by rfl) g_is_name kp_is_name b_is_name .nil pass0 (pa_cons (pv 3) pa_nil)))) (pw_or1 (pt_cmpR op_in_seq (pv 3) (pv 2) (by rfl)))))
      (pss_one (ps_raise rfl (takes_of rfl rfl rfl rfl) (pmk_oex T.bc.ox T.bc.iC T.bc.tI G_BadCode_init (hr.mono (by decide)) b_BadCode_init .nil pass0 (by rfl) g_BadCode (pa_cons pe_non (pa_cons pe_non pa_nil)))))
      pss_nil)
      (pss_one (ps_expr (pe_bm PySem.F.plainAttrs_list PySem.F.slot_list_append PySem.F.type_list_append mt_append (pv 2) (pa_cons (pv 3) pa_nil))))))
      (pss_one (ps_if (pt_cmpR op_notIn_seq (pe_fld (pv 0) rfl) (pv 1) (by rfl))
      (pss_one (ps_raise rfl (takes_of rfl rfl rfl rfl) (pmk_oex T.bc.ox T.bc.iC T.bc.tI G_BadCode_init (hr.mono (by decide)) b_BadCode_init .nil pass0 (by rfl) g_BadCode (pa_cons pe_non (pa_cons pe_non pa_nil)))))
      pss_nil))))), ?_⟩
    obtain ⟨dx, hA⟩ := hC.at_
    obtain ⟨z1, z2, z3⟩ := hC.sz
    refine q_asgL (el_called (te := tFld K (tVar 0) "functions") (σ := L2.start ["code", "called", "seen", "name", "function"] [V.ref a]) (j := 4) (vs := [4]) T (ev_fld (ev_var rfl) hA T.cc (T.nc "functions" (by decide +kernel)) rfl) hC.fa hC.fs z3 (fun _ => by rfl) (fun _ => by rfl)) fun q H1 hq e1 g1 => ?_
    refine q_asgL (el_lst ea_nil (by decide)) fun D H2 hD e2 g2 => ?_
    have e3 := e1.trans e2
    have hD0 : H D = none := fresh_back e1 hD
    have gq := e2 _ _ g1
    have hsz : (cs ++ rs ++ os).length ≤ 120 := by
      rw [List.length_append, List.length_append]
      omega
    have en : cs.map V.str ++ (rs.map V.str ++ (os.map V.str ++ [])) = (cs ++ rs ++ os).map V.str := by
      simp
    refine ⟨.ref a, rfl, a, _, dx, _, .ref c, rfl, e3 _ _ hA, T.cc, T.nc "cells" (by decide +kernel), rfl, c, _, rfl, .inl (st_of (e3 _ _ hC.ca)), ?_⟩
    refine ⟨.ref a, rfl, a, _, dx, _, .ref r, rfl, e3 _ _ hA, T.cc, T.nc "rows" (by decide +kernel), rfl, r, _, rfl, .inl (st_of (e3 _ _ hC.ra)), ?_⟩
    refine ⟨.ref q, rfl, q, _, rfl, .inr (sq_of gq), ?_⟩
    show (cs.map V.str ++ (rs.map V.str ++ (os.map V.str ++ []))).length ≤ sizeLine ∧ _
    rw [en]
    refine ⟨by rw [List.length_map, sizeLine_eq]; omega, fun p hp => ⟨p, rfl, ⟨_, sq_of upd_same⟩, ?_⟩⟩
    have e4 := e3.trans (Ex.new (o := .lst ((cs ++ rs ++ os).map V.str)) hp)
    have hpD : p ≠ D := fun e => by rw [e, g2] at hp; cases hp
    refine for_list (xs := (cs ++ rs ++ os).map V.str) (fun i σ' H' => ∃ v3 v4, σ' = [some (.ref a), some (.ref q), some (.ref D), v3, v4] ∧ H' D = some (.lst (((cs ++ rs ++ os).take i).map V.str)) ∧ Ex H H' ∧ H' p = some (.lst ((cs ++ rs ++ os).map V.str)) ∧ H' q = some (.lst (os.map V.str)) ∧
        ∀ (j : Nat) (z : Str), j < i → (cs ++ rs ++ os)[j]? = some z → goodN z = true ∧ z ∉ (cs ++ rs ++ os).take j)
      ⟨_, _, rfl, (upd_ne (Ne.symm hpD)).trans g2, e4, upd_same, Ex.new hp _ _ gq, fun j z hj => absurd hj (Nat.not_lt_zero j)⟩ (fun i σ' H' _ hI => ?_) (fun i x σ' H' hx hI => ?_) (fun σ' H' hI => ?_)
    · obtain ⟨v3, v4, rfl, g3, e5, g4, g5, ok⟩ := hI
      exact sq_of g4
    · obtain ⟨v3, v4, rfl, g3, e5, g4, g5, ok⟩ := hI
      rw [List.getElem?_map] at hx
      cases p1 : (cs ++ rs ++ os)[i]? with
      | none =>
        rw [p1] at hx
        cases hx
      | some z =>
        rw [p1] at hx
        cases hx
        have hi := (List.getElem?_eq_some_iff.mp p1).1
        have hz := hs z (List.mem_of_getElem? p1)
        dsimp only [gName, List.set]
        refine q_when (b := !goodN z || decide (z ∈ (cs ++ rs ++ os).take i)) (et_or (et_not (et_B (ev_call (ea_cons (ev_var rfl) ea_nil) fun H5 e7 R q _ => ⟨z, rfl, hz, fun H6 e8 => q H6 e8⟩))) fun _ =>
          et_test (ev_op (ev_var rfl) (ev_var rfl) (by rw [← inV_strs]; exact rv_isL (sq_of g3) rfl (flat_strs _)))) (fun hb H5 e7 => ?_) (fun hb H5 e7 => ?_)
        · refine bad_made T.bc.ox (T.bc.no _ (by decide +kernel)) (T.bc.no _ (by decide +kernel)) fun d H6 e8 hd => k2 (fun hf => ?_) d H6 ((e5.trans e7).trans e8) hd
          obtain ⟨y1, y2⟩ := hf.1 i z p1
          rw [y1, decide_eq_false y2] at hb
          cases hb
        · rw [Bool.or_eq_false_iff] at hb
          have y1 : goodN z = true := by
            cases y : goodN z with
            | true => rfl
            | false =>
              rw [y] at hb
              cases hb.1
          refine s_app (e7 _ _ g3) (ev_var rfl) (ev_var rfl) (by rw [List.length_map, List.length_take]; omega) fun H6 e8 => ?_
          have hDn : p ≠ D := hpD
          have nq : q ≠ D := fun e => by rw [e, hD] at g1; cases g1
          refine ⟨_, _, rfl, ?_, ((e5.trans e7).trans e8).mut hD0, (upd_ne hDn).trans (e8 _ _ (e7 _ _ g4)), (upd_ne nq).trans (e8 _ _ (e7 _ _ g5)), fun j z' hj hz' => ?_⟩
          · rw [upd_same, take_more p1, List.map_append]
            rfl
          · rcases Nat.lt_succ_iff_lt_or_eq.mp hj with h | h
            · exact ok j z' h hz'
            · subst h
              rw [p1] at hz'
              cases hz'
              exact ⟨y1, of_decide_eq_false hb.2⟩
    · obtain ⟨v3, v4, rfl, g3, e5, g4, g5, ok⟩ := hI
      rw [List.length_map] at ok
      have okA : okN (cs ++ rs ++ os) := fun i z hz => ok i z (List.getElem?_eq_some_iff.mp hz).1 hz
      dsimp only
      refine s_when (b := !decide (st ∈ os)) (et_test (ev_op (ev_fld (ev_var rfl) (e5 _ _ hA) T.cc (T.nc "start" (by decide +kernel)) rfl) (ev_var rfl) (by rw [← inV_strs]; exact rv_niL (K := K) (sq_of g5) rfl (flat_strs _)))) (fun hb H5 e7 => ?_) (fun hb H5 e7 => ?_)
      · refine bad_made T.bc.ox (T.bc.no _ (by decide +kernel)) (T.bc.no _ (by decide +kernel)) fun d H6 e8 hd => k2 (fun hf => ?_) d H6 ((e5.trans e7).trans e8) hd
        rw [decide_eq_true hf.2] at hb
        cases hb
      · refine k1 ⟨okA, ?_⟩ H5 (e5.trans e7)
        rw [Bool.not_eq_false'] at hb
        exact of_decide_eq_true hb

theorem ok_Code_init {fd : FuncData} {f : Addr} (F : FnP K "__init__" "Code.__init__" s_Code_init f fd) (T : Tx K w mg) (c_check_bounds : Cl P w K mg base (L2.CX P w) 1 (ga K "check_bounds") ["code"] (spBounds K)) (c_check_names : Cl P w K mg base (L2.CX P w) 3 (ga K "check_names") ["code"] (spChk K)) (c_names_by_kind : Cl P w K mg base CX0 1 (ga K "names_by_kind") ["code"] (spByKind K)) (c_check_body : Cl P w K mg base CX0 4 (ga K "check_body") ["function", "names"] (spBody K)) : FnOk P w K mg base (L2.CX P w) (4 + 1) f fd ["self", "cells", "rows", "functions", "start"] (spCI K) := by
  obtain ⟨fd_check_bounds, G_check_bounds, b_check_bounds, kp_check_bounds⟩ := c_check_bounds
  obtain ⟨fd_check_names, G_check_names, b_check_names, kp_check_names⟩ := c_check_names
  obtain ⟨fd_names_by_kind, G_names_by_kind, b_names_by_kind, kp_names_by_kind⟩ := c_names_by_kind
  obtain ⟨fd_check_body, G_check_body, b_check_body, kp_check_body⟩ := c_check_body
  refine FunD.ok F sc_Code_init (fun vs H Q E h => ?_) (fun cdv A outer s H vs Q E hr h => ?_)
  · obtain ⟨a, c, r, f, cs, rs, os, st, fos, dx, rfl, _⟩ := h
    rfl
  · obtain ⟨a, c, r, f, cs, rs, os, st, fos, dx, rfl, ha, hc, hr', hf, hF, hz, hs, kG, kB, kF⟩ := h
    have n_tuple := T.fr "tuple" (by decide +kernel)
    have g_check_bounds := T.gl "check_bounds" (by decide +kernel)
    have g_check_names := T.gl "check_names" (by decide +kernel)
    have g_names_by_kind := T.gl "names_by_kind" (by decide +kernel)
    have g_check_body := T.gl "check_body" (by decide +kernel)
    refine ⟨_, (pss_cons (ps_fld (pv 0) (pe_callTy call_tuple_of (by rfl) n_tuple (by decide +kernel) (pa_cons (pv 1) pa_nil)) rfl)
      (pss_cons (ps_fld (pv 0) (pe_callTy call_tuple_of (by rfl) n_tuple (by decide +kernel) (pa_cons (pv 2) pa_nil)) rfl)
      (pss_cons (ps_fld (pv 0) (pe_callTy call_tuple_of (by rfl) n_tuple (by decide +kernel) (pa_cons (pv 3) pa_nil)) rfl)
      (pss_cons (ps_fld (pv 0) (pv 4) rfl)
      (pss_cons (ps_expr (pe_call G_check_bounds (hr.mono (by decide)) (by rfl) g_check_bounds kp_check_bounds b_check_bounds .nil (passes_call (takes_of rfl rfl rfl rfl) (fun _ _ _ _ h => h)) (pa_cons (pv 0) pa_nil)))
      (pss_cons (ps_expr (pe_call G_check_names (hr.mono (by decide)) (by rfl) g_check_names kp_check_names b_check_names .nil (passes_call (takes_of rfl rfl rfl rfl) (fun _ _ _ _ h => h)) (pa_cons (pv 0) pa_nil)))
      (pss_cons (ps_set (i := 5) sc_Code_init.nd rfl (Or.inl rfl) (pe_call G_names_by_kind (hr.mono (by decide)) (by rfl) g_names_by_kind kp_names_by_kind b_names_by_kind .nil pass0 (pa_cons (pv 0) pa_nil)))
      (pss_one (ps_for (passes_of rfl) rfl (pi_tup (pe_fld (pv 0) rfl)) (pg_name (i := 6) sc_Code_init.nd rfl (Or.inl rfl))
      (pss_one (ps_expr (pe_call G_check_body (hr.mono (by decide)) (by rfl) g_check_body kp_check_body b_check_body .nil pass0 (pa_cons (pv 6) (pa_cons (pv 5) pa_nil)))))))))))))), ?_⟩
    have nc : c ≠ a := fun e => by rw [e, ha] at hc; cases hc
    have nr : r ≠ a := fun e => by rw [e, ha] at hr'; cases hr'
    have nf : f ≠ a := fun e => by rw [e, ha] at hf; cases hf
    refine ⟨.ref c, rfl, c, _, rfl, .inl ⟨sq_of hc, fun u1 hu1 => ?_⟩⟩
    have n1 : u1 ≠ a := fun e => by rw [e, ha] at hu1; cases hu1
    refine ⟨.ref a, rfl, a, _, dx, [], rfl, (upd_ne (Ne.symm n1)).trans ha, T.cc, T.nc "cells" (by decide +kernel), by decide, ?_⟩
    have a1 : upd (upd H u1 (.tup (cs.map V.str))) a (.ins (ga K "Code") dx (putF "cells" (.ref u1) [])) a = some (.ins (ga K "Code") dx [("cells", .ref u1)]) := upd_same
    have b1 : upd (upd H u1 (.tup (cs.map V.str))) a (.ins (ga K "Code") dx (putF "cells" (.ref u1) [])) u1 = some (.tup (cs.map V.str)) := (upd_ne n1).trans upd_same
    have x1 : Xa a H (upd (upd H u1 (.tup (cs.map V.str))) a (.ins (ga K "Code") dx (putF "cells" (.ref u1) []))) := (Xa.of (Ex.new hu1)).trans Xa.upd
    generalize upd (upd H u1 (.tup (cs.map V.str))) a (.ins (ga K "Code") dx (putF "cells" (.ref u1) [])) = H1 at a1 b1 x1
    refine ⟨.ref r, rfl, r, _, rfl, .inl ⟨sq_of (x1 _ _ nr hr'), fun u2 hu2 => ?_⟩⟩
    have n2 : u2 ≠ a := fun e => by rw [e, a1] at hu2; cases hu2
    refine ⟨.ref a, rfl, a, _, dx, _, rfl, (upd_ne (Ne.symm n2)).trans a1, T.cc, T.nc "rows" (by decide +kernel), (show 1 < 1000 by decide), ?_⟩
    rw [putF_tail (by decide +kernel)]
    have a2 : upd (upd H1 u2 (.tup (rs.map V.str))) a (.ins (ga K "Code") dx (("cells", .ref u1) :: putF "rows" (.ref u2) [])) a = some (.ins (ga K "Code") dx [("cells", .ref u1), ("rows", .ref u2)]) := upd_same
    have b2 : upd (upd H1 u2 (.tup (rs.map V.str))) a (.ins (ga K "Code") dx (("cells", .ref u1) :: putF "rows" (.ref u2) [])) u2 = some (.tup (rs.map V.str)) := (upd_ne n2).trans upd_same
    have x2 : Xa a H1 (upd (upd H1 u2 (.tup (rs.map V.str))) a (.ins (ga K "Code") dx (("cells", .ref u1) :: putF "rows" (.ref u2) []))) := (Xa.of (Ex.new hu2)).trans Xa.upd
    generalize upd (upd H1 u2 (.tup (rs.map V.str))) a (.ins (ga K "Code") dx (("cells", .ref u1) :: putF "rows" (.ref u2) [])) = H2 at a2 b2 x2
    have b1' := x2 _ _ n1 b1
    refine ⟨.ref f, rfl, f, _, rfl, .inl ⟨sq_of (x2 _ _ nf (x1 _ _ nf hf)), fun u3 hu3 => ?_⟩⟩
    have n3 : u3 ≠ a := fun e => by rw [e, a2] at hu3; cases hu3
    refine ⟨.ref a, rfl, a, _, dx, _, rfl, (upd_ne (Ne.symm n3)).trans a2, T.cc, T.nc "functions" (by decide +kernel), (show 2 < 1000 by decide), ?_⟩
    rw [putF_tail (by decide +kernel), putF_tail (by decide +kernel)]
    have a3 : upd (upd H2 u3 (.tup (fos.map V.ref))) a (.ins (ga K "Code") dx (("cells", .ref u1) :: ("rows", .ref u2) :: putF "functions" (.ref u3) [])) a = some (.ins (ga K "Code") dx [("cells", .ref u1), ("rows", .ref u2), ("functions", .ref u3)]) := upd_same
    have b3 : upd (upd H2 u3 (.tup (fos.map V.ref))) a (.ins (ga K "Code") dx (("cells", .ref u1) :: ("rows", .ref u2) :: putF "functions" (.ref u3) [])) u3 = some (.tup (fos.map V.ref)) := (upd_ne n3).trans upd_same
    have x3 : Xa a H2 (upd (upd H2 u3 (.tup (fos.map V.ref))) a (.ins (ga K "Code") dx (("cells", .ref u1) :: ("rows", .ref u2) :: putF "functions" (.ref u3) []))) := (Xa.of (Ex.new hu3)).trans Xa.upd
    generalize upd (upd H2 u3 (.tup (fos.map V.ref))) a (.ins (ga K "Code") dx (("cells", .ref u1) :: ("rows", .ref u2) :: putF "functions" (.ref u3) [])) = H3 at a3 b3 x3
    refine ⟨.str st, rfl, .ref a, rfl, a, _, dx, _, rfl, a3, T.cc, T.nc "start" (by decide +kernel), (show 3 < 1000 by decide), ?_⟩
    rw [putF_tail (by decide +kernel), putF_tail (by decide +kernel), putF_tail (by decide +kernel)]
    have a4 : upd H3 a (.ins (ga K "Code") dx (("cells", .ref u1) :: ("rows", .ref u2) :: ("functions", .ref u3) :: putF "start" (.str st) [])) a = some (.ins (ga K "Code") dx [("cells", .ref u1), ("rows", .ref u2), ("functions", .ref u3), ("start", .str st)]) := upd_same
    have x4 : Xa a H3 (upd H3 a (.ins (ga K "Code") dx (("cells", .ref u1) :: ("rows", .ref u2) :: ("functions", .ref u3) :: putF "start" (.str st) []))) := Xa.upd
    generalize upd H3 a (.ins (ga K "Code") dx (("cells", .ref u1) :: ("rows", .ref u2) :: ("functions", .ref u3) :: putF "start" (.str st) [])) = H4 at a4 x4
    have xx : Xa a H H4 := ((x1.trans x2).trans x3).trans x4
    have hC : Cd K H4 a u1 u2 u3 cs rs os st fos := ⟨x4 _ _ n1 (x3 _ _ n1 b1'), x4 _ _ n2 (x3 _ _ n2 b2), x4 _ _ n3 b3, hF.xa xx ha, ⟨dx, a4⟩, hz⟩
    refine ⟨.ref a, rfl, a, u1, u2, u3, cs, rs, os, st, fos, rfl, hC, fun H5 e5 => ⟨fun hg => kG hg H5 (xx.trans (Xa.of e5)), fun hg => ?_⟩⟩
    refine ⟨.ref a, rfl, a, u1, u2, u3, cs, rs, os, st, fos, rfl, hC.mono e5, hs, fun hf' H6 e6 => ?_, fun hf' d H6 e6 hd => kB hg hf' d H6 (xx.trans (Xa.of (e5.trans e6))) hd⟩
    have e56 := e5.trans e6
    refine ⟨.ref a, rfl, a, u1, u2, u3, cs, rs, os, st, fos, rfl, hC.mono e56, fun p H7 e7 => ?_⟩
    have e57 := e56.trans e7
    have hC7 := hC.mono e57
    obtain ⟨dx', hA7⟩ := hC7.at_
    refine ⟨.ref a, rfl, a, _, dx', _, .ref u3, rfl, hA7, T.cc, T.nc "functions" (by decide +kernel), rfl, u3, rfl, ⟨_, st_of hC7.fa⟩, ?_⟩
    refine for_tup (xs := fos.map V.ref) (fun i σ' H' => ∃ v6, σ' = [some (.ref a), some (.ref c), some (.ref r), some (.ref f), some (.str st), some (.ref p), v6] ∧ Ex H7 H') ⟨_, rfl, Ex.refl _⟩ (fun i σ' H' _ hI => ?_) (fun i x σ' H' hx hI => ?_) (fun σ' H' hI => ?_)
    · obtain ⟨v6, rfl, e8⟩ := hI
      exact st_of (e8 _ _ hC7.fa)
    · obtain ⟨v6, rfl, e8⟩ := hI
      rw [List.getElem?_map] at hx
      cases p1 : fos[i]? with
      | none =>
        rw [p1] at hx
        cases hx
      | some t =>
        rw [p1] at hx
        cases hx
        have hi := (List.getElem?_eq_some_iff.mp p1).1
        obtain ⟨z, ho⟩ : ∃ z, os[i]? = some z := ⟨os[i]'(by rw [← hF.1]; exact hi), List.getElem?_eq_getElem _⟩
        exact ⟨.ref t, rfl, .ref p, rfl, t, .ref p, z, rfl, (hC7.fs.2 i t z p1 ho).mono e8, fun H9 e9 => ⟨_, rfl, e8.trans e9⟩⟩
    · obtain ⟨v6, rfl, e8⟩ := hI
      exact kF hg hf' u1 u2 u3 H' (xx.trans (Xa.of (e57.trans e8))) (hC7.mono e8)

end
end K02
set_option Elab.async false
set_option linter.all false
set_option maxRecDepth 100000
set_option maxHeartbeats 8000000
namespace K02
open PySem PySem.Spec PyProof.Rows L2 He XH XV XR PEN Evl


/-! ### data -/
def legal (zs : List Str) : Prop := ∀ z ∈ zs, PyData.strOk z = true
def Tn (z : Str) : Prop := z.length ≤ 1000 ∧ PyData.strOk z = true
theorem let_ok {z : Str} (h : Let z) : PyData.strOk z = true := by
  unfold PyData.strOk
  rw [Array.all_eq_true]
  intro i hi
  have k := h z.cps[i] (by simp)
  exact decide_eq_true (by omega)
theorem lay_strs : ∀ zs : List Str, legal zs → PyData.canLayAll0 (zs.map PyData.str) = true
  | [], _ => by simp [PyData.canLayAll0]
  | z :: r, h => by
    have k := lay_strs r fun y hy => h y (List.mem_cons_of_mem _ hy)
    have k2 := h z List.mem_cons_self
    simp [PyData.canLayAll0, PyData.canLay0, k, k2]
theorem dep_strs : ∀ zs : List Str, PyData.depthAll (zs.map PyData.str) ≤ 1
  | [] => by simp [PyData.depthAll]
  | z :: r => by
    have k := dep_strs r
    simp only [List.map_cons, PyData.depthAll, PyData.depth]
    omega
theorem dp_strs {K : PySem.W.Frag} {H : Hp} : ∀ zs : List Str, DpAll K H (zs.map V.str) (zs.map PyData.str)
  | [] => .nil
  | z :: r => .cons (.str z) (dp_strs r)
theorem shp_list (zs : List Str) (h : legal zs) : SeqAt.shaped (.list (zs.map PyData.str)) = true := by
  have k := dep_strs zs
  unfold SeqAt.shaped
  rw [Bool.and_eq_true]
  refine ⟨by simp [PyData.canLay0, lay_strs zs h], decide_eq_true ?_⟩
  simp only [PyData.depth]
  omega
open Classical in
noncomputable def verdict (cs rs os : List Str) (st : Str) : PyData :=
  if great cs rs os = true then .tuple [.str "great", .bool true, .bool false] else if fine cs rs os st then .tuple [.str "made", .tuple (cs.map .str), .tuple (rs.map .str), .str st] else .tuple [.str "bad", .none, .none, .bool true, .bool false]
theorem ver_great {cs rs os : List Str} {st : Str} (h : great cs rs os = true) : verdict cs rs os st = .tuple [.str "great", .bool true, .bool false] := if_pos h
theorem ver_made {cs rs os : List Str} {st : Str} (h : great cs rs os = false) (k : fine cs rs os st) : verdict cs rs os st = .tuple [.str "made", .tuple (cs.map .str), .tuple (rs.map .str), .str st] := by
  unfold verdict
  rw [if_neg (by rw [h]; decide), if_pos k]
theorem ver_bad {cs rs os : List Str} {st : Str} (h : great cs rs os = false) (k : ¬ fine cs rs os st) : verdict cs rs os st = .tuple [.str "bad", .none, .none, .bool true, .bool false] := by
  unfold verdict
  rw [if_neg (by rw [h]; decide), if_neg k]
theorem shp_verdict (cs rs os : List Str) (st : Str) (h1 : legal cs) (h2 : legal rs) (h3 : PyData.strOk st = true) : SeqAt.shaped (verdict cs rs os st) = true := by
  cases h : great cs rs os with
  | true =>
    rw [ver_great h]
    decide +kernel
  | false =>
    by_cases k : fine cs rs os st
    · rw [ver_made h k]
      have k1 := dep_strs cs
      have k2 := dep_strs rs
      unfold SeqAt.shaped
      rw [Bool.and_eq_true]
      have k3 : PyData.strOk "made" = true := by decide +kernel
      refine ⟨by simp [PyData.canLay0, PyData.canLayAll0, lay_strs cs h1, lay_strs rs h2, h3, k3], decide_eq_true ?_⟩
      simp only [PyData.depth, PyData.depthAll]
      omega
    · rw [ver_bad h k]
      decide +kernel
theorem cut_take (xs : List V) (i : Nat) : cutV xs none (some (i : Int)) = xs.take i := by
  unfold cutV
  rw [HT.sIx_none, HT.sIx_nat, List.drop_zero, Nat.sub_zero]
  rcases Nat.le_total i xs.length with h | h
  · rw [Nat.min_eq_left h]
  · rw [Nat.min_eq_right h, List.take_of_length_le (Nat.le_refl _), List.take_of_length_le h]
def spName : Sp := fun vs H Q _ => ∃ (p l : Addr) (z : Str) (b : Nat), vs = [.ref p, .str z] ∧ Tn z ∧ Pen p l (b + 2) H ∧ ∀ (z' : Str) H', Tn z' → Px p l H H' → Pen p l b H' → Q (.str z') H'
def spGood : Sp := fun vs H Q _ => ∃ z : Str, vs = [.str z] ∧ Tn z ∧ ∀ H', Ex H H' → Q (.bl (goodN z)) H'
def spDue (K : PySem.W.Frag) : Sp := fun vs H Q _ => ∃ c r o cs rs os st, vs = [.ref c, .ref r, .ref o, .str st] ∧ H c = some (.lst (cs.map V.str)) ∧ H r = some (.lst (rs.map V.str)) ∧ H o = some (.lst (os.map V.str)) ∧ (cs.length ≤ 40 ∧ rs.length ≤ 40 ∧ os.length ≤ 40) ∧ short (cs ++ rs ++ os) ∧ legal (st :: (cs ++ rs ++ os)) ∧
  ∀ q H', Ex H H' → Dp K H' (.ref q) (verdict cs rs os st) → Q (.ref q) H'
theorem filt_more {l : List Nat} {i c : Nat} (f : Nat → Bool) (h : l[i]? = some c) : (l.take (i + 1)).filter f = if f c = true then (l.take i).filter f ++ [c] else (l.take i).filter f := by
  rw [take_more h, List.filter_append]
  cases q : f c <;> simp [q]
theorem el_signs {te : TE} {σ : L2.St} {H : Hp} {z : Str} {vs : List Nat} {tb : TE} {j : Nat} (ht : Ev te σ H (.str z)) (hl : z.length ≤ 1000) (hw : ∀ x, wipe ((wipe σ vs).set j (some x)) vs = wipe σ vs) (hj : ∀ x, ((wipe σ vs).set j (some x))[j]? = some (some x))
    (hb : ∀ x H1, Ev tb ((wipe σ vs).set j (some x)) H1 (.str alphabet)) : EvL (tLc (iStr te) (gName j) (tTest (tOp (fun x y H Q => ∃ (c : Nat) (z : Str), x = .str ⟨#[c]⟩ ∧ y = .str z ∧ Q (.bl (!decide (c ∈ z.cps.toList))) H) (tVar j) tb)) (tVar j) vs) σ H ((z.cps.toList.filter fun c => !decide (c ∈ alphabet.cps.toList)).map fun c => V.str ⟨#[c]⟩) := fun H0 e Q q => ht H0 e _ fun H1 e1 => by
  refine ⟨z, rfl, fun D hD => ?_⟩
  refine lc_it walk_str (fun i H' => Ex H1 H' ∧ H' D = some (.lst (((z.cps.toList.take i).filter fun c => !decide (c ∈ alphabet.cps.toList)).map fun c => V.str ⟨#[c]⟩))) ⟨Ex.new hD, upd_same⟩ (fun _ _ _ _ => True.intro) (fun i x H2 H3 hi hI hy => ?_) (fun H2 hI => ?_)
  · obtain ⟨rfl, c, hc, rfl⟩ := hy
    obtain ⟨e2, e3⟩ := hI
    have hc2 : z.cps.toList[i]? = some c := by rw [Array.getElem?_toList]; exact hc
    refine ⟨hw _, .str ⟨#[c]⟩, hj _, hb _ _ H3 (Ex.refl _) _ fun H4 e4 => ⟨c, alphabet, rfl, rfl, _, rfl, ?_⟩⟩
    refine ite2 (fun hq => ?_) (fun hq => ?_)
    · refine ⟨.str ⟨#[c]⟩, hj _, _, e4 _ _ e3, ?_, (e2.trans e4).mut hD, ?_⟩
      · rw [List.length_map]
        have k1 := List.length_filter_le (fun c => !decide (c ∈ alphabet.cps.toList)) (z.cps.toList.take i)
        have k2 : (z.cps.toList.take i).length ≤ z.cps.toList.length := by rw [List.length_take]; exact Nat.min_le_right _ _
        have k3 := len_codes z
        exact small1000 (by omega)
      · rw [upd_same, filt_more _ hc2, if_pos hq, List.map_append]
        rfl
    · refine ⟨e2.trans e4, ?_⟩
      rw [filt_more _ hc2, if_neg hq]
      exact e4 _ _ e3
  · obtain ⟨e2, e3⟩ := hI
    rw [show (z.cps.toList.take z.cps.size) = z.cps.toList from List.take_of_length_le (by simp)] at e3
    exact q D H2 (fresh_back e1 hD) (e1.trans e2) e3


theorem okN_no {ns : List Str} {i : Nat} {z : Str} (h : ns[i]? = some z) (b : (!goodN z || decide (z ∈ ns.take i)) = true) : ¬ okN ns := by
  intro k
  obtain ⟨k1, k2⟩ := k i z h
  rw [k1, decide_eq_false k2] at b
  cases b
theorem okN_at {ns : List Str} {i : Nat} {z : Str} (b : (!goodN z || decide (z ∈ ns.take i)) = false) : goodN z = true ∧ z ∉ ns.take i := by
  rw [Bool.or_eq_false_iff] at b
  refine ⟨?_, of_decide_eq_false b.2⟩
  cases y : goodN z with
  | true => rfl
  | false =>
    rw [y] at b
    cases b.1
theorem dp_bad {K : PySem.W.Frag} {H : Hp} {q : Addr} (h : H q = some (.tup [.str "bad", .non, .non, .bl true, .bl false])) : Dp K H (.ref q) (.tuple [.str "bad", .none, .none, .bool true, .bool false]) :=
  .tup (st_of h) (.cons (.str _) (.cons .non (.cons .non (.cons (.bl _) (.cons (.bl _) .nil)))))
theorem dp_great {K : PySem.W.Frag} {H : Hp} {q : Addr} (h : H q = some (.tup [.str "great", .bl true, .bl false])) : Dp K H (.ref q) (.tuple [.str "great", .bool true, .bool false]) :=
  .tup (st_of h) (.cons (.str _) (.cons (.bl _) (.cons (.bl _) .nil)))
theorem dp_made {K : PySem.W.Frag} {H : Hp} {q u1 u2 : Addr} {cs rs : List Str} {st : Str} (h : H q = some (.tup [.str "made", .ref u1, .ref u2, .str st])) (h1 : H u1 = some (.tup (cs.map V.str))) (h2 : H u2 = some (.tup (rs.map V.str))) :
    Dp K H (.ref q) (.tuple [.str "made", .tuple (cs.map .str), .tuple (rs.map .str), .str st]) :=
  .tup (st_of h) (.cons (.str _) (.cons (.tup (st_of h1) (dp_strs _)) (.cons (.tup (st_of h2) (dp_strs _)) (.cons (.str _) .nil))))

section
variable {P : Program} {w : World} {K : PySem.W.Frag} {mg : Str → Option Value} {base : Heap}

theorem ok_law_name {fd : FuncData} (F : FnP K "_law_name" "_law_name" s_law_name (ga K "_law_name") fd) (T : Tx K w mg) (c_law_draw : Cl P w K mg base CX0 1 (ga K "_law_draw") ["_law_pen", "_law_many"] spDraw) (c_law_pick : Cl P w K mg base CX0 2 (ga K "_law_pick") ["_law_pen", "_law_row"] (spPick K)) : FnOk P w K mg base CX0 (2 + 1) (ga K "_law_name") fd ["_law_pen", "_law_good_here"] spName := by
  obtain ⟨fd_law_draw, G_law_draw, b_law_draw, kp_law_draw⟩ := c_law_draw
  obtain ⟨fd_law_pick, G_law_pick, b_law_pick, kp_law_pick⟩ := c_law_pick
  refine FunD.ok F sc_law_name (fun vs H Q E h => ?_) (fun cdv A outer s H vs Q E hr h => ?_)
  · obtain ⟨p, l, z, b, rfl, _⟩ := h
    rfl
  · obtain ⟨p, l, z, b, rfl, hz, hP, kk⟩ := h
    have g_law_draw := T.gl "_law_draw" (by decide +kernel)
    have g_law_pick := T.gl "_law_pick" (by decide +kernel)
    refine ⟨_, PSs.nox (pss_cons (ps_set (i := 2) sc_law_name.nd rfl (Or.inl rfl) (pe_lst (pa_cons pe_str (pa_cons pe_str (pa_cons pe_str (pa_cons pe_str (pa_cons pe_str (pa_cons pe_str (pa_cons (pe_op op_add_str pe_str (pe_op op_mulS pe_str pe_int)) (pa_cons (pe_op op_mulS pe_str pe_int) (pa_cons pe_str (pa_cons (pe_op op_mulS pe_str pe_int) pa_nil))))))))))))
      (pss_one (ps_ret (pe_ifExp (pt_cmpR op_eq (pe_call G_law_draw (hr.mono (by decide)) (by rfl) g_law_draw kp_law_draw b_law_draw .nil pass0 (pa_cons (pv 0) (pa_cons pe_int pa_nil))) pe_int (nomark _)) (pe_call G_law_pick (hr.mono (by decide)) (by rfl) g_law_pick kp_law_pick b_law_pick .nil pass0 (pa_cons (pv 0) (pa_cons (pv 2) pa_nil))) (pv 1))))), ?_⟩
    have fit : ∀ z : Str, z ∈ [("" : Str), "A", "a1", "a b", "_", "bC", ("zz" : Str) ++ repS "y" 11, repS "a" 13, "-", repS "b" 14] → Tn z := by
      have k : ∀ z ∈ [("" : Str), "A", "a1", "a b", "_", "bC", ("zz" : Str) ++ repS "y" 11, repS "a" 13, "-", repS "b" 14], decide (z.length ≤ 1000) = true ∧ PyData.strOk z = true := by decide +kernel
      exact fun z hz => ⟨of_decide_eq_true (k z hz).1, (k z hz).2⟩
    refine q_asgL (xs := ([("" : Str), "A", "a1", "a b", "_", "bC", ("zz" : Str) ++ repS "y" 11, repS "a" 13, "-", repS "b" 14] : List Str).map V.str) (el_lst (ea_cons ev_c (ea_cons ev_c (ea_cons ev_c (ea_cons ev_c (ea_cons ev_c (ea_cons ev_c
      (ea_cons (ev_op ev_c (ev_op ev_c ev_c fun H1 e R q => ⟨"y", 11, rfl, rfl, by decide, by decide +kernel, q H1 (Ex.refl _)⟩) fun H1 e R q => ⟨"zz", repS "y" 11, rfl, rfl, fits (by decide +kernel), q H1 (Ex.refl _)⟩) (ea_cons (ev_op ev_c ev_c fun H1 e R q => ⟨"a", 13, rfl, rfl, by decide, by decide +kernel, q H1 (Ex.refl _)⟩) (ea_cons ev_c
      (ea_cons (ev_op ev_c ev_c fun H1 e R q => ⟨"b", 14, rfl, rfl, by decide, by decide +kernel, q H1 (Ex.refl _)⟩) ea_nil)))))))))) (by decide)) fun B H1 hB e1 h1 => ?_
    have nB : B ≠ p ∧ B ≠ l := hP.new hB
    refine ⟨.ref p, rfl, p, l, 12, b + 1, rfl, ⟨by decide, by decide⟩, hP.ex e1, fun r H2 hr2 px2 pen2 => ⟨rfl, _, rfl, ?_⟩⟩
    refine ite2 (fun _ => ?_) (fun _ => ⟨.str z, rfl, kk z H2 hz ((Px.of e1).trans px2) (pen2.less (by omega))⟩)
    refine ⟨.ref p, rfl, .ref B, rfl, p, l, B, _, b, rfl, sq_of ((cut_at nB.1 nB.2).trans (px2.get nB.1 nB.2 h1)), ⟨by simp, by rw [List.length_map]; decide⟩, pen2, fun v H3 hv px3 pen3 => ?_⟩
    obtain ⟨z', hz', rfl⟩ := List.mem_map.mp hv
    exact kk z' H3 (fit z' hz') (((Px.of e1).trans px2).trans px3) pen3

theorem ok_law_good {fd : FuncData} (F : FnP K "_law_good" "_law_good" s_law_good (ga K "_law_good") fd) (T : Tx K w mg) : FnOk P w K mg base CX0 (0 + 1) (ga K "_law_good") fd ["_law_name_here"] spGood := by
  refine FunD.ok F sc_law_good (fun vs H Q E h => ?_) (fun cdv A outer s H vs Q E hr h => ?_)
  · obtain ⟨z, rfl, _⟩ := h
    rfl
  · obtain ⟨z, rfl, ⟨hz, hok⟩, kk⟩ := h
    have n_len := T.fr "len" (by decide +kernel)
    refine ⟨_, PSs.nox (pss_cons (ps_set (i := 1) sc_law_good.nd rfl (Or.inr rfl) pe_str)
      (pss_one (ps_ret (pe_and (pe_chain op_le op_le pe_int (pe_callB call_len_str (by rfl) n_len (by decide +kernel) (pa_cons (pv 0) pa_nil)) pe_int) (pe_one (pe_cmpR (op_eqD hr.units) (pe_lc (own := [("_law_sign", 2)]) (g := gName 2) (by rfl) sc_law_good.nd (pi_str (pv 0)) (blkOk_by (own := [("_law_sign", 2)]) (N := ["_law_name_here", "_law_letters", "_law_sign"]) (sc := defScope s_law_good) (by decide +kernel)) (fun _ _ _ _ _ => (pg_name (i := 2) sc_law_good.nd rfl (Or.inl rfl))) (fun _ _ _ _ _ => (pts_one (pt_cmpR op_notIn_sign (pv 2) (pv 1) (by rfl)))) (fun _ _ _ _ _ => (pv 2))) (pe_lst pa_nil) (nomark _))))))), ?_⟩
    refine q_asg ev_c fun H1 e1 => ?_
    dsimp only [gName, List.set]
    have e2 : goodN z = ((decide ((1 : Int) ≤ (z.length : Int)) && decide ((z.length : Int) ≤ 12)) && (z.cps.toList.filter fun c => !decide (c ∈ alphabet.cps.toList)).isEmpty) := by
      unfold goodN
      rw [← Bool.and_assoc]
      have y1 : decide (1 ≤ z.length) = decide ((1 : Int) ≤ (z.length : Int)) := decide_eq_decide.mpr (by omega)
      have y2 : decide (z.length ≤ 12) = decide ((z.length : Int) ≤ 12) := decide_eq_decide.mpr (by omega)
      have y3 : (z.cps.toList.all fun c => decide (c ∈ alphabet.cps.toList)) = (z.cps.toList.filter fun c => !decide (c ∈ alphabet.cps.toList)).isEmpty := by
        rw [Bool.eq_iff_iff, List.isEmpty_iff, List.filter_eq_nil_iff, List.all_eq_true]
        exact ⟨fun h c hc => by rw [h c hc]; decide, fun h c hc => by have k := h c hc; simpa using k⟩
      rw [y1, y2, y3]
    refine s_ret (v := .bl (goodN z)) (by
      rw [e2]
      refine ev_andV (ev_chain ev_c (ev_cb (ea_cons (ev_var rfl) ea_nil) fun H1 e Q q => ⟨z, rfl, fits hz, q H1 (Ex.refl _)⟩) ev_c) fun _ => ?_
      refine ev_opLL (el_signs (z := z) (ev_var rfl) hz (fun _ => rfl) (fun _ => rfl) (fun x H1 => ev_var rfl)) (el_lst ea_nil (by decide)) fun p q H2 hp hq e3 H3 e4 Q k => ?_
      have sg : ∀ l : List Nat, (l.map fun c => V.str ⟨#[c]⟩) = (l.map sign).map V.str := fun l => by rw [List.map_map]; rfl
      rw [sg] at hp
      refine ⟨.list (((z.cps.toList.filter fun c => !decide (c ∈ alphabet.cps.toList)).map sign).map PyData.str), .list [], .lst (sq_of (e4 _ _ hp)) (dp_strs _), .lst (sq_of (e4 _ _ hq)) .nil, shp_list _ ?_, by decide +kernel, ?_⟩
      · intro y hy
        obtain ⟨c, hc, rfl⟩ := List.mem_map.mp hy
        have hc2 := (List.mem_filter.mp hc).1
        unfold PyData.strOk at hok
        rw [Array.all_eq_true] at hok
        obtain ⟨i, hi, ei⟩ := List.mem_iff_getElem.mp hc2
        have k1 := hok i (by simpa using hi)
        have k2 : c < 1114112 := by
          have k3 := of_decide_eq_true k1
          simp only [Array.getElem_toList] at ei
          omega
        show (#[c] : Array Nat).all _ = true
        simp [k2]
      · cases hq2 : (z.cps.toList.filter fun c => !decide (c ∈ alphabet.cps.toList)) with
        | nil =>
          rw [hq2] at k
          exact k H3 (Ex.refl _)
        | cons y r =>
          rw [hq2] at k
          exact k H3 (Ex.refl _)) fun H2 e3 => kk H2 (e1.trans e3)

theorem ok_law_due {fd : FuncData} (F : FnP K "_law_due" "_law_due" s_law_due (ga K "_law_due") fd) (T : Tx K w mg) (c_law_good : Cl P w K mg base CX0 1 (ga K "_law_good") ["_law_name_here"] spGood) : FnOk P w K mg base CX0 (1 + 1) (ga K "_law_due") fd ["_law_cells", "_law_rows", "_law_order", "_law_start"] (spDue K) := by
  obtain ⟨fd_law_good, G_law_good, b_law_good, kp_law_good⟩ := c_law_good
  refine FunD.ok F sc_law_due (fun vs H Q E h => ?_) (fun cdv A outer s H vs Q E hr h => ?_)
  · obtain ⟨c, r, o, cs, rs, os, st, rfl, _⟩ := h
    rfl
  · obtain ⟨c, r, o, cs, rs, os, st, rfl, hc, hr', ho, ⟨z1, z2, z3⟩, hs, hl, kk⟩ := h
    have n_len := T.fr "len" (by decide +kernel)
    have n_range := T.fr "range" (by decide +kernel)
    have g_law_good := T.gl "_law_good" (by decide +kernel)
    have n_tuple := T.fr "tuple" (by decide +kernel)
    refine ⟨_, PSs.nox (pss_cons (ps_if (PW.pt (pw_or (pt_cmpR op_gt (pe_callB call_len_seq (by rfl) n_len (by decide +kernel) (pa_cons (pv 0) pa_nil)) pe_int (nomark _)) (pw_or (pt_cmpR op_gt (pe_callB call_len_seq (by rfl) n_len (by decide +kernel) (pa_cons (pv 1) pa_nil)) pe_int (nomark _)) (pw_or1 (pt_cmpR op_gt (pe_callB call_len_seq (by rfl) n_len (by decide +kernel) (pa_cons (pv 2) pa_nil)) pe_int (nomark _))))))
      (pss_one (ps_ret (pe_tup (pa_cons pe_str (pa_cons pe_bl (pa_cons pe_bl pa_nil))))))
      pss_nil)
      (pss_cons (ps_set (i := 4) sc_law_due.nd rfl (Or.inl rfl) (pe_op op_cat (pe_op op_cat (pv 0) (pv 1)) (pv 2)))
      (pss_cons (ps_for PassesOwn.never rfl (pi_range1 (by rfl) n_range (pa_cons (pe_callB call_len_seq (by rfl) n_len (by decide +kernel) (pa_cons (pv 4) pa_nil)) pa_nil)) (pg_name (i := 5) sc_law_due.nd rfl (Or.inl rfl))
      (pss_one (ps_if (PW.pt (pw_or (pt_not (pt_val (pe_call G_law_good (hr.mono (by decide)) (by rfl) g_law_good kp_law_good b_law_good .nil pass0 (pa_cons (pe_ix ix_list (pv 4) (pv 5) (fun _ _ => rfl)) pa_nil)))) (pw_or1 (pt_cmpR op_in_seq (pe_ix ix_list (pv 4) (pv 5) (fun _ _ => rfl)) (pe_slice sl_list (pv 4) po_none (po_some (pv 5))) (by rfl)))))
      (pss_one (ps_ret (pe_tup (pa_cons pe_str (pa_cons pe_non (pa_cons pe_non (pa_cons pe_bl (pa_cons pe_bl pa_nil))))))))
      pss_nil)))
      (pss_cons (ps_if (pt_cmpR op_notIn_seq (pv 3) (pv 2) (by rfl))
      (pss_one (ps_ret (pe_tup (pa_cons pe_str (pa_cons pe_non (pa_cons pe_non (pa_cons pe_bl (pa_cons pe_bl pa_nil))))))))
      pss_nil)
      (pss_one (ps_ret (pe_tup (pa_cons pe_str (pa_cons (pe_callTy call_tuple_of (by rfl) n_tuple (by decide +kernel) (pa_cons (pv 0) pa_nil)) (pa_cons (pe_callTy call_tuple_of (by rfl) n_tuple (by decide +kernel) (pa_cons (pv 1) pa_nil)) (pa_cons (pv 3) pa_nil))))))))))), ?_⟩
    have lenE : ∀ {a : Addr} {zs : List Str} {H1 H2 : Hp} {ta : TE} {σ : L2.St}, Ev ta σ H1 (.ref a) → H1 a = some (.lst (zs.map V.str)) → Ev (tCB (fun xs H Q => ∃ p ys, xs = [.ref p] ∧ (SqL K H p ys ∨ SqT K H p ys) ∧ Q (.int ys.length) H) (tCons ta tNil)) σ H1 (.int (zs.length : Int)) := by
      intro a zs H1 H2 ta σ h ha
      refine ev_cb (ea_cons h ea_nil) fun H3 e R q => ⟨a, zs.map V.str, rfl, .inl (sq_of (e _ _ ha)), ?_⟩
      rw [List.length_map]
      exact q H3 (Ex.refl _)
    refine q_when (b := great cs rs os) (et_or (et_test (ev_op (lenE (H2 := H) (ev_var rfl) hc) ev_c rv_I0)) fun _ => et_or (et_test (ev_op (lenE (H2 := H) (ev_var rfl) hr') ev_c rv_I0)) fun _ => et_test (ev_op (lenE (H2 := H) (ev_var rfl) ho) ev_c rv_I0)) (fun hg H1 e1 => ?_) (fun hg H1 e1 => ?_)
    · refine s_retU (eu_tup (ea_cons ev_c (ea_cons ev_c (ea_cons ev_c ea_nil))) (show 3 ≤ 100000 by decide)) fun q H2 hq e2 h2 => kk q H2 (e1.trans e2) ?_
      rw [ver_great hg]
      exact dp_great h2
    · have bad : ¬ fine cs rs os st → ∀ {H2 : Hp} {σ : L2.St} {D : Ends}, Ex H1 H2 → D.rt = Q → tRet (tTup (tCons (tC (.str "bad")) (tCons (tC .non) (tCons (tC .non) (tCons (tC (.bl true)) (tCons (tC (.bl false)) tNil)))))) D σ H2 := by
        intro hf H2 σ D e2 hD
        refine s_retU (eu_tup (ea_cons ev_c (ea_cons ev_c (ea_cons ev_c (ea_cons ev_c (ea_cons ev_c ea_nil))))) (show 5 ≤ 100000 by decide)) fun q H3 hq e3 h3 => ?_
        rw [hD]
        refine kk q H3 ((e1.trans e2).trans e3) ?_
        rw [ver_bad hg hf]
        exact dp_bad h3
      refine ⟨.ref c, rfl, .ref r, rfl, c, r, _, _, rfl, rfl, e1 _ _ hc, e1 _ _ hr', ?_, fun p hp => ⟨.ref o, rfl, p, o, _, _, rfl, rfl, upd_same, Ex.new hp _ _ (e1 _ _ ho), ?_, fun n hn => ?_⟩⟩
      · rw [List.length_map, List.length_map]
        exact fits (by omega)
      · rw [List.length_append, List.length_map, List.length_map, List.length_map]
        exact fits (by omega)
      rw [← List.map_append] at hn
      rw [← List.map_append, ← List.map_append]
      have e2 : Ex H1 (upd (upd H1 p (.lst ((cs ++ rs).map V.str))) n (.lst ((cs ++ rs ++ os).map V.str))) := (Ex.new hp).trans (Ex.new hn)
      have hN : upd (upd H1 p (.lst ((cs ++ rs).map V.str))) n (.lst ((cs ++ rs ++ os).map V.str)) n = some (.lst ((cs ++ rs ++ os).map V.str)) := upd_same
      generalize upd (upd H1 p (.lst ((cs ++ rs).map V.str))) n (.lst ((cs ++ rs ++ os).map V.str)) = H2 at e2 hN
      have hsz : (cs ++ rs ++ os).length ≤ 120 := by
        rw [List.length_append, List.length_append]
        omega
      dsimp only [gName, List.set]
      refine q_forR1 (n := ((cs ++ rs ++ os).length : Int)) (ea_cons (lenE (H2 := H) (ev_var rfl) hN) ea_nil) ⟨by omega, by omega⟩ (fun i σ' H' => ∃ v5, σ' = [some (.ref c), some (.ref r), some (.ref o), some (.str st), some (.ref n), v5] ∧ Ex H2 H' ∧ ∀ (j : Nat) (z : Str), j < i → (cs ++ rs ++ os)[j]? = some z → goodN z = true ∧ z ∉ (cs ++ rs ++ os).take j)
        (fun H3 e3 => ⟨_, rfl, e3, fun j z hj => absurd hj (Nat.not_lt_zero j)⟩) (fun i σ' H' hi hI => ?_) (fun σ' H' hI => ?_)
      · obtain ⟨v5, rfl, e3, ok⟩ := hI
        obtain ⟨z, hz⟩ : ∃ z, (cs ++ rs ++ os)[i]? = some z := ⟨(cs ++ rs ++ os)[i]'(by omega), List.getElem?_eq_getElem _⟩
        have hm : z ∈ cs ++ rs ++ os := List.mem_of_getElem? hz
        have hat : atI ((cs ++ rs ++ os).map V.str) (i : Int) = some (.str z) := atI_nat (by rw [List.getElem?_map, hz]; rfl)
        have hN3 := e3 _ _ hN
        dsimp only [List.set]
        refine s_when (b := !goodN z || decide (z ∈ (cs ++ rs ++ os).take i)) (et_or (et_not (et_B (ev_call (ea_cons (ev_op (ev_var rfl) (ev_var rfl) (rv_ixL (sq_of hN3) hat)) ea_nil) fun H5 e7 R q _ => ⟨z, rfl, ⟨hs z hm, hl z (List.mem_cons_of_mem _ hm)⟩, fun H6 e8 => q H6 e8⟩))) fun _ =>
          et_test (ev_opL (ev_op (ev_var rfl) (ev_var rfl) (rv_ixL (sq_of hN3) hat)) (el_sl (ev_var rfl) eo_none (eo_some (ev_var rfl)) (sq_of hN3)) fun t H5 ht e7 => by
            rw [cut_take, ← List.map_take] at ht
            rw [← inV_strs]
            exact rv_isL (sq_of ht) rfl (flat_strs _))) (fun hb H5 e7 => ?_) (fun hb H5 e7 => ?_)
        · exact bad (fun hf => okN_no hz hb hf.1) (e2.trans (e3.trans e7)) rfl
        · refine ⟨_, rfl, e3.trans e7, fun j z' hj hz' => ?_⟩
          rcases Nat.lt_succ_iff_lt_or_eq.mp hj with h | h
          · exact ok j z' h hz'
          · subst h
            rw [hz] at hz'
            cases hz'
            exact okN_at hb
      · obtain ⟨v5, rfl, e3, ok⟩ := hI
        have okA : okN (cs ++ rs ++ os) := fun i z hz => ok i z (by have k := (List.getElem?_eq_some_iff.mp hz).1; omega) hz
        have e13 := e1.trans (e2.trans e3)
        refine q_when (b := !decide (st ∈ os)) (et_test (ev_op (ev_var rfl) (ev_var rfl) (by rw [← inV_strs]; exact rv_niL (K := K) (sq_of (e13 _ _ ho)) rfl (flat_strs _)))) (fun hb H5 e7 => ?_) (fun hb H5 e7 => ?_)
        · refine bad (fun hf => ?_) (e2.trans (e3.trans e7)) rfl
          rw [decide_eq_true hf.2] at hb
          cases hb
        · rw [Bool.not_eq_false'] at hb
          have e15 := e13.trans e7
          refine ⟨.ref c, rfl, c, _, rfl, .inl ⟨sq_of (e15 _ _ hc), fun u1 hu1 => ⟨.ref r, rfl, r, _, rfl, .inl ⟨sq_of (Ex.new hu1 _ _ (e15 _ _ hr')), fun u2 hu2 => ⟨.str st, rfl, (show 4 ≤ sizeLine by decide), fun q hq => ?_⟩⟩⟩⟩⟩
          refine kk q _ (e15.trans ((Ex.new hu1).trans ((Ex.new hu2).trans (Ex.new hq)))) ?_
          rw [ver_made hg ⟨okA, of_decide_eq_true hb⟩]
          exact dp_made upd_same (Ex.new hq _ _ (Ex.new hu2 _ _ upd_same)) (Ex.new hq _ _ upd_same)

end
end K02
set_option Elab.async false
set_option linter.all false
set_option maxRecDepth 100000
set_option maxHeartbeats 8000000
namespace K02
open PySem PySem.Spec PyProof.Rows L2 He XH XV XR PEN Evl


structure Tz (K : PySem.W.Frag) (w : World) (mg : Str → Option Value) : Prop extends Tx K w mg where
  m1 : PySem.W.exmOne K (.ref (ga K "BadCode")) (.ref (ga K "BadCode")) = some true
  m2 : PySem.W.exmOne K (.ref (ga K "TooGreat")) (.ref (ga K "BadCode")) = some false
  m3 : PySem.W.exmOne K (.ref (ga K "TooGreat")) (.ref (ga K "TooGreat")) = some true
  i1 : PySem.W.kitOne K (.ref (ga K "BadCode")) (.ref (ga K "TryError")) = some true
  i2 : PySem.W.kitOne K (.ref (ga K "BadCode")) (.ref (ga K "TooGreat")) = some false
  i3 : PySem.W.kitOne K (.ref (ga K "TooGreat")) (.type "ValueError") = some true
  i4 : PySem.W.kitOne K (.ref (ga K "TooGreat")) (.ref (ga K "BadCode")) = some false
/-- C(e, ..) in the body of a try: what its __init__ raises is met by the wish -/
theorem pe_mkS {X : Cx} {CX : CXT} {k : Nat} {f C : Addr} {fd : FuncData} {ps : List Str} {sp : Sp} {E : L2.St → XK} {x : Str} {p pos : Pos} {e : Expr} {es : List Expr} {t : TA} (M : Mk X.K C f) (F : FnOk X.prog X.w X.K X.mg X.base CX k f fd ps sp) (hr : Room (k + 1) X.A) (hg : Gl X x) (hm : X.mg x = some (.ref C))
    (hb : Binds X.K fd ps []) (hx : ∀ σ, PassesAt CX X σ (E σ)) (ha : PA X (e :: es) t) (hdb : (x == ("__debug__" : Str)) = false := by decide) (he : starEach (e :: es) X.env = (false, eval e X.env) :: starEach es X.env := by rfl) (hpl : (backTo pos (starEach es X.env)).any (·.1) = false := by rfl) :
    PE X (.Call (.Name x p) (e :: es) [] pos) (fun σ H Q => tMake C sp [] (E σ) t σ H Q) := by
  refine ⟨fun pins s σ H Q I h => ?_⟩
  refine wpAny_Call_Name_kw (ld_glob I hg hm ?_ hdb)
  refine PySem.W.callWith_K (h₀ := X.base) I.ok.mod.kin M.kp (thn (ha.run pos pins s σ H _ I h) fun us s1 ⟨vs, H1, I1, r1, q1⟩ => ⟨I1.kIn, ?_⟩) he hpl
  have w0 := q1 (s1.heap.objs.size + 1) s1.heap.objs.size (I1.hok.fresh (Nat.le_succ _)) (I1.hok.fresh (Nat.le_refl _)) (Nat.ne_of_lt (Nat.lt_succ_self _))
  have J := Inv.made (C := C) I1
  rw [List.append_nil] at w0
  have rv : Vals (V.ref (s1.heap.objs.size + 1) :: vs) (Value.ref (s1.heap.objs.size + 1) :: us) := .cons rfl r1
  have ln : (Value.ref (s1.heap.objs.size + 1) :: us ++ []).length = ps.length := by
    have z := rv.length
    rw [F.len _ _ _ _ w0] at z
    rw [List.append_nil]
    exact z.symm
  have bd := hb _ (Value.ref (s1.heap.objs.size + 1) :: us) J.kIn ln
  rw [List.append_nil] at bd
  refine wpAny_call (make_map (f := f) I1.kIn M.makes M.init (beq_iff_eq.mp M.fn) (codeAny_mono (F.run _ X.stack _ _ ⟨Value.ref (s1.heap.objs.size + 1) :: us, []⟩ (Value.ref (s1.heap.objs.size + 1) :: us) _ _ (E σ) (hr.make C us []) (J.env0.make C us []) bd rv w0) fun res s' hq => ?_))
  cases res with
  | error er => exact hx σ pins _ _ er s' J hq
  | ok fl =>
    cases fl with
    | ret u =>
      obtain ⟨v, H2, I2, r2, ev, q2⟩ := J.after hq
      subst ev
      exact ⟨r2, ⟨V.ref (s1.heap.objs.size + 1), H2, I2, rfl, q2⟩⟩
    | next => exact False.elim hq
    | brk => exact False.elim hq
    | cont => exact False.elim hq
def spTold (K : PySem.W.Frag) : Sp := fun vs H Q _ => ∃ c r f cs rs os st fos, vs = [.ref c, .ref r, .ref f, .str st] ∧ H c = some (.lst (cs.map V.str)) ∧ H r = some (.lst (rs.map V.str)) ∧ H f = some (.lst (fos.map V.ref)) ∧ Fns K H fos os ∧ (cs.length ≤ 40 ∧ rs.length ≤ 40 ∧ os.length ≤ 40) ∧ short (cs ++ rs ++ os) ∧
  ∀ q H', Ex H H' → Dp K H' (.ref q) (verdict cs rs os st) → Q (.ref q) H'

section
variable {P : Program} {w : World} {K : PySem.W.Frag} {mg : Str → Option Value} {base : Heap}

theorem ok_law_told {fd : FuncData} (F : FnP K "_law_told" "_law_told" s_law_told (ga K "_law_told") fd) (T : Tz K w mg) (c_Code_init : Cl P w K mg base (L2.CX P w) 5 (ma K (ga K "Code") "__init__") ["self", "cells", "rows", "functions", "start"] (spCI K)) : FnOk P w K mg base CX0 (6 + 1) (ga K "_law_told") fd ["_law_cells", "_law_rows", "_law_functions", "_law_start"] (spTold K) := by
  obtain ⟨fd_Code_init, G_Code_init, b_Code_init, kp_Code_init⟩ := c_Code_init
  refine FunD.ok F sc_law_told (fun vs H Q E h => ?_) (fun cdv A outer s H vs Q E hr h => ?_)
  · obtain ⟨c, r, f, cs, rs, os, st, fos, rfl, _⟩ := h
    rfl
  · obtain ⟨c, r, f, cs, rs, os, st, fos, rfl, hc, hr', hf, hF, hz, hs, kk⟩ := h
    have g_Code := T.gl "Code" (by decide +kernel)
    have g_BadCode := T.gl "BadCode" (by decide +kernel)
    have n_isinstance := T.fr "isinstance" (by decide +kernel)
    have g_TryError := T.gl "TryError" (by decide +kernel)
    have g_TooGreat := T.gl "TooGreat" (by decide +kernel)
    have n_ValueError := T.fr "ValueError" (by decide +kernel)
    refine ⟨_, PSs.nox (pss_cons (ps_try_mas (l := [(.ref (ga K "BadCode"), 6, _), (.ref (ga K "TooGreat"), 6, _)]) rfl rfl sc_law_told.nd takes_none5 (fun W pn xe tk _ => (pss_cons (ps_set (i := 4) sc_law_told.nd rfl (Or.inl rfl) (pe_mkS T.mc G_Code_init (hr.mono (by decide)) (by rfl) g_Code b_Code_init (fun σ => passAt tk σ) (pa_cons (pv 0) (pa_cons (pv 1) (pa_cons (pv 2) (pa_cons (pv 3) pa_nil)))))) (pss_one (ps_set (i := 5) sc_law_told.nd rfl (Or.inl rfl) (pe_tup (pa_cons pe_str (pa_cons (pe_fldc (K := K) rfl (pv 4) rfl) (pa_cons (pe_fldc (K := K) rfl (pv 4) rfl) (pa_cons (pe_fldc (K := K) rfl (pv 4) rfl) pa_nil)))))))))
      (HdsA.cons ⟨by rfl, by decide, .inl g_BadCode⟩ rfl rfl (fun a oe cls d pn hz hf => (pss_one (ps_set (i := 5) sc_law_told.nd rfl (Or.inl rfl) (pe_tup (pa_cons pe_str (pa_cons (pe_xf T.bc.xf (T.bc.no _ (by decide +kernel)) hz hf (pv 6)) (pa_cons (pe_xf T.bc.xf (T.bc.no _ (by decide +kernel)) hz hf (pv 6)) (pa_cons (pe_callB (call_isS hz hf) (by rfl) n_isinstance (by decide +kernel) (pa_cons (pv 6) (pa_cons (pe_glob (v := .ref _) (by rfl) g_TryError rfl) pa_nil))) (pa_cons (pe_callB (call_isS hz hf) (by rfl) n_isinstance (by decide +kernel) (pa_cons (pv 6) (pa_cons (pe_glob (v := .ref _) (by rfl) g_TooGreat rfl) pa_nil))) pa_nil))))))))) (HdsA.cons ⟨by rfl, by decide, .inl g_TooGreat⟩ rfl rfl (fun a oe cls d pn hz hf => (pss_one (ps_set (i := 5) sc_law_told.nd rfl (Or.inl rfl) (pe_tup (pa_cons pe_str (pa_cons (pe_callB (call_isS hz hf) (by rfl) n_isinstance (by decide +kernel) (pa_cons (pv 6) (pa_cons (pe_bltn (v := .ty "ValueError") (by rfl) n_ValueError (by decide +kernel) rfl) pa_nil))) (pa_cons (pe_callB (call_isS hz hf) (by rfl) n_isinstance (by decide +kernel) (pa_cons (pv 6) (pa_cons (pe_glob (v := .ref _) (by rfl) g_BadCode rfl) pa_nil))) pa_nil))))))) HdsA.nil)))
      (pss_one (ps_ret (pv 5)))), ?_⟩
    refine ⟨.ref c, rfl, .ref r, rfl, .ref f, rfl, .str st, rfl, fun x dx hx hdx hne => ?_⟩
    have hx2 : upd H dx (.own x) x = none := (upd_ne (Ne.symm hne)).trans hx
    have e0 : Ex H (upd (upd H dx (.own x)) x (.ins (ga K "Code") dx [])) := (Ex.new hdx).trans (Ex.new hx2)
    refine ⟨x, c, r, f, cs, rs, os, st, fos, dx, rfl, upd_same, e0 _ _ hc, e0 _ _ hr', e0 _ _ hf, hF.mono e0, hz, hs, fun hg H1 x1 => ?_, fun hg hb d H1 x1 hd => ?_, fun hg hb u1 u2 u3 H1 x1 hC => ?_⟩
    · have e1 : Ex H H1 := Xa.new e0 hx x1
      refine ⟨false, T.m2, (fun z => nomatch z), fun _ => ⟨true, T.m3, fun _ a ha => ?_, (fun z => nomatch z)⟩⟩
      refine ⟨.ref a, rfl, _, .ty "ValueError", .type "ValueError", true, rfl, rfl, T.tg.ec, (fun dd z => nomatch z), .ty _, T.i3, ?_⟩
      refine ⟨.ref a, rfl, _, .ref (ga K "BadCode"), .ref (ga K "BadCode"), false, rfl, rfl, T.tg.ec, (fun dd z => nomatch z), .own _, T.i4, (show 3 ≤ sizeLine by decide), fun q hq => ⟨.ref q, rfl, kk q _ (e1.trans (Ex.new hq)) ?_⟩⟩
      rw [ver_great hg]
      exact dp_great upd_same
    · have e1 : Ex H H1 := Xa.new e0 hx x1
      refine ⟨true, T.m1, fun _ a ha => ?_, (fun z => nomatch z)⟩
      refine ⟨.ref a, rfl, rfl, rfl, d, _, .non, rfl, hd, rfl, .ref a, rfl, rfl, rfl, d, _, .non, rfl, hd, rfl, ?_⟩
      refine ⟨.ref a, rfl, _, .ref (ga K "TryError"), .ref (ga K "TryError"), true, rfl, rfl, T.bc.ec, fun dd z => ?_, .own _, T.i1, ?_⟩
      · cases z
        exact ⟨_, hd⟩
      refine ⟨.ref a, rfl, _, .ref (ga K "TooGreat"), .ref (ga K "TooGreat"), false, rfl, rfl, T.bc.ec, fun dd z => ?_, .own _, T.i2, (show 5 ≤ sizeLine by decide), fun q hq => ⟨.ref q, rfl, kk q _ (e1.trans (Ex.new hq)) ?_⟩⟩
      · cases z
        exact ⟨_, hd⟩
      rw [ver_bad hg hb]
      exact dp_bad upd_same
    · have e1 : Ex H H1 := Xa.new e0 hx x1
      obtain ⟨dx2, hA⟩ := hC.at_
      refine ⟨rfl, ?_⟩
      refine ⟨.ref x, rfl, x, _, dx2, _, .ref u1, rfl, hA, T.cc, T.nc "cells" (by decide +kernel), rfl, ?_⟩
      refine ⟨.ref x, rfl, x, _, dx2, _, .ref u2, rfl, hA, T.cc, T.nc "rows" (by decide +kernel), rfl, ?_⟩
      refine ⟨.ref x, rfl, x, _, dx2, _, .str st, rfl, hA, T.cc, T.nc "start" (by decide +kernel), rfl, (show 4 ≤ sizeLine by decide), fun q hq => ⟨.ref q, rfl, kk q _ (e1.trans (Ex.new hq)) ?_⟩⟩
      rw [ver_made hg hb]
      exact dp_made upd_same (Ex.new hq _ _ hC.ca) (Ex.new hq _ _ hC.ra)

end
end K02
set_option Elab.async false
set_option linter.all false
set_option maxRecDepth 100000
set_option maxHeartbeats 8000000
namespace K02
open PySem PySem.Spec PyProof.Rows L2 He XH XV XR PEN Evl


mutual
theorem dpM {K : PySem.W.Frag} {H H' : Hp} (e : Ex H H') : ∀ (d : PyData) (v : V), Dp K H v d → Dp K H' v d
  | .none, _, h => by
    cases h
    exact .non
  | .bool b, _, h => by
    cases h
    exact .bl b
  | .int i, _, h => by
    cases h
    exact .int i
  | .str x, _, h => by
    cases h
    exact .str x
  | .list ds, _, h => by
    cases h with
    | lst h1 h2 => exact .lst (ex_l e h1) (dpMs e ds _ h2)
  | .tuple ds, _, h => by
    cases h with
    | tup h1 h2 => exact .tup (ex_t e h1) (dpMs e ds _ h2)
  | .dict _, _, h => by cases h
theorem dpMs {K : PySem.W.Frag} {H H' : Hp} (e : Ex H H') : ∀ (ds : List PyData) (vs : List V), DpAll K H vs ds → DpAll K H' vs ds
  | [], _, h => by
    cases h
    exact .nil
  | d :: ds, _, h => by
    cases h with
    | cons h1 h2 => exact .cons (dpM e d _ h1) (dpMs e ds _ h2)
end
def spLaw (K : PySem.W.Frag) : Sp := fun vs H Q _ => ∃ (a : Addr) (ns : List Int), vs = [.ref a] ∧ SqL K H a (ns.map V.int) ∧ ns.length ≤ 63 ∧ ∀ H', Q (.bl true) H'
theorem cut_drop (xs : List V) (i : Nat) : cutV xs (some (i : Int)) none = xs.drop i := by
  unfold cutV
  rw [HT.sIx_none, HT.sIx_nat]
  rcases Nat.le_total i xs.length with h | h
  · rw [Nat.min_eq_left h, List.take_of_length_le (by rw [List.length_drop]; exact Nat.le_refl _)]
  · rw [Nat.min_eq_right h, Nat.sub_self, List.take_zero, List.drop_eq_nil_of_le h]
/-- a list of texts is not the pen; nor are refs, nor a tuple -/
theorem strs_off {p l b : Addr} {n : Nat} {H : Hp} {zs : List Str} (h : Pen p l n H) (k : H b = some (.lst (zs.map V.str))) : b ≠ p ∧ b ≠ l := by
  obtain ⟨c, ns, e1, e2, e3, _⟩ := h
  refine ⟨fun e => ?_, fun e => ?_⟩
  · rw [e, e1] at k
    cases zs with
    | nil => cases HO.lst.inj (Option.some.inj k)
    | cons z r =>
      have y := HO.lst.inj (Option.some.inj k)
      rw [List.map_cons] at y
      cases (List.cons.inj y).1
  · rw [e, e2] at k
    cases ns with
    | nil => exact e3 rfl
    | cons n r =>
      cases zs with
      | nil => cases HO.lst.inj (Option.some.inj k)
      | cons z r2 =>
        have y := HO.lst.inj (Option.some.inj k)
        rw [List.map_cons, List.map_cons] at y
        cases (List.cons.inj y).1
theorem tup_off {p l b : Addr} {n : Nat} {H : Hp} {xs : List V} (h : Pen p l n H) (k : H b = some (.tup xs)) : b ≠ p ∧ b ≠ l := by
  obtain ⟨c, ns, e1, e2, e3, _⟩ := h
  exact ⟨(fun e => by rw [e, e1] at k; cases k), (fun e => by rw [e, e2] at k; cases k)⟩
def Ct (p l : Addr) (H : Hp) (ct : Addr) (n1 n2 n3 : Nat) : Prop := H ct = some (.lst [.int (n1 : Int), .int (n2 : Int), .int (n3 : Int)]) ∧ n1 ≤ 4 ∧ n2 ≤ 3 ∧ n3 ≤ 4 ∧ ct ≠ p ∧ ct ≠ l
theorem Ct.px {p l ct : Addr} {H H' : Hp} {n1 n2 n3 : Nat} (k : Px p l H H') (h : Ct p l H ct n1 n2 n3) : Ct p l H' ct n1 n2 n3 := ⟨k.get h.2.2.2.2.1 h.2.2.2.2.2 h.1, h.2⟩
def M1 (a p l : Addr) (b : Nat) (σ : L2.St) (H : Hp) : Prop := ∃ (t : Option V) (ct : Addr) (n1 n2 n3 : Nat) (v4 v5 v6 v7 v8 v9 v10 v11 v12 : Option V), σ = [some (.ref a), some (.ref p), t, some (.ref ct), v4, v5, v6, v7, v8, v9, v10, v11, v12] ∧ Ct p l H ct n1 n2 n3 ∧ Pen p l b H
def M2 (a p l : Addr) (b : Nat) (σ : L2.St) (H : Hp) : Prop := ∃ (t : Option V) (ct : Addr) (n1 n2 n3 : Nat) (nm : Addr) (zs : List Str) (v5 v6 v7 v8 v9 v10 v11 v12 : Option V), σ = [some (.ref a), some (.ref p), t, some (.ref ct), some (.ref nm), v5, v6, v7, v8, v9, v10, v11, v12] ∧ Ct p l H ct n1 n2 n3 ∧ H nm = some (.lst (zs.map V.str)) ∧ nm ≠ ct ∧ zs.length = n1 + n2 + n3 ∧ (∀ z ∈ zs, Tn z) ∧ Pen p l b H
def M5 (a p l : Addr) (b : Nat) (σ : L2.St) (H : Hp) : Prop := ∃ (t ct nm : Option V) (c : Addr) (re : Option V) (r o : Addr) (cs rs os : List Str) (st : Str) (v10 v11 v12 : Option V), σ = [some (.ref a), some (.ref p), t, ct, nm, some (.ref c), re, some (.ref r), some (.ref o), some (.str st), v10, v11, v12] ∧ H c = some (.lst (cs.map V.str)) ∧ H r = some (.lst (rs.map V.str)) ∧ H o = some (.lst (os.map V.str)) ∧
  (cs.length ≤ 40 ∧ rs.length ≤ 40 ∧ os.length ≤ 40) ∧ (∀ z ∈ st :: (cs ++ rs ++ os), Tn z) ∧ Pen p l b H
def M6 (a p l : Addr) (b : Nat) (σ : L2.St) (H : Hp) : Prop := ∃ (t ct nm : Option V) (c : Addr) (re : Option V) (r o : Addr) (cs rs os : List Str) (st : Str) (bd : Addr) (bs : List Addr) (v11 v12 : Option V), σ = [some (.ref a), some (.ref p), t, ct, nm, some (.ref c), re, some (.ref r), some (.ref o), some (.str st), some (.ref bd), v11, v12] ∧ H c = some (.lst (cs.map V.str)) ∧ H r = some (.lst (rs.map V.str)) ∧ H o = some (.lst (os.map V.str)) ∧
  (cs.length ≤ 40 ∧ rs.length ≤ 40 ∧ os.length ≤ 40) ∧ (∀ z ∈ st :: (cs ++ rs ++ os), Tn z) ∧ Pen p l b H ∧ (H bd = some (.tup (bs.map V.ref)) ∨ H bd = some (.lst (bs.map V.ref))) ∧ bs.length ≤ 10 ∧ Bd H bs
theorem nat_of {r m : Int} (h : 0 ≤ r ∧ r < m) : ∃ n : Nat, r = (n : Int) ∧ (n : Int) < m := ⟨r.toNat, by omega, by omega⟩

section
variable {P : Program} {w : World} {K : PySem.W.Frag} {mg : Str → Option Value} {base : Heap}

theorem ok_law {fd : FuncData} (F : FnP K "law" "law" s_law (ga K "law") fd) (T : Tx K w mg) (c_law_draw : Cl P w K mg base CX0 1 (ga K "_law_draw") ["_law_pen", "_law_many"] spDraw) (c_law_pick : Cl P w K mg base CX0 2 (ga K "_law_pick") ["_law_pen", "_law_row"] (spPick K)) (c_law_names : Cl P w K mg base CX0 3 (ga K "_law_names") ["_law_pen", "_law_many"] (spNames K)) (c_law_name : Cl P w K mg base CX0 3 (ga K "_law_name") ["_law_pen", "_law_good_here"] spName) (c_Function_init : Cl P w K mg base CX0 4 (ma K (ga K "Function") "__init__") ["self", "name", "body"] (spFI K)) (c_law_told : Cl P w K mg base CX0 7 (ga K "_law_told") ["_law_cells", "_law_rows", "_law_functions", "_law_start"] (spTold K)) (c_law_due : Cl P w K mg base CX0 2 (ga K "_law_due") ["_law_cells", "_law_rows", "_law_order", "_law_start"] (spDue K)) : FnOk P w K mg base CX0 (7 + 1) (ga K "law") fd ["_law_script"] (spLaw K) := by
  obtain ⟨fd_law_draw, G_law_draw, b_law_draw, kp_law_draw⟩ := c_law_draw
  obtain ⟨fd_law_pick, G_law_pick, b_law_pick, kp_law_pick⟩ := c_law_pick
  obtain ⟨fd_law_names, G_law_names, b_law_names, kp_law_names⟩ := c_law_names
  obtain ⟨fd_law_name, G_law_name, b_law_name, kp_law_name⟩ := c_law_name
  obtain ⟨fd_Function_init, G_Function_init, b_Function_init, kp_Function_init⟩ := c_Function_init
  obtain ⟨fd_law_told, G_law_told, b_law_told, kp_law_told⟩ := c_law_told
  obtain ⟨fd_law_due, G_law_due, b_law_due, kp_law_due⟩ := c_law_due
  refine FunD.ok F sc_law (fun vs H Q E h => ?_) (fun cdv A outer s H vs Q E hr h => ?_)
  · obtain ⟨a, ns, rfl, _⟩ := h
    rfl
  · obtain ⟨a, ns, rfl, hS, hl, kk⟩ := h
    have n_list := T.fr "list" (by decide +kernel)
    have n_range := T.fr "range" (by decide +kernel)
    have g_law_draw := T.gl "_law_draw" (by decide +kernel)
    have g_law_names := T.gl "_law_names" (by decide +kernel)
    have n_sum := T.fr "sum" (by decide +kernel)
    have g_law_name := T.gl "_law_name" (by decide +kernel)
    have n_len := T.fr "len" (by decide +kernel)
    have g_law_pick := T.gl "_law_pick" (by decide +kernel)
    have g_Function := T.gl "Function" (by decide +kernel)
    have g_law_told := T.gl "_law_told" (by decide +kernel)
    have g_law_due := T.gl "_law_due" (by decide +kernel)
    refine ⟨_, PSs.nox (pss_cut (ps_set (i := 1) sc_law.nd rfl (Or.inr rfl) (pe_lst (pa_cons (pe_orT (pe_callTy call_list_of (by rfl) n_list (by decide +kernel) (pa_cons (pv 0) pa_nil)) (pe_one (pe_lst (pa_cons pe_int pa_nil)))) (pa_cons pe_int pa_nil))))
      (pss_cons (ps_for PassesOwn.never rfl (pi_range1 (by rfl) n_range (pa_cons pe_int pa_nil)) (pg_name (i := 2) sc_law.nd rfl (Or.inl rfl))
      (pss_cut (ps_set (i := 3) sc_law.nd rfl (Or.inl rfl) (pe_lst (pa_cons (pe_call G_law_draw (hr.mono (by decide)) (by rfl) g_law_draw kp_law_draw b_law_draw .nil pass0 (pa_cons (pv 1) (pa_cons pe_int pa_nil))) (pa_cons (pe_call G_law_draw (hr.mono (by decide)) (by rfl) g_law_draw kp_law_draw b_law_draw .nil pass0 (pa_cons (pv 1) (pa_cons pe_int pa_nil))) (pa_cons (pe_op op_add pe_int (pe_call G_law_draw (hr.mono (by decide)) (by rfl) g_law_draw kp_law_draw b_law_draw .nil pass0 (pa_cons (pv 1) (pa_cons pe_int pa_nil)))) pa_nil)))))
      (pss_cut (ps_if (pt_cmpR op_eq (pe_call G_law_draw (hr.mono (by decide)) (by rfl) g_law_draw kp_law_draw b_law_draw .nil pass0 (pa_cons (pv 1) (pa_cons pe_int pa_nil))) pe_int (nomark _))
      (pss_one (ps_set (i := 3) sc_law.nd rfl (Or.inl rfl) (pe_lst (pa_cons (pe_call G_law_draw (hr.mono (by decide)) (by rfl) g_law_draw kp_law_draw b_law_draw .nil pass0 (pa_cons (pv 1) (pa_cons pe_int pa_nil))) (pa_cons (pe_call G_law_draw (hr.mono (by decide)) (by rfl) g_law_draw kp_law_draw b_law_draw .nil pass0 (pa_cons (pv 1) (pa_cons pe_int pa_nil))) (pa_cons (pe_call G_law_draw (hr.mono (by decide)) (by rfl) g_law_draw kp_law_draw b_law_draw .nil pass0 (pa_cons (pv 1) (pa_cons pe_int pa_nil))) pa_nil))))))
      pss_nil)
      (pss_cut (ps_setLc (i := 4) (own := [("_law_name_here", 12)]) (g := gName 12) (by rfl) sc_law.nd rfl rfl (sw_true rfl rfl rfl (by decide +kernel)) (pi_list (pe_call G_law_names (hr.mono (by decide)) (by rfl) g_law_names kp_law_names b_law_names .nil pass0 (pa_cons (pv 1) (pa_cons (pe_callB (cr_sum rfl) (by rfl) n_sum (by decide +kernel) (pa_cons (pv 3) pa_nil)) pa_nil)))) (blkOk_by (own := [("_law_name_here", 12)]) (N := ["_law_script", "_law_pen", "_law_turn", "_law_counts", "_law_names_here", "_law_cells", "_law_rest", "_law_rows", "_law_order", "_law_start", "_law_body", "_law_functions", "_law_name_here"]) (sc := defScope s_law) (by decide +kernel)) (fun _ _ _ _ _ => (pg_name (i := 12) sc_law.nd rfl (Or.inl rfl))) (fun _ _ _ _ _ => pts_nil) (fun _ _ _ _ _ => (pe_call G_law_name (hr.mono (by decide)) (by rfl) g_law_name kp_law_name b_law_name .nil pass0 (pa_cons (pv 1) (pa_cons (pv 12) pa_nil)))))
      (pss_cut (ps_if (PW.pt (pw_and (pt_cmpR op_gt (pe_callB call_len_seq (by rfl) n_len (by decide +kernel) (pa_cons (pv 4) pa_nil)) pe_int (nomark _)) (pw_and1 (pt_cmpR op_eq (pe_call G_law_draw (hr.mono (by decide)) (by rfl) g_law_draw kp_law_draw b_law_draw .nil pass0 (pa_cons (pv 1) (pa_cons pe_int pa_nil))) pe_int (nomark _)))))
      (pss_one (ps_asg (pe_call G_law_pick (hr.mono (by decide)) (by rfl) g_law_pick kp_law_pick b_law_pick .nil pass0 (pa_cons (pv 1) (pa_cons (pv 4) pa_nil))) (pg_sub (pv 4) (pe_call G_law_draw (hr.mono (by decide)) (by rfl) g_law_draw kp_law_draw b_law_draw .nil pass0 (pa_cons (pv 1) (pa_cons (pe_callB call_len_seq (by rfl) n_len (by decide +kernel) (pa_cons (pv 4) pa_nil)) pa_nil))) set_list)))
      pss_nil)
      (pss_cons (ps_par (i := 5) (j := 6) (by rfl) sc_law.nd rfl rfl (by decide) rfl rfl (pa_cons (pe_slice sl_list (pv 4) po_none (po_some (pe_ix ix_list (pv 3) pe_int (fun _ _ => rfl)))) (pa_cons (pe_slice sl_list (pv 4) (po_some (pe_ix ix_list (pv 3) pe_int (fun _ _ => rfl))) po_none) pa_nil)) (by rfl))
      (pss_cons (ps_par (i := 7) (j := 8) (by rfl) sc_law.nd rfl rfl (by decide) rfl rfl (pa_cons (pe_slice sl_list (pv 6) po_none (po_some (pe_ix ix_list (pv 3) pe_int (fun _ _ => rfl)))) (pa_cons (pe_slice sl_list (pv 6) (po_some (pe_ix ix_list (pv 3) pe_int (fun _ _ => rfl))) po_none) pa_nil)) (by rfl))
      (pss_cut (ps_set (i := 9) sc_law.nd rfl (Or.inl rfl) (pe_ifExp (pt_cmpR op_eq (pe_call G_law_draw (hr.mono (by decide)) (by rfl) g_law_draw kp_law_draw b_law_draw .nil pass0 (pa_cons (pv 1) (pa_cons pe_int pa_nil))) pe_int (nomark _)) (pe_call G_law_pick (hr.mono (by decide)) (by rfl) g_law_pick kp_law_pick b_law_pick .nil pass0 (pa_cons (pv 1) (pa_cons (pe_op op_cat (pv 8) (pe_lst (pa_cons pe_str pa_nil))) pa_nil))) (pe_ix ix_list (pe_op op_cat (pv 8) (pe_lst (pa_cons pe_str pa_nil))) pe_int (fun _ _ => rfl))))
      (pss_cut (ps_set (i := 10) sc_law.nd rfl (Or.inr rfl) (pe_ifExp (pt_cmpR op_eq (pe_call G_law_draw (hr.mono (by decide)) (by rfl) g_law_draw kp_law_draw b_law_draw .nil pass0 (pa_cons (pv 1) (pa_cons pe_int pa_nil))) pe_int (nomark _)) (pe_lst (pa_cons (pe_tup (pa_cons pe_str pa_nil)) pa_nil)) (pe_tup pa_nil)))
      (pss_cons (ps_setLc (i := 11) (own := [("_law_name_here", 12)]) (g := gName 12) (by rfl) sc_law.nd rfl rfl (sw_true rfl rfl rfl (by decide +kernel)) (pi_list (pv 8)) (blkOk_by (own := [("_law_name_here", 12)]) (N := ["_law_script", "_law_pen", "_law_turn", "_law_counts", "_law_names_here", "_law_cells", "_law_rest", "_law_rows", "_law_order", "_law_start", "_law_body", "_law_functions", "_law_name_here"]) (sc := defScope s_law) (by decide +kernel)) (fun _ _ _ _ _ => (pg_name (i := 12) sc_law.nd rfl (Or.inl rfl))) (fun _ _ _ _ _ => pts_nil) (fun _ _ _ _ _ => (pe_make T.mf G_Function_init (hr.mono (by decide)) (by rfl) g_Function b_Function_init .nil pass0 (pa_cons (pv 12) (pa_cons (pv 10) pa_nil)))))
      (pss_one (ps_if (pt_cmpR (op_neD hr.units) (pe_call G_law_told (hr.mono (by decide)) (by rfl) g_law_told kp_law_told b_law_told .nil pass0 (pa_cons (pe_callTy call_list_of (by rfl) n_list (by decide +kernel) (pa_cons (pv 5) pa_nil)) (pa_cons (pe_callTy call_list_of (by rfl) n_list (by decide +kernel) (pa_cons (pv 7) pa_nil)) (pa_cons (pv 11) (pa_cons (pv 9) pa_nil))))) (pe_call G_law_due (hr.mono (by decide)) (by rfl) g_law_due kp_law_due b_law_due .nil pass0 (pa_cons (pv 5) (pa_cons (pv 7) (pa_cons (pv 8) (pa_cons (pv 9) pa_nil))))) (nomark _))
      (pss_one (ps_ret pe_bl))
      pss_nil))))))))))))
      (pss_one (ps_ret pe_bl)))), ?_⟩
    refine q_cut (M := fun σ' H' => ∃ p l, σ' = [some (.ref a), some (.ref p), none, none, none, none, none, none, none, none, none, none, none] ∧ Pen p l 3000 H') ?_ fun σ1 H1 hM => ?_
    · refine ⟨.ref a, rfl, a, _, rfl, .inl hS, fun l0 hl0 => ⟨!ns.isEmpty, (show TruV K (.ref l0) _ _ from Or.inl ⟨ns.map V.int, sq_of upd_same, by cases ns <;> rfl⟩), ite2 (fun hn => ?_) (fun hn => ?_)⟩⟩
      · refine ⟨fits (show 2 ≤ 1000 by decide), fun p hp => ⟨p, l0, rfl, 0, ns, upd_same, Ex.new hp _ _ upd_same, ?_, by decide, by decide⟩⟩
        rintro rfl
        cases hn
      · refine ⟨fits (show 1 ≤ 1000 by decide), fun l1 hl1 => ⟨fits (show 2 ≤ 1000 by decide), fun p hp => ⟨p, l1, rfl, 0, [0], upd_same, Ex.new hp _ _ upd_same, by simp, by decide, by decide⟩⟩⟩
    obtain ⟨p, l, rfl, pen0⟩ := hM
    refine q_forR1 (n := 6) (ea_cons ev_c ea_nil) ⟨by decide, by decide⟩ (fun i σ' H' => ∃ v2 v3 v4 v5 v6 v7 v8 v9 v10 v11 v12, σ' = [some (.ref a), some (.ref p), v2, v3, v4, v5, v6, v7, v8, v9, v10, v11, v12] ∧ Pen p l (3000 - i * 400) H')
      (fun H2 e2 => ⟨_, _, _, _, _, _, _, _, _, _, _, rfl, pen0.ex e2⟩) (fun i σ' H0 hi hI => ?_) (fun σ' H' hI => ?_)
    · obtain ⟨v2, v3, v4, v5, v6, v7, v8, v9, v10, v11, v12, rfl, pen⟩ := hI
      dsimp only [List.set]
      -- counts
      refine q_cut (M := M1 a p l (3000 - i * 400 - 10)) ?_ fun σ2 H2 hM => ?_
      · refine ⟨.ref p, rfl, p, l, 4, 3000 - i * 400 - 1, rfl, ⟨by decide, by decide⟩, pen.less (by omega), fun r1 H1 hr1 px1 pen1 => ?_⟩
        refine ⟨.ref p, rfl, p, l, 3, 3000 - i * 400 - 2, rfl, ⟨by decide, by decide⟩, pen1.less (by omega), fun r2 H2 hr2 px2 pen2 => ?_⟩
        refine ⟨.ref p, rfl, p, l, 3, 3000 - i * 400 - 3, rfl, ⟨by decide, by decide⟩, pen2.less (by omega), fun r3 H3 hr3 px3 pen3 => ⟨1, r3, rfl, rfl, fits (show 3 ≤ 1000 by decide), fun ct hct => ?_⟩⟩
        obtain ⟨n1, rfl, l1⟩ := nat_of hr1
        obtain ⟨n2, rfl, l2⟩ := nat_of hr2
        obtain ⟨n3, rfl, l3⟩ := nat_of hr3
        have nc := pen3.new hct
        refine ⟨_, ct, n1, n2, 1 + n3, _, _, _, _, _, _, _, _, _, rfl, ⟨?_, by omega, by omega, by omega, nc.1, nc.2⟩, (pen3.upd nc.1 nc.2).less (by omega)⟩
        rw [upd_same, show ((1 + n3 : Nat) : Int) = 1 + (n3 : Int) by omega]
      obtain ⟨t, ct, n1, n2, n3, v4, v5, v6, v7, v8, v9, v10, v11, v12, rfl, hct, pen⟩ := hM
      refine q_cut (M := M1 a p l (3000 - i * 400 - 20)) ?_ fun σ3 H3 hM => ?_
      · refine ⟨.ref p, rfl, p, l, 3, 3000 - i * 400 - 11, rfl, ⟨by decide, by decide⟩, pen.less (by omega), fun r H3 hr px pen' => ⟨rfl, _, rfl, ite2 (fun _ => ?_) (fun _ => ?_)⟩⟩
        · refine ⟨.ref p, rfl, p, l, 5, 3000 - i * 400 - 12, rfl, ⟨by decide, by decide⟩, pen'.less (by omega), fun r1 H4 hr1 px1 pen1 => ?_⟩
          refine ⟨.ref p, rfl, p, l, 4, 3000 - i * 400 - 13, rfl, ⟨by decide, by decide⟩, pen1.less (by omega), fun r2 H5 hr2 px2 pen2 => ?_⟩
          refine ⟨.ref p, rfl, p, l, 5, 3000 - i * 400 - 14, rfl, ⟨by decide, by decide⟩, pen2.less (by omega), fun r3 H6 hr3 px3 pen3 => ⟨fits (show 3 ≤ 1000 by decide), fun ct' hct' => ?_⟩⟩
          obtain ⟨m1, rfl, l1⟩ := nat_of hr1
          obtain ⟨m2, rfl, l2⟩ := nat_of hr2
          obtain ⟨m3, rfl, l3⟩ := nat_of hr3
          have nc := pen3.new hct'
          exact ⟨_, ct', m1, m2, m3, _, _, _, _, _, _, _, _, _, rfl, ⟨upd_same, by omega, by omega, by omega, nc.1, nc.2⟩, (pen3.upd nc.1 nc.2).less (by omega)⟩
        · exact ⟨_, ct, n1, n2, n3, _, _, _, _, _, _, _, _, _, rfl, hct.px px, pen'.less (by omega)⟩
      clear hct pen
      clear v4 v5 v6 v7 v8 v9 v10 v11 v12 n1 n2 n3 ct t
      obtain ⟨t, ct, n1, n2, n3, v4, v5, v6, v7, v8, v9, v10, v11, v12, rfl, hct, pen⟩ := hM
      have s1 := hct.2.1
      have s2 := hct.2.2.1
      have s3 := hct.2.2.2.1
      -- names
      refine q_cut (M := M2 a p l (3000 - i * 400 - 250)) ?_ fun σ4 H4 hM => ?_
      · refine ⟨.ref p, rfl, .ref ct, rfl, ct, [(n1 : Int), n2, n3], rfl, sq_of hct.1, p, l, n1 + n2 + n3, 3000 - i * 400 - 20 - 180, ?_, by omega, pen.less (by omega), fun q ys H4 hq hq4 hlen ok px pen' => ⟨q, rfl, ⟨_, sq_of hq4⟩, fun D hD => ?_⟩⟩
        · show [V.ref p, V.int (List.sum [(n1 : Int), n2, n3])] = [V.ref p, V.int ((n1 + n2 + n3 : Nat) : Int)]
          rw [show List.sum [(n1 : Int), n2, n3] = ((n1 + n2 + n3 : Nat) : Int) by simp; omega]
        have nq : q ≠ p ∧ q ≠ l := pen.new hq
        have nD : D ≠ p ∧ D ≠ l := pen'.new hD
        have hct4 := hct.px px
        refine lc_list (xs := ys.map V.str) (fun j H' => ∃ zs : List Str, zs.length = j ∧ (∀ z ∈ zs, Tn z) ∧ H' D = some (.lst (zs.map V.str)) ∧ Px p l H4 H' ∧ Pen p l (3000 - i * 400 - 20 - 180 - j * 2) H')
          ⟨[], rfl, (fun z hz => nomatch hz), upd_same, Px.of (Ex.new hD), pen'.upd nD.1 nD.2⟩ (fun j H' _ hJ => ?_) (fun j x H' hx hJ => ?_) (fun H' hJ => ?_)
        · obtain ⟨zs, e1, e2, e3, e4, e5⟩ := hJ
          exact sq_of (e4.get nq.1 nq.2 hq4)
        · obtain ⟨zs, e1, e2, e3, e4, e5⟩ := hJ
          rw [List.getElem?_map] at hx
          cases w1 : ys[j]? with
          | none =>
            rw [w1] at hx
            cases hx
          | some y =>
            rw [w1] at hx
            cases hx
            have hj := (List.getElem?_eq_some_iff.mp w1).1
            obtain ⟨y1, y2, y3⟩ := ok.2 y (List.mem_of_getElem? w1)
            refine ⟨rfl, yes_go ⟨.ref p, rfl, .str y, rfl, p, l, y, 3000 - i * 400 - 20 - 180 - (j + 1) * 2, rfl, ⟨by omega, let_ok y1⟩, e5.less (by omega), fun z H5 hz px5 pen5 => ⟨_, px5.get nD.1 nD.2 e3, ?_, zs ++ [z], ?_, ?_, ?_, (e4.trans px5).upd (.inr (.inr hD)), pen5.upd nD.1 nD.2⟩⟩⟩
            · rw [List.length_map]
              exact small1000 (by omega)
            · rw [List.length_append, e1]
              rfl
            · intro u hu
              rcases List.mem_append.mp hu with h | h
              · exact e2 u h
              · rw [List.mem_singleton.mp h]
                exact hz
            · rw [upd_same, List.map_append]
              rfl
        · obtain ⟨zs, e1, e2, e3, e4, e5⟩ := hJ
          rw [List.length_map, hlen] at e1 e5
          exact ⟨_, ct, n1, n2, n3, D, zs, _, _, _, _, _, _, _, _, rfl, hct4.px e4, e3, (fun e => by rw [e, hct4.1] at hD; cases hD), e1, e2, e5.less (by omega)⟩
      clear hct pen s1 s2 s3
      clear v4 v5 v6 v7 v8 v9 v10 v11 v12 n1 n2 n3 ct t
      obtain ⟨t, ct, n1, n2, n3, nm, zs, v5, v6, v7, v8, v9, v10, v11, v12, rfl, hct, hnm, nnc, hlen, hT, pen⟩ := hM
      -- one name again
      refine q_cut (M := M2 a p l (3000 - i * 400 - 260)) ?_ fun σ5 H5 hM => ?_
      · have nn := strs_off pen hnm
        have s1 := hct.2.1
        have s2 := hct.2.2.1
        have s3 := hct.2.2.2.1
        have stay : ∀ {H' : Hp}, Px p l H4 H' → Pen p l (3000 - i * 400 - 260) H' → M2 a p l (3000 - i * 400 - 260) [some (.ref a), some (.ref p), t, some (.ref ct), some (.ref nm), v5, v6, v7, v8, v9, v10, v11, v12] H' := fun px pn =>
          ⟨_, ct, n1, n2, n3, nm, zs, _, _, _, _, _, _, _, _, rfl, hct.px px, px.get nn.1 nn.2 hnm, nnc, hlen, hT, pn⟩
        refine ⟨.ref nm, rfl, nm, _, rfl, .inl (sq_of hnm), _, 1, rfl, rfl, _, rfl, ite2 (fun hgt => ?_) (fun _ => ite_ff (stay (Px.refl _) (pen.less (by omega))))⟩
        rw [List.length_map] at hgt
        have hgt' := of_decide_eq_true hgt
        refine ⟨.ref p, rfl, p, l, 4, 3000 - i * 400 - 251, rfl, ⟨by decide, by decide⟩, pen.less (by omega), fun r H5 hr px5 pen5 => ⟨rfl, _, rfl, ite2 (fun _ => ?_) (fun _ => stay px5 (pen5.less (by omega)))⟩⟩
        have hnm5 := px5.get nn.1 nn.2 hnm
        refine ⟨.ref p, rfl, .ref nm, rfl, p, l, nm, _, 3000 - i * 400 - 252, rfl, sq_of ((cut_at nn.1 nn.2).trans hnm5), ⟨?_, ?_⟩, pen5.less (by omega), fun v H6 hv px6 pen6 => ?_⟩
        · intro e
          have z := congrArg List.length e
          rw [List.length_map] at z
          simp only [List.length_nil] at z
          omega
        · rw [List.length_map]
          omega
        obtain ⟨z, hz, rfl⟩ := List.mem_map.mp hv
        have hnm6 := px6.get nn.1 nn.2 hnm5
        refine ⟨.ref nm, rfl, .ref p, rfl, .ref nm, rfl, nm, _, rfl, .inl (sq_of hnm6), p, l, (zs.length : Int), 3000 - i * 400 - 253, ?_, ⟨by omega, by omega⟩, pen6.less (by omega), fun r2 H7 hr2 px7 pen7 => ?_⟩
        · rw [List.length_map]
          rfl
        obtain ⟨k, rfl, hk⟩ := nat_of hr2
        have hnm7 := px7.get nn.1 nn.2 hnm6
        have px := (px5.trans px6).trans px7
        refine ⟨nm, zs.map V.str, (k : Int), k, rfl, rfl, hnm7, ixN_nat (by rw [List.length_map]; omega), ?_⟩
        refine ⟨_, ct, n1, n2, n3, nm, zs.set k z, _, _, _, _, _, _, _, _, rfl, ⟨(upd_ne (Ne.symm nnc)).trans (hct.px px).1, hct.2⟩, ?_, nnc, by rw [List.length_set]; exact hlen, fun u hu => ?_, (pen7.upd nn.1 nn.2).less (by omega)⟩
        · rw [upd_same, List.map_set]
        · rcases List.mem_or_eq_of_mem_set hu with h | h
          · exact hT u h
          · rw [h]
            exact hT z hz
      clear hct hnm nnc hlen hT pen
      clear v5 v6 v7 v8 v9 v10 v11 v12 n1 n2 n3 ct t nm zs
      obtain ⟨t, ct, n1, n2, n3, nm, zs, v5, v6, v7, v8, v9, v10, v11, v12, rfl, hct, hnm, nnc, hlen, hT, pen⟩ := hM
      have s1 := hct.2.1
      have s2 := hct.2.2.1
      have s3 := hct.2.2.2.1
      -- the parts
      refine ⟨.ref nm, rfl, .ref ct, rfl, ct, _, 0, .int (n1 : Int), rfl, rfl, sq_of hct.1, rfl, (n1 : Int), rfl, nm, _, rfl, sq_of hnm, fun c hc => ?_⟩
      rw [cut_take, ← List.map_take]
      have e1 := Ex.new (o := .lst ((zs.take n1).map V.str)) hc
      have gc : upd H5 c (.lst ((zs.take n1).map V.str)) c = some (.lst ((zs.take n1).map V.str)) := upd_same
      generalize upd H5 c (.lst ((zs.take n1).map V.str)) = H6 at e1 gc
      refine ⟨.ref nm, rfl, .ref ct, rfl, ct, _, 0, .int (n1 : Int), rfl, rfl, sq_of (e1 _ _ hct.1), rfl, (n1 : Int), rfl, nm, _, rfl, sq_of (e1 _ _ hnm), fun re hre => ⟨.ref c, .ref re, rfl, ?_⟩⟩
      rw [cut_drop, ← List.map_drop]
      have e2 := e1.trans (Ex.new (o := .lst ((zs.drop n1).map V.str)) hre)
      have gc2 := Ex.new (o := .lst ((zs.drop n1).map V.str)) hre _ _ gc
      have gre : upd H6 re (.lst ((zs.drop n1).map V.str)) re = some (.lst ((zs.drop n1).map V.str)) := upd_same
      generalize upd H6 re (.lst ((zs.drop n1).map V.str)) = H7 at e2 gc2 gre
      refine ⟨.ref re, rfl, .ref ct, rfl, ct, _, 1, .int (n2 : Int), rfl, rfl, sq_of (e2 _ _ hct.1), rfl, (n2 : Int), rfl, re, _, rfl, sq_of gre, fun r hr' => ?_⟩
      rw [cut_take, ← List.map_take]
      have e3 := Ex.new (o := .lst (((zs.drop n1).take n2).map V.str)) hr'
      have gr : upd H7 r (.lst (((zs.drop n1).take n2).map V.str)) r = some (.lst (((zs.drop n1).take n2).map V.str)) := upd_same
      generalize upd H7 r (.lst (((zs.drop n1).take n2).map V.str)) = H8 at e3 gr
      refine ⟨.ref re, rfl, .ref ct, rfl, ct, _, 1, .int (n2 : Int), rfl, rfl, sq_of (e3 _ _ (e2 _ _ hct.1)), rfl, (n2 : Int), rfl, re, _, rfl, sq_of (e3 _ _ gre), fun o ho => ⟨.ref r, .ref o, rfl, ?_⟩⟩
      rw [cut_drop, ← List.map_drop]
      have e4 := e3.trans (Ex.new (o := .lst (((zs.drop n1).drop n2).map V.str)) ho)
      have gr2 := Ex.new (o := .lst (((zs.drop n1).drop n2).map V.str)) ho _ _ gr
      have go : upd H8 o (.lst (((zs.drop n1).drop n2).map V.str)) o = some (.lst (((zs.drop n1).drop n2).map V.str)) := upd_same
      generalize upd H8 o (.lst (((zs.drop n1).drop n2).map V.str)) = H9 at e4 gr2 go
      have gc4 := e4 _ _ gc2
      have pen9 := (pen.ex e2).ex e4
      have hall : zs.take n1 ++ (zs.drop n1).take n2 ++ (zs.drop n1).drop n2 = zs := by
        rw [List.append_assoc, List.take_append_drop, List.take_append_drop]
      have szs : (zs.take n1).length ≤ 40 ∧ ((zs.drop n1).take n2).length ≤ 40 ∧ ((zs.drop n1).drop n2).length ≤ 40 := by
        simp only [List.length_take, List.length_drop]
        omega
      generalize zs.take n1 = cs at *
      generalize (zs.drop n1).take n2 = rs at *
      generalize (zs.drop n1).drop n2 = os at *
      rw [← hall] at hT
      dsimp only [List.set]
      -- the start
      refine q_cut (M := M5 a p l (3000 - i * 400 - 270)) ?_ fun σA HA hM => ?_
      · have oc := strs_off pen9 gc4
        have orr := strs_off pen9 gr2
        have oo := strs_off pen9 go
        have fin : ∀ {st : Str} {H' H2 : Hp}, (st ∈ os ∨ st = "ab") → Px p l H9 H' → Ex H' H2 → Pen p l (3000 - i * 400 - 270) H2 → ∀ {w : Option V}, M5 a p l (3000 - i * 400 - 270) [some (.ref a), some (.ref p), t, some (.ref ct), some (.ref nm), some (.ref c), some (.ref re), some (.ref r), some (.ref o), some (.str st), v10, v11, v12] H2 := fun {st H' H2} hst px e pn {w} => by
          refine ⟨_, _, _, c, _, r, o, cs, rs, os, st, _, _, _, rfl, e _ _ (px.get oc.1 oc.2 gc4), e _ _ (px.get orr.1 orr.2 gr2), e _ _ (px.get oo.1 oo.2 go), szs, fun z hz => ?_, pn⟩
          rcases List.mem_cons.mp hz with h | h
          · rcases hst with k | k
            · exact hT z (by rw [h]; exact List.mem_append_right _ k)
            · rw [h, k]
              exact ⟨by decide +kernel, by decide +kernel⟩
          · exact hT z h
        refine ⟨.ref p, rfl, p, l, 3, 3000 - i * 400 - 261, rfl, ⟨by decide, by decide⟩, pen9.less (by omega), fun rr HB hrr pxB penB => ⟨rfl, _, rfl, ite2 (fun _ => ?_) (fun _ => ?_)⟩⟩
        · have goB := pxB.get oo.1 oo.2 go
          refine ⟨.ref p, rfl, .ref o, rfl, fits (show 1 ≤ 1000 by decide), fun q1 hq1 => ⟨o, q1, _, _, rfl, rfl, Ex.new hq1 _ _ goB, upd_same, ?_, fun q2 hq2 => ?_⟩⟩
          · rw [List.length_map]
            exact fits (show os.length + 1 ≤ 1000 by omega)
          have eB : Ex HB _ := (Ex.new (o := .lst [V.str "ab"]) hq1).trans (Ex.new (o := .lst (os.map V.str ++ [V.str "ab"])) hq2)
          have n2' := (penB.ex (Ex.new (o := .lst [V.str "ab"]) hq1)).new hq2
          refine ⟨p, l, q2, _, 3000 - i * 400 - 270, rfl, sq_of ((cut_at n2'.1 n2'.2).trans upd_same), ⟨by simp, by rw [List.length_append, List.length_map]; show os.length + 1 ≤ 1000000; omega⟩, (penB.ex eB).less (by omega), fun v HC hv pxC penC => ?_⟩
          have hst : ∃ st, v = .str st ∧ (st ∈ os ∨ st = "ab") := by
            rcases List.mem_append.mp hv with h | h
            · obtain ⟨z, hz, rfl⟩ := List.mem_map.mp h
              exact ⟨z, rfl, .inl hz⟩
            · rw [List.mem_singleton.mp h]
              exact ⟨_, rfl, .inr rfl⟩
          obtain ⟨st, rfl, hst⟩ := hst
          exact fin hst ((pxB.trans (Px.of eB)).trans pxC) (Ex.refl _) penC (w := none)
        · have goB := pxB.get oo.1 oo.2 go
          refine ⟨.ref o, rfl, fits (show 1 ≤ 1000 by decide), fun q1 hq1 => ⟨o, q1, _, _, rfl, rfl, Ex.new hq1 _ _ goB, upd_same, ?_, fun q2 hq2 => ?_⟩⟩
          · rw [List.length_map]
            exact fits (show os.length + 1 ≤ 1000 by omega)
          have eB : Ex HB _ := (Ex.new (o := .lst [V.str "ab"]) hq1).trans (Ex.new (o := .lst (os.map V.str ++ [V.str "ab"])) hq2)
          have hst : ∃ st, atI (os.map V.str ++ [V.str "ab"]) 0 = some (.str st) ∧ (st ∈ os ∨ st = "ab") := by
            cases os with
            | nil => exact ⟨_, rfl, .inr rfl⟩
            | cons z r => exact ⟨z, by exact atI_nat (j := 0) rfl, .inl List.mem_cons_self⟩
          obtain ⟨st, hat, hst⟩ := hst
          exact ⟨q2, _, 0, .str st, rfl, rfl, sq_of upd_same, hat, fin hst pxB eB ((penB.ex eB).less (by omega)) (w := none)⟩
      clear hct hnm nnc hlen pen pen9 gc gc2 gc4 gr gr2 go gre hall hT szs e1 e2 e3 e4
      obtain ⟨t, ct, nm, c, re, r, o, cs, rs, os, st, v10, v11, v12, rfl, gc, gr, go, szs, hT, pen⟩ := hM
      -- the body
      refine q_cut (M := M6 a p l (3000 - i * 400 - 280)) ?_ fun σB HB hM => ?_
      · have oc := strs_off pen gc
        have orr := strs_off pen gr
        have oo := strs_off pen go
        refine ⟨.ref p, rfl, p, l, 2, 3000 - i * 400 - 271, rfl, ⟨by decide, by decide⟩, pen.less (by omega), fun rr HB hrr px pn => ⟨rfl, _, rfl, ite2 (fun _ => ?_) (fun _ => ?_)⟩⟩
        · refine ⟨fits (show 1 ≤ 1000 by decide), fun t1 ht1 => ⟨fits (show 1 ≤ 1000 by decide), fun bd hbd => ?_⟩⟩
          have e : Ex HB _ := (Ex.new (o := .tup [V.str "fault"]) ht1).trans (Ex.new (o := .lst [V.ref t1]) hbd)
          refine ⟨_, _, _, c, _, r, o, cs, rs, os, st, bd, [t1], _, _, rfl, e _ _ (px.get oc.1 oc.2 gc), e _ _ (px.get orr.1 orr.2 gr), e _ _ (px.get oo.1 oo.2 go), szs, hT, (pn.ex e).less (by omega), .inr upd_same, (show 1 ≤ 10 by decide), fun x hx => ?_⟩
          rw [List.mem_singleton.mp hx]
          exact Ex.new hbd _ _ upd_same
        · refine ⟨fits (show 0 ≤ 1000 by decide), fun bd hbd => ?_⟩
          have e : Ex HB _ := Ex.new (o := .tup []) hbd
          exact ⟨_, _, _, c, _, r, o, cs, rs, os, st, bd, [], _, _, rfl, e _ _ (px.get oc.1 oc.2 gc), e _ _ (px.get orr.1 orr.2 gr), e _ _ (px.get oo.1 oo.2 go), szs, hT, (pn.ex e).less (by omega), .inl upd_same, by decide, fun x hx => nomatch hx⟩
      clear gc gr go szs hT pen v10 v11 v12
      obtain ⟨t, ct, nm, c, re, r, o, cs, rs, os, st, bd, bs, v11, v12, rfl, gc, gr, go, szs, hT, pen, gb, lb, hB⟩ := hM
      -- the functions
      refine ⟨.ref o, rfl, o, rfl, ⟨_, sq_of go⟩, fun D hD => ?_⟩
      refine lc_list (xs := os.map V.str) (fun j H' => ∃ fos : List Addr, fos.length = j ∧ (∀ (k : Nat) (f : Addr) (z : Str), fos[k]? = some f → os[k]? = some z → Fn K H' f z) ∧ H' D = some (.lst (fos.map V.ref)) ∧ Ex HB H')
        ⟨[], rfl, (fun k f z h => nomatch h), upd_same, Ex.new hD⟩ (fun j H' _ hJ => ?_) (fun j x H' hx hJ => ?_) (fun HC hJ => ?_)
      · obtain ⟨fos, e1, e2, e3, e4⟩ := hJ
        exact sq_of (e4 _ _ go)
      · obtain ⟨fos, e1, e2, e3, e4⟩ := hJ
        rw [List.getElem?_map] at hx
        cases w1 : os[j]? with
        | none =>
          rw [w1] at hx
          cases hx
        | some y =>
          rw [w1] at hx
          cases hx
          have hj := (List.getElem?_eq_some_iff.mp w1).1
          refine ⟨rfl, yes_go ⟨.str y, rfl, .ref bd, rfl, fun x dx hx hdx hne => ?_⟩⟩
          have hx2 : upd H' dx (.own x) x = none := (upd_ne (Ne.symm hne)).trans hx
          have e5 : Ex H' (upd (upd H' dx (.own x)) x (.ins (ga K "Function") dx [])) := (Ex.new hdx).trans (Ex.new hx2)
          have e6 := e4.trans e5
          refine ⟨x, y, bd, bs, dx, rfl, upd_same, gb.elim (fun h => .inl (e6 _ _ h)) (fun h => .inr (e6 _ _ h)), lb, hB.mono e6, fun H2 x2 hF => ⟨rfl, ?_⟩⟩
          have e7 : Ex H' H2 := Xa.new e5 hx x2
          refine ⟨_, e7 _ _ e3, ?_, fos ++ [x], ?_, ?_, ?_, (e4.trans e7).mut hD⟩
          · rw [List.length_map]
            exact small1000 (by omega)
          · rw [List.length_append, e1]
            rfl
          · intro k f z hk hz
            have hz2 : Fn K H2 f z := by
              rcases Nat.lt_or_ge k fos.length with h | h
              · rw [List.getElem?_append_left h] at hk
                exact (e2 k f z hk hz).mono e7
              · rw [List.getElem?_append_right h] at hk
                have k0 : k - fos.length = 0 := by
                  rcases Nat.eq_zero_or_pos (k - fos.length) with y0 | y0
                  · exact y0
                  · rw [List.getElem?_eq_none (show [x].length ≤ k - fos.length from y0)] at hk
                    cases hk
                rw [k0] at hk
                cases hk
                have k1 : k = j := by omega
                subst k1
                rw [w1] at hz
                cases hz
                exact hF
            obtain ⟨dx2, b, n, bs2, h1, h2, h3, h4⟩ := hz2
            have hDl := e7 _ _ e3
            refine ⟨dx2, b, n, bs2, (upd_ne ?_).trans h1, (upd_ne ?_).trans h2, h3, fun t ht => (upd_ne ?_).trans (h4 t ht)⟩
            · rintro rfl
              rw [hDl] at h1
              cases h1
            · rintro rfl
              rw [hDl] at h2
              cases h2
            · rintro rfl
              have y5 := h4 _ ht
              rw [hDl] at y5
              cases y5
          · rw [upd_same, List.map_append]
            rfl
      obtain ⟨fos, e1, e2, e3, e4⟩ := hJ
      rw [List.length_map] at e1
      have hF : Fns K HC fos os := ⟨e1, e2⟩
      have sh : short (cs ++ rs ++ os) := fun z hz => (hT z (List.mem_cons_of_mem _ hz)).1
      have lg : legal (st :: (cs ++ rs ++ os)) := fun z hz => (hT z hz).2
      refine ⟨.ref c, rfl, c, _, rfl, .inl (sq_of (e4 _ _ gc)), fun c2 hc2 => ?_⟩
      have k1 := Ex.new (o := .lst (cs.map V.str)) hc2
      refine ⟨.ref r, rfl, r, _, rfl, .inl (sq_of (k1 _ _ (e4 _ _ gr))), fun r2 hr2 => ?_⟩
      have k2 := k1.trans (Ex.new (o := .lst (rs.map V.str)) hr2)
      refine ⟨.ref D, rfl, .str st, rfl, c2, r2, D, cs, rs, os, st, fos, rfl, Ex.new hr2 _ _ upd_same, upd_same, k2 _ _ e3, hF.mono k2, szs, sh, fun q1 H1' g1 d1 => ?_⟩
      have k3 := e4.trans (k2.trans g1)
      refine ⟨.ref c, rfl, .ref r, rfl, .ref o, rfl, .str st, rfl, c, r, o, cs, rs, os, st, rfl, k3 _ _ gc, k3 _ _ gr, k3 _ _ go, szs, sh, lg, fun q2 H2' g2 d2 => ?_⟩
      have shp := shp_verdict cs rs os st (fun z hz => lg z (List.mem_cons_of_mem _ (List.mem_append_left _ (List.mem_append_left _ hz)))) (fun z hz => lg z (List.mem_cons_of_mem _ (List.mem_append_left _ (List.mem_append_right _ hz)))) (lg st List.mem_cons_self)
      refine ⟨_, _, dpM g2 _ _ d1, d2, shp, shp, _, rfl, ?_⟩
      rw [SeqAt.eqv_refl _ (SeqAt.canLay_of_shaped shp)]
      exact ite_ff ⟨_, _, _, _, _, _, _, _, _, _, _, rfl, ((pen.ex k3).ex g2).less (by omega)⟩
    · obtain ⟨v2, v3, v4, v5, v6, v7, v8, v9, v10, v11, v12, rfl, pen⟩ := hI
      exact s_ret ev_c fun H2 e2 => kk H2


end
end K02
set_option Elab.async false
set_option linter.all false
set_option maxRecDepth 100000
set_option maxHeartbeats 8000000

namespace K02
open PySem PySem.Spec PyProof.Rows L2 He XH XV XR PEN XT Evl
def steps : Nat := 60000
def fFields : List String := ["name", "body", "many"]
def cFields : List String := ["cells", "rows", "functions", "start"]

/-! ### the head -/
def fn : List He.DefD := [⟨("BadCode", some "__init__"), "__init__", "BadCode.__init__", defArgs s_BadCode_init, defBody s_BadCode_init, defScope s_BadCode_init, [], []⟩,
  ⟨("Function", some "__init__"), "__init__", "Function.__init__", defArgs s_Function_init, defBody s_Function_init, defScope s_Function_init, [], []⟩,
  ⟨("Code", some "__init__"), "__init__", "Code.__init__", defArgs s_Code_init, defBody s_Code_init, defScope s_Code_init, [], []⟩,
  ⟨("frozen", none), "frozen", "frozen", defArgs s_frozen, defBody s_frozen, defScope s_frozen, [], []⟩,
  ⟨("is_name", none), "is_name", "is_name", defArgs s_is_name, defBody s_is_name, defScope s_is_name, [], []⟩,
  ⟨("kinds_of", none), "kinds_of", "kinds_of", defArgs s_kinds_of, defBody s_kinds_of, defScope s_kinds_of, [], []⟩,
  ⟨("parts_of", none), "parts_of", "parts_of", defArgs s_parts_of, defBody s_parts_of, defScope s_parts_of, [], []⟩,
  ⟨("numbered", none), "numbered", "numbered", defArgs s_numbered, defBody s_numbered, defScope s_numbered, [], []⟩,
  ⟨("check_bounds", none), "check_bounds", "check_bounds", defArgs s_check_bounds, defBody s_check_bounds, defScope s_check_bounds, [], []⟩,
  ⟨("check_names", none), "check_names", "check_names", defArgs s_check_names, defBody s_check_names, defScope s_check_names, [], []⟩,
  ⟨("names_by_kind", none), "names_by_kind", "names_by_kind", defArgs s_names_by_kind, defBody s_names_by_kind, defScope s_names_by_kind, [], []⟩,
  ⟨("check_body", none), "check_body", "check_body", defArgs s_check_body, defBody s_check_body, defScope s_check_body, [], []⟩,
  ⟨("well_formed", none), "well_formed", "well_formed", defArgs s_well_formed, defBody s_well_formed, defScope s_well_formed, [], []⟩,
  ⟨("misplaced", none), "misplaced", "misplaced", defArgs s_misplaced, defBody s_misplaced, defScope s_misplaced, [], []⟩,
  ⟨("_law_draw", none), "_law_draw", "_law_draw", defArgs s_law_draw, defBody s_law_draw, defScope s_law_draw, [], []⟩,
  ⟨("_law_pick", none), "_law_pick", "_law_pick", defArgs s_law_pick, defBody s_law_pick, defScope s_law_pick, [], []⟩,
  ⟨("_law_word", none), "_law_word", "_law_word", defArgs s_law_word, defBody s_law_word, defScope s_law_word, [], []⟩,
  ⟨("_law_names", none), "_law_names", "_law_names", defArgs s_law_names, defBody s_law_names, defScope s_law_names, [], []⟩,
  ⟨("_law_name", none), "_law_name", "_law_name", defArgs s_law_name, defBody s_law_name, defScope s_law_name, [], []⟩,
  ⟨("_law_good", none), "_law_good", "_law_good", defArgs s_law_good, defBody s_law_good, defScope s_law_good, [], []⟩,
  ⟨("_law_due", none), "_law_due", "_law_due", defArgs s_law_due, defBody s_law_due, defScope s_law_due, [], []⟩,
  ⟨("_law_told", none), "_law_told", "_law_told", defArgs s_law_told, defBody s_law_told, defScope s_law_told, [], []⟩,
  ⟨("law", none), "law", "law", defArgs s_law, defBody s_law, defScope s_law, [], []⟩]
def fa : List Fc := [glosB globs, freesB frees, fun K => (Fa.int "MOST_CELLS" 3).ok K, fun K => (Fa.int "MOST_ROWS" 2).ok K, fun K => (Fa.int "MOST_FUNCTIONS" 3).ok K, fun K => (Fa.int "MOST_STATEMENTS" 14).ok K, fun K => (Fa.int "MOST_BLOCKS_AROUND" 2).ok K, fun K => (Fa.int "LONGEST_NAME" 12).ok K, fun K => (Fa.str "LETTERS" "abcdefghijklmnopqrstuvwxyz").ok K, fun K => (Fa.cls "Function").ok K, fun K => (Fa.cls "Code").ok K, fun K => fFields.all fun x => (Fa.noat "Function" x).ok K, fun K => cFields.all fun x => (Fa.noat "Code" x).ok K, fun K => (Fa.mkr "Function").ok K, fun K => (Fa.mkr "Code").ok K, fun K => ownB K "BadCode" ["function", "number"], fun K => bareB K "TooGreat", fun K => (Fa.exc "TooGreat").ok K, fun K => (Fa.exm "BadCode" "BadCode" true).ok K, fun K => (Fa.exm "TooGreat" "BadCode" false).ok K, fun K => (Fa.exm "TooGreat" "TooGreat" true).ok K, fun K => decide (PySem.W.kitOne K (.ref (ga K "BadCode")) (.ref (ga K "TryError")) = some true), fun K => decide (PySem.W.kitOne K (.ref (ga K "BadCode")) (.ref (ga K "TooGreat")) = some false), fun K => decide (PySem.W.kitOne K (.ref (ga K "TooGreat")) (.type "ValueError") = some true), fun K => decide (PySem.W.kitOne K (.ref (ga K "TooGreat")) (.ref (ga K "BadCode")) = some false), fun K => tupB K "ROUND_WORDS" [.str "again", .str "out"], fun K => emptyB K "ENTRIES" "fault", fun K => refB K "FIXED_WORDS" "how", fun K => refB K "FIXED_WORDS" "end"]
abbrev R : PySem.W.OpenRow := PySem.W.OpenLaw.row PySem.Challenge.rw_tryback_k02_names_refused
def tb : List Tab := [(fun K => ga K "ENTRIES", ["put", "blank", "give", "push", "pop", "cut", "answer", "deeper", "stop", "fault", "may", "again", "out", "either", "tries", "told", "look", "guard", "lastly"]),
  (fun K => ga K "FIXED_WORDS", ["how", "end"])]
abbrev hk : PySem.W.Hook := hookU 5 fa fn tb
def ob (s : PySem.W.SharedT) : AlU := obsUG 5 fa fn tb (HandSHeadRun.getT s)
theorem ob_eq (s : PySem.W.SharedT) : ob s = hk.obs s.abs := obsUG_eq (HandSHeadRun.getT_eq s)
def loose : List Str := [("BadCode" : Str), ("CHANGE_WORDS" : Str), ("Code" : Str), ("ENTRIES" : Str), ("FIXED_WORDS" : Str), ("Function" : Str), ("LETTERS" : Str), ("LONGEST_NAME" : Str), ("MOST_BLOCKS_AROUND" : Str), ("MOST_CELLS" : Str), ("MOST_FUNCTIONS" : Str), ("MOST_ROWS" : Str), ("MOST_STATEMENTS" : Str), ("ROUND_WORDS" : Str), ("TooGreat" : Str), ("TryError" : Str), ("__name__" : Str), ("_law_draw" : Str), ("_law_due" : Str), ("_law_good" : Str), ("_law_name" : Str), ("_law_names" : Str), ("_law_pick" : Str), ("_law_told" : Str), ("_law_word" : Str), ("_wall" : Str), ("check_body" : Str), ("check_bounds" : Str), ("check_names" : Str), ("fits" : Str), ("frozen" : Str), ("is_name" : Str), ("kinds_of" : Str), ("misplaced" : Str), ("names_by_kind" : Str), ("numbered" : Str), ("parts_of" : Str), ("well_formed" : Str)]
/-- the world with its one freedom that the top asks for set -/
def fix (w : World) (b : Bool) : World := { w with params := { w.params with followText := fun s => bif s == "special-get-raises" then b else w.params.followText s } }
theorem fix_eq (w : World) : fix w (w.params.followText "special-get-raises") = w := by
  have e : (fun s => bif s == "special-get-raises" then w.params.followText "special-get-raises" else w.params.followText s) = w.params.followText := by
    funext s
    cases h : s == "special-get-raises" with
    | true => rw [beq_iff_eq.mp h]; rfl
    | false => rfl
  unfold fix
  rw [e]
theorem run_t (w : World) : HandSHeadRun.RunEq R (PySem.W.view R.prog [40]) hk ob 60000 loose (fix w true) := by
  intro os
  kernel_rfl
theorem run_f (w : World) : HandSHeadRun.RunEq R (PySem.W.view R.prog [40]) hk ob 60000 loose (fix w false) := by
  intro os
  kernel_rfl
theorem run (w : World) : HandSHeadRun.RunEq R (PySem.W.view R.prog [40]) hk ob 60000 loose w := by
  rw [← fix_eq w]
  cases w.params.followText "special-get-raises" with
  | true => exact run_t w
  | false => exact run_f w

theorem facts {P : Program} {w : World} {K : PySem.W.Frag} {h : Heap} {mg : Str → Option Value} {f : Addr} (X : K.In h) (G : h.Ns mainGlobals mg) (hfa : mg ("law" : Str) = some (.ref f)) (cu : SaysU fa fn tb w K) :
    ∃ fd : FuncData, (∀ (s : Shared) (v : Value), BindsTo s fd ⟨[v], []⟩ [("_law_script", v)]) ∧ ∀ base : Heap, K.In base → base.Ns mainGlobals mg → FnOk P w K mg base CX0 8 f fd ["_law_script"] (spLaw K) := by
  have c := cu.b
  obtain ⟨es1, n1, D1⟩ := cu.at 0 rfl
  obtain ⟨es2, n2, D2⟩ := cu.at 1 rfl
  obtain ⟨ae, he1, he2⟩ := emptyB_ok (c.fact 26 rfl)
  obtain ⟨a1, hf1⟩ := refB_ok (c.fact 27 rfl)
  obtain ⟨a2, hf2⟩ := refB_ok (c.fact 28 rfl)
  have T0 : Txt K w mg := {
    gl := fun x hx => glos_ok X G (c.fact 0 rfl) x hx
    fr := fun x hx => frees_ok X G (c.fact 1 rfl) x hx
    c_MOST_CELLS := int_ok X G (c.fact 2 rfl)
    c_MOST_ROWS := int_ok X G (c.fact 3 rfl)
    c_MOST_FUNCTIONS := int_ok X G (c.fact 4 rfl)
    c_MOST_STATEMENTS := int_ok X G (c.fact 5 rfl)
    c_MOST_BLOCKS_AROUND := int_ok X G (c.fact 6 rfl)
    c_LONGEST_NAME := int_ok X G (c.fact 7 rfl)
    c_LETTERS := str_ok X G (c.fact 8 rfl) }
  have T1 : Tx K w mg := { T0 with
    en := ⟨es1, n1, ae, D1, he1, he2⟩
    fx := ⟨es2, n2, a1, a2, D2, hf1, hf2⟩
    ro := fun H => tupB_ok (c.fact 25 rfl) H
    cf := cls_ok (c.fact 9 rfl)
    cc := cls_ok (c.fact 10 rfl)
    nf := fun x hx => noat_ok (List.all_eq_true.mp (c.fact 11 rfl) x hx)
    nc := fun x hx => noat_ok (List.all_eq_true.mp (c.fact 12 rfl) x hx)
    mf := mkr_ok (c.fact 13 rfl)
    mc := mkr_ok (c.fact 14 rfl)
    bc := own_ok (c.fact 15 rfl)
    tg := bare_ok (c.fact 16 rfl)
    ty := (exc_ok (c.fact 17 rfl)).2.2.2 }
  have T : Tz K w mg := { T1 with
    m1 := exm_ok (c.fact 18 rfl)
    m2 := exm_ok (c.fact 19 rfl)
    m3 := exm_ok (c.fact 20 rfl)
    i1 := of_decide_eq_true (c.fact 21 rfl)
    i2 := of_decide_eq_true (c.fact 22 rfl)
    i3 := of_decide_eq_true (c.fact 23 rfl)
    i4 := of_decide_eq_true (c.fact 24 rfl) }
  obtain ⟨d0, F0⟩ := c.def_ 0 rfl
  obtain ⟨d1, F1⟩ := c.def_ 1 rfl
  obtain ⟨d2, F2⟩ := c.def_ 2 rfl
  obtain ⟨d3, F3⟩ := c.def_ 3 rfl
  obtain ⟨d4, F4⟩ := c.def_ 4 rfl
  obtain ⟨d5, F5⟩ := c.def_ 5 rfl
  obtain ⟨d6, F6⟩ := c.def_ 6 rfl
  obtain ⟨d7, F7⟩ := c.def_ 7 rfl
  obtain ⟨d8, F8⟩ := c.def_ 8 rfl
  obtain ⟨d9, F9⟩ := c.def_ 9 rfl
  obtain ⟨d10, F10⟩ := c.def_ 10 rfl
  obtain ⟨d11, F11⟩ := c.def_ 11 rfl
  obtain ⟨d12, F12⟩ := c.def_ 12 rfl
  obtain ⟨d13, F13⟩ := c.def_ 13 rfl
  obtain ⟨d14, F14⟩ := c.def_ 14 rfl
  obtain ⟨d15, F15⟩ := c.def_ 15 rfl
  obtain ⟨d16, F16⟩ := c.def_ 16 rfl
  obtain ⟨d17, F17⟩ := c.def_ 17 rfl
  obtain ⟨d18, F18⟩ := c.def_ 18 rfl
  obtain ⟨d19, F19⟩ := c.def_ 19 rfl
  obtain ⟨d20, F20⟩ := c.def_ 20 rfl
  obtain ⟨d21, F21⟩ := c.def_ 21 rfl
  obtain ⟨d22, F22⟩ := c.def_ 22 rfl
  have e := hfa.symm.trans (T.gl "law" (by decide +kernel))
  cases e
  have b := FunD.bindsA (ps := ["_law_script"]) F22 fun _ _ _ _ _ _ us hl => match us, hl with | [_], _ => rfl
  refine ⟨d22, fun s v => b s [v] rfl, fun base _ _ => ?_⟩
  have c_bi : Cl P w K mg base CX0 1 (ma K (ga K "BadCode") "__init__") ["self", "function", "number"] (spI2 K (ga K "BadCode") "function" "number") := ⟨d0, ok_BadCode_init F0, FunD.bindsN (ps := ["self", "function", "number"]) F0 fun _ _ _ _ _ _ us hl => match us, hl with | [_, _, _], _ => rfl, F0.kp⟩
  have c_isn : Cl P w K mg base CX0 1 (ga K "is_name") ["word"] spIsName := ⟨d4, ok_is_name F4 T1, FunD.bindsN (ps := ["word"]) F4 fun _ _ _ _ _ _ us hl => match us, hl with | [_], _ => rfl, F4.kp⟩
  have c_f0 : Cl P w K mg base CX0 1 (ga K "frozen") ["thing"] spFz0 := ⟨d3, ok_frozen0 F3 T1, FunD.bindsN (ps := ["thing"]) F3 fun _ _ _ _ _ _ us hl => match us, hl with | [_], _ => rfl, F3.kp⟩
  have c_f1 : Cl P w K mg base CX0 2 (ga K "frozen") ["thing"] (spFz1 K) := ⟨d3, ok_frozen1 F3 T1 c_f0, FunD.bindsN (ps := ["thing"]) F3 fun _ _ _ _ _ _ us hl => match us, hl with | [_], _ => rfl, F3.kp⟩
  have c_f2 : Cl P w K mg base CX0 3 (ga K "frozen") ["thing"] (spFz2 K) := ⟨d3, ok_frozen2 F3 T1 c_f1, FunD.bindsN (ps := ["thing"]) F3 fun _ _ _ _ _ _ us hl => match us, hl with | [_], _ => rfl, F3.kp⟩
  have c_kinds : Cl P w K mg base CX0 1 (ga K "kinds_of") ["statement"] (spKinds K) := ⟨d5, ok_kinds_of F5 T1, FunD.bindsN (ps := ["statement"]) F5 fun _ _ _ _ _ _ us hl => match us, hl with | [_], _ => rfl, F5.kp⟩
  have c_parts : Cl P w K mg base CX0 2 (ga K "parts_of") ["statement"] (spParts K) := ⟨d6, ok_parts_of F6 T1 c_kinds, FunD.bindsN (ps := ["statement"]) F6 fun _ _ _ _ _ _ us hl => match us, hl with | [_], _ => rfl, F6.kp⟩
  have c_numb : Cl P w K mg base CX0 3 (ga K "numbered") ["body", "around"] (spNumb K) := ⟨d7, ok_numbered F7 T1 c_parts, FunD.bindsN (ps := ["body", "around"]) F7 fun _ _ _ _ _ _ us hl => match us, hl with | [_, _], _ => rfl, F7.kp⟩
  have c_fi : Cl P w K mg base CX0 4 (ma K (ga K "Function") "__init__") ["self", "name", "body"] (spFI K) := ⟨d1, ok_Function_init F1 T1 c_f2 c_numb, FunD.bindsN (ps := ["self", "name", "body"]) F1 fun _ _ _ _ _ _ us hl => match us, hl with | [_, _, _], _ => rfl, F1.kp⟩
  have c_well : Cl P w K mg base CX0 2 (ga K "well_formed") ["statement", "names"] spWell := ⟨d12, ok_well_formed F12 T1 c_kinds, FunD.bindsN (ps := ["statement", "names"]) F12 fun _ _ _ _ _ _ us hl => match us, hl with | [_, _], _ => rfl, F12.kp⟩
  have c_mis : Cl P w K mg base CX0 1 (ga K "misplaced") ["word", "around"] spMis := ⟨d13, ok_misplaced F13 T1, FunD.bindsN (ps := ["word", "around"]) F13 fun _ _ _ _ _ _ us hl => match us, hl with | [_, _], _ => rfl, F13.kp⟩
  have c_byk : Cl P w K mg base CX0 1 (ga K "names_by_kind") ["code"] (spByKind K) := ⟨d10, ok_names_by_kind F10 T1, FunD.bindsN (ps := ["code"]) F10 fun _ _ _ _ _ _ us hl => match us, hl with | [_], _ => rfl, F10.kp⟩
  have c_body : Cl P w K mg base CX0 4 (ga K "check_body") ["function", "names"] (spBody K) := ⟨d11, ok_check_body F11 T1 c_numb c_well c_mis c_parts, FunD.bindsN (ps := ["function", "names"]) F11 fun _ _ _ _ _ _ us hl => match us, hl with | [_, _], _ => rfl, F11.kp⟩
  have c_bnd : Cl P w K mg base (L2.CX P w) 1 (ga K "check_bounds") ["code"] (spBounds K) := ⟨d8, ok_check_bounds F8 T1, FunD.bindsN (ps := ["code"]) F8 fun _ _ _ _ _ _ us hl => match us, hl with | [_], _ => rfl, F8.kp⟩
  have c_chk : Cl P w K mg base (L2.CX P w) 3 (ga K "check_names") ["code"] (spChk K) := ⟨d9, ok_check_names F9 T1 c_isn c_bi, FunD.bindsN (ps := ["code"]) F9 fun _ _ _ _ _ _ us hl => match us, hl with | [_], _ => rfl, F9.kp⟩
  have c_ci : Cl P w K mg base (L2.CX P w) 5 (ma K (ga K "Code") "__init__") ["self", "cells", "rows", "functions", "start"] (spCI K) := ⟨d2, ok_Code_init F2 T1 c_bnd c_chk c_byk c_body, FunD.bindsN (ps := ["self", "cells", "rows", "functions", "start"]) F2 fun _ _ _ _ _ _ us hl => match us, hl with | [_, _, _, _, _], _ => rfl, F2.kp⟩
  have c_draw : Cl P w K mg base CX0 1 (ga K "_law_draw") ["_law_pen", "_law_many"] spDraw := ⟨d14, ok_law_draw F14 T0, FunD.bindsN (ps := ["_law_pen", "_law_many"]) F14 fun _ _ _ _ _ _ us hl => match us, hl with | [_, _], _ => rfl, F14.kp⟩
  have c_pick : Cl P w K mg base CX0 2 (ga K "_law_pick") ["_law_pen", "_law_row"] (spPick K) := ⟨d15, ok_law_pick F15 T0 c_draw, FunD.bindsN (ps := ["_law_pen", "_law_row"]) F15 fun _ _ _ _ _ _ us hl => match us, hl with | [_, _], _ => rfl, F15.kp⟩
  have c_word : Cl P w K mg base CX0 2 (ga K "_law_word") ["_law_pen", "_law_most"] spWord := ⟨d16, ok_law_word F16 T0 c_draw, FunD.bindsN (ps := ["_law_pen", "_law_most"]) F16 fun _ _ _ _ _ _ us hl => match us, hl with | [_, _], _ => rfl, F16.kp⟩
  have c_names : Cl P w K mg base CX0 3 (ga K "_law_names") ["_law_pen", "_law_many"] (spNames K) := ⟨d17, ok_law_names F17 T0 c_draw c_word, FunD.bindsN (ps := ["_law_pen", "_law_many"]) F17 fun _ _ _ _ _ _ us hl => match us, hl with | [_, _], _ => rfl, F17.kp⟩
  have c_name : Cl P w K mg base CX0 3 (ga K "_law_name") ["_law_pen", "_law_good_here"] spName := ⟨d18, ok_law_name F18 T1 c_draw c_pick, FunD.bindsN (ps := ["_law_pen", "_law_good_here"]) F18 fun _ _ _ _ _ _ us hl => match us, hl with | [_, _], _ => rfl, F18.kp⟩
  have c_good : Cl P w K mg base CX0 1 (ga K "_law_good") ["_law_name_here"] spGood := ⟨d19, ok_law_good F19 T1, FunD.bindsN (ps := ["_law_name_here"]) F19 fun _ _ _ _ _ _ us hl => match us, hl with | [_], _ => rfl, F19.kp⟩
  have c_due : Cl P w K mg base CX0 2 (ga K "_law_due") ["_law_cells", "_law_rows", "_law_order", "_law_start"] (spDue K) := ⟨d20, ok_law_due F20 T1 c_good, FunD.bindsN (ps := ["_law_cells", "_law_rows", "_law_order", "_law_start"]) F20 fun _ _ _ _ _ _ us hl => match us, hl with | [_, _, _, _], _ => rfl, F20.kp⟩
  have c_told : Cl P w K mg base CX0 7 (ga K "_law_told") ["_law_cells", "_law_rows", "_law_functions", "_law_start"] (spTold K) := ⟨d21, ok_law_told F21 T c_ci, FunD.bindsN (ps := ["_law_cells", "_law_rows", "_law_functions", "_law_start"]) F21 fun _ _ _ _ _ _ us hl => match us, hl with | [_, _, _, _], _ => rfl, F21.kp⟩
  exact ok_law F22 T1 c_draw c_pick c_names c_name c_fi c_told c_due
end K02

open PySem PySem.W PySem.Calls PyProof.Rows
theorem PySem.Challenge.cw_tryback_k02_names_refused_holds : PySem.Challenge.rw_tryback_k02_names_refused.Holds := by
  w_on; o_law
  refine HandSHeadRun.head_any (r := OpenLaw.row PySem.Challenge.rw_tryback_k02_names_refused) (q := view (OpenLaw.row PySem.Challenge.rw_tryback_k02_names_refused).prog [40]) (H := K02.hk) (ob := K02.ob) (M := K02.steps) (loose := K02.loose) (d := HandSHeadRun.topDef (OpenLaw.row PySem.Challenge.rw_tryback_k02_names_refused).prog 40) (kwd := []) K02.ob_eq
    (by kernel_rfl) (fun s => by kernel_rfl) K02.run (by kernel_rfl) (by kernel_rfl) (by kernel_rfl) (by rfl) (by first | assumption | decide +kernel) (by decide +kernel) ⟨rfl, rfl, rfl, rfl, rfl, by decide +kernel⟩ ?hw ?hc
  case hw => w_witness2
  case hc =>
    refine L2.walk_ofE (l := PySem.Challenge.rw_tryback_k02_names_refused) (n := 63) (k := 8) (x := "_law_script") (CX := L2.CX0) rfl (by decide) (by kernel_rfl) ⟨rfl, by decide, by decide⟩ ?F (fun _ _ _ _ z => z)
    intro w mg fa h Y G hmg0
    obtain ⟨K, KX, c⟩ := Y
    have hmg : mg ("law" : PySem.Str) = some (.ref fa) := by
      have e : (HandSHeadRun.topDef (OpenLaw.row PySem.Challenge.rw_tryback_k02_names_refused).prog 40).name = ("law" : PySem.Str) := by kernel_rfl
      rw [← e]
      exact hmg0
    obtain ⟨fd, hb, hF⟩ := K02.facts (P := (PySem.Challenge.rw_tryback_k02_names_refused).prog) (w := w) KX G hmg c
    exact ⟨K, fd, K02.spLaw K, KX, hb, fun H a ns hl _ hS => ⟨a, ns, rfl, hS, hl, fun _ => rfl⟩, hF⟩

