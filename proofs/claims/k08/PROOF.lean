import PyProof.Rows.All
import Wide.All
import OpenK.AllK
import Wide.FinOn
import KE.KIsAll
import KE.KTryMore
import HandS.ForMost
import HandS.ForExc
import HandS.ExcInit
import HandS.ExcIs
import HandS.ExcValue
import HandS.ExcField
import HandS.IsInst
import HandS.Evl
import HandS.Defaults
import HandS.Head0
import HandS.Head1
import HandS.Head2
import HandS.HeadEnd
import HandS.HeadHook1
import HandS.HeadHook2
import HandS.Iter
import HandS.Dict
import HandS.More
import HandS.HeadHook3
import HandS.TryMany
import HandS.TupAny
import HandS.Star
import HandS.Zip
import HandS.Steps
import HandS.Walk
import HandS.Flow
import HandS.ExcOwn
import HandS.SortKw
import HandS.Style
import HandS.FStr
import HandS.Small
import KE.DataMinMax
import KE.DatumOrd
import KE.DataCmp
import PySem.Challenge.RW_tryback_k08_puzzles_refused
set_option Elab.async false
set_option linter.all false
set_option maxRecDepth 100000
set_option maxHeartbeats 4000000
/-! Own exceptions as values: made, their fields read, asked for their class. -/
namespace XV
open PySem PySem.Spec PyProof.Rows L2

/-! ### the class of such a value -/
theorem dataFound {K : PySem.W.Frag} {C : Addr} {od : Option Obj} {n : Str} {a g : Value} (hc : (PySem.W.clsIn K C).isSome = true) (ha : PySem.W.findIn K (.ref C) n = some (some a))
    (hg : PySem.W.specialIn K a "__get__" = some (some g)) (ht : PySem.W.takesIn K a = some true) : PySem.W.findObj K C od n = some (.bind g a) := by
  cases od with
  | none => exact PySem.W.findObj_dataN hc ha hg ht
  | some o => exact PySem.W.findObj_data hc ha hg ht

section
variable {prog : Program} {w : World} {A : Around} {E : Value → Shared → Prop} {sh : Shared} {K : PySem.W.Frag} {e D : Addr} {oe : Obj} {od : Option Obj}
theorem askCls {R : Option Value → Shared → Prop} (T : ExcC K D) (KI : K.In sh.heap) (J : PySem.W.InstAt sh.heap e oe D od) (r : R (some (.ref D)) { sh with toks := sh.toks + 1 }) :
    wpAny (model prog w) A (getAttr? (.ref e) "__class__") R E sh := by
  obtain ⟨t1, t2, t3, t4, t5, t6, t7, t8⟩ := T
  have some' : (PySem.W.clsIn K D).isSome = true := by
    obtain ⟨cd, z, _⟩ := PySem.W.any_some t4
    rw [z]
    rfl
  have fd := dataFound (od := od) some' t5 t6 t7
  obtain ⟨hh, gs, dr, tk, os⟩ := sh
  have ty := J.type (M := model prog w)
  have l1 := PySem.W.looks_findIn (M := model prog w) KI t1
  have l2 := PySem.W.looks_findIn (M := model prog w) KI t2
  have l3 := PySem.W.looks_find (M := model prog w) KI J fd
  have isB : PySem.W.Looks (model prog w) hh (isInstance (.ref e) (.type "BaseException")) true := ty.andThen (PySem.W.looks_subIn KI t3)
  have z0 : (false && onTheHeap (Value.builtin "BaseException.__getattribute__")) = false := rfl
  have z2 : (Value.builtin "BaseException.__getattribute__" == Value.builtin "object.__getattribute__") = false := by decide +kernel
  have z1 : (onTheHeap (Value.ref D) && Value.builtin "BaseException.__getattribute__" == Value.builtin "object.__getattribute__") = false := by rw [z2]; rfl
  unfold getAttr?
  unfold getAttrBy?
  unfold getAttrBy
  refine wpAny_bind (wpAny_mkText (wpAny_bind (wpAny_attempt (wpAny_holding (wpAny_bind (ty.at (wpAny_bind (l1.at ?_))))))))
  show wpAny _ _ (if (onTheHeap (Value.ref D) && Value.builtin "BaseException.__getattribute__" == Value.builtin "object.__getattribute__") = true then _ else _) _ _ _
  rw [z1, if_neg Bool.false_ne_true]
  unfold getAttrByItsOwn
  unfold hookBefore
  refine wpAny_bind ?_
  rw [if_pos (show onTheHeap (Value.ref D) = true from rfl)]
  refine l2.at ?_
  refine wpAny_bind (wpAny_attempt (wpAny_holding ?_))
  unfold callGetattribute
  rw [z0, if_neg Bool.false_ne_true]
  unfold boundAndCalled
  rw [PySem.F.excAttr_ValueError.ga.bind (.ref e)]
  refine wpAny_bind (wpAny_pure ?_)
  show wpAny _ _ (call (.builtin "BaseException.__getattribute__") [.ref e, .str "__class__" tk]) _ _ _
  refine wpAny_call (codeAny_call_builtin PySem.F.excAttr_ValueError.ga.plain PySem.F.entry_bexc_ga ?_)
  refine @PySem.W.check_slot (model prog w) _ _ ⟨hh, gs, dr, tk + 1, os⟩ "BaseException.__getattribute__" "BaseException" "__getattribute__" (.ref e) [.str "__class__" tk] [] _ (by decide +kernel) (by decide +kernel) isB (PySem.F.args_bexc_ga (.ref e) (.str "__class__" tk)) ?_
  unfold Builtin.«object.__getattribute__»
  refine wpAny_bind (wpAny_of_eq (a := ((Value.ref e : Value), [Value.str "__class__" tk])) (by first | rfl | (simp only [Builtin.slotArgs]; rfl)) ?_)
  refine wpAny_bind (wpAny_pure (wpAny_bind (ty.at (wpAny_bind (l3.at ?_)))))
  show wpAny _ _ (holding [Value.builtin "object.__class__"] (call (.builtin "getset_descriptor.__get__") [.builtin "object.__class__", .ref e, .ref D]) >>= ret) _ _ _
  refine wpAny_bind (wpAny_holding (wpAny_call (PySem.W.class_get (s := ⟨hh, gs, dr, tk + 1, os⟩) (ox := oe) (od := od) KI J t8 ?_)))
  refine wpAny_pure ?_
  show wpAny _ _ (handedOut (.ref D)) _ _ _
  rw [PySem.W.handedOut_of (v := .ref D) rfl]
  first
    | exact wpAny_pure (wpAny_pure r)
    | exact wpAny_pure r
    | exact wpAny_pure (wpAny_bind (wpAny_pure (wpAny_pure r)))
theorem kitOf (T : ExcC K D) : PySem.W.KitX K (.ref e) (.ref D) (fun h => PySem.W.InstAt h e oe D od) := by
  obtain ⟨cd, hc, _⟩ := PySem.W.any_some T.hd
  unfold PySem.W.clsIn at hc
  split at hc
  · rename_i c' d' cd' sl' lk
    refine ⟨fun _ _ _ J => J.type, fun M h KI _ A' Q' E' s' k q => ?_, fun h tp dd its n sl KI htp => ?_, fun KI J r => askCls T KI J r⟩
    · unfold isType loadHead
      exact wpAny_bind (wpAny_loadPart (k _ _ (KI _ _ lk)) (wpAny_pure q))
    · refine Bool.eq_false_iff.mpr fun q => ?_
      have e1 : D = tp := Value.ref.inj (beq_iff_eq.mp q)
      rw [← e1] at htp
      have z := (KI _ _ lk).symm.trans htp
      cases z
  · cases hc
end

/-! ### what is tracked of an exception -/
/-- at a: an exception of the class at C that has the fields fs -/
def ExF (H : Hp) (a C : Addr) (fs : List (Str × V)) : Prop := ∃ d, H a = some (exo a C (some d)) ∧ H d = some (exd d fs)
/-- at a: an exception of the class at C -/
def ExAt (H : Hp) (a C : Addr) : Prop := (∃ fs, ExF H a C fs) ∨ H a = some (exo a C none)
theorem ExF.at {H : Hp} {a C : Addr} {fs : List (Str × V)} (h : ExF H a C fs) : ExAt H a C := .inl ⟨fs, h⟩
theorem ExF.mono {H H' : Hp} {a C : Addr} {fs : List (Str × V)} (k : Evl.Ex H H') (h : ExF H a C fs) : ExF H' a C fs := by
  obtain ⟨d, h1, h2⟩ := h
  exact ⟨d, k _ _ h1, k _ _ h2⟩
theorem ExAt.mono {H H' : Hp} {a C : Addr} (k : Evl.Ex H H') (h : ExAt H a C) : ExAt H' a C := by
  rcases h with ⟨fs, h⟩ | h
  · exact .inl ⟨fs, h.mono k⟩
  · exact .inr (k _ _ h)
theorem inst_of {X : Cx} {pins : List (Addr × Obj)} {σ : L2.St} {H : Hp} {s : Shared} {a C : Addr} (I : Inv X pins σ H s) (h : ExAt H a C) : ∃ oe od, PySem.W.InstAt s.heap a oe C od := by
  rcases h with ⟨fs, d, h1, h2⟩ | h
  · obtain ⟨t, ho⟩ := exo_at I.hok h1
    obtain ⟨mA, ⟨oD, es, ep, hD, _⟩, _⟩ := exd_at I.hok h2
    exact ⟨_, some oD, ho, rfl, rfl, hD⟩
  · obtain ⟨t, ho⟩ := exo_at I.hok h
    exact ⟨_, none, ho, rfl, rfl, True.intro⟩

/-! ### isinstance(e, c) -/
def rIsX (K : PySem.W.Frag) : List V → Hp → VK → Prop := fun xs H Q => ∃ (a C : Addr) (c : V) (cv : Value) (b : Bool), xs = [.ref a, c] ∧ ExAt H a C ∧ ExcC K C ∧ ClsV c cv ∧ PySem.W.kitOne K (.ref C) cv = some b ∧ Q (.bl b) H
theorem call_isX {X : Cx} : CallR X (.builtin "isinstance") (rIsX X.K) := by
  intro pins s σ H xs us Q I r h
  obtain ⟨a, C, c, cv, b, rfl, hx, T, kc, e, q⟩ := h
  obtain ⟨u1, u2, rfl, r1, r2⟩ := vals2 r
  cases (show u1 = Value.ref a from r1)
  have e2 := kc.eq r2
  subst e2
  obtain ⟨oe, od, J⟩ := inst_of I hx
  exact PySem.W.kia_one (kitOf T) I.kIn J e (fun z => nomatch z) fun tk => ⟨.bl b, H, I.tok tk, rfl, q⟩

/-! ### e.f -/
def tXv (K : PySem.W.Frag) (f : Str) (te : TE) : TE := fun σ H Q => te σ H fun x H1 => ∃ (a C d : Addr) (fs : List (Str × V)) (v : V), x = .ref a ∧ H1 a = some (exo a C (some d)) ∧ H1 d = some (exd d fs) ∧ XfC K C ∧ PySem.W.findIn K (.ref C) f = some none ∧ fs.lookup f = some v ∧ Q v H1
theorem pe_xv {X : Cx} {e : Expr} {te : TE} {pos : Pos} {f : Str} (he : PE X e te) (hb : attributeBase e f X.env (eval e X.env) = eval e X.env := by rfl) : PE X (.Attribute e f pos) (tXv X.K f te) := by
  refine ⟨fun pins s σ H Q I h => ?_⟩
  refine attr_of hb (thn (he.run pins s σ H _ I h) fun u s1 ⟨x, H1, I1, rx, a, C, d, fs, v, ex, ha, hd, T, hno, l, q⟩ => ?_)
  subst ex
  cases (show u = Value.ref a from rx)
  obtain ⟨t, ho⟩ := exo_at I1.hok ha
  obtain ⟨mA, hns, hr⟩ := exd_at I1.hok hd
  obtain ⟨oD, hoD, hl⟩ := lookIn_ns hns
  obtain ⟨u', hu, ru⟩ := RelO.some_of (v := v) (o := mA f) (by rw [← l]; exact hr f)
  have J : PySem.W.InstAt s1.heap a _ C (some oD) := ⟨ho, rfl, rfl, hoD⟩
  exact HandSPX.exc_get I1.kIn J T.ga T.gg T.exC (PySem.W.findObj_own T.hdC hno rfl (by rw [hl, hu])) (handed_of ru) ⟨v, H1, I1.tok _, ru, q⟩

/-! ### C(e, ..), C's own __init__ keeping sp; C() without one -/
def tMkV (C : Addr) (sp : Sp) (ta : TA) : TE := fun σ H Q => ta σ H fun vs H1 => vs.length ≤ 1000 ∧ ∀ a, H1 a = none → sp (.ref a :: vs) (upd H1 a (exo a C none)) (fun v H2 => v = .non ∧ Q (.ref a) H2) E0
section
variable {X : Cx} {e : Expr} {es : List Expr} {ta : TA} {p pos : Pos} {x : Str} {C fI : Addr} {k : Nat} {fd : FuncData} {ps : List Str} {sp : Sp}
theorem pe_mkv (T : OexC X.K C) (iC : PySem.W.findIn X.K (.ref C) "__init__" = some (some (.ref fI))) (tI : PySem.W.typeIn X.K (.ref fI) = some (.type "function")) (F1 : FnOk X.prog X.w X.K X.mg X.base CX0 k fI fd ps sp)
    (hr : Room (k + 1) X.A) (hb : Binds X.K fd ps []) (hg : Gl X x) (hm : X.mg x = some (.ref C)) (ha : PA X (e :: es) ta)
    (hdb : (x == ("__debug__" : Str)) = false := by decide) (he : starEach (e :: es) X.env = (false, eval e X.env) :: starEach es X.env := by rfl) (hpl : (backTo pos (starEach es X.env)).any (·.1) = false := by rfl) :
    PE X (.Call (.Name x p) (e :: es) [] pos) (tMkV C sp ta) := by
  refine ⟨fun pins s σ H Q I h => ?_⟩
  obtain ⟨nm, q, N, bs, bm, sn, sub, ab, col, dd, k0, k1, k2, k3, k5, lC, lB⟩ := T.cls
  refine wpAny_Call_Name_kw (ld_glob I hg hm ?_ hdb)
  refine PySem.W.callWith_K (h₀ := X.base) I.ok.mod.kin T.kC (thn (ha.run pos pins s σ H _ I h) fun us s1 ⟨vs, H1, I1, r1, hz, q1⟩ => ⟨I1.kIn, ?_⟩) he hpl
  show wpAny _ _ (call (.ref C) us) _ _ _
  obtain ⟨hh, g, dr, tk, os⟩ := s1
  have top : hh.objs.size ≤ hh.objs.size + 1 := Nat.le_succ _
  have w0 := q1 (hh.objs.size + 1) (I1.hok.fresh top)
  have old : ∀ b o, hh.get? b = some o → ((hh.push (PySem.W.kdv_tup us)).push (PySem.HandSPX.excO C hh.objs.size)).get? b = some o := fun b o z => Heap.get?_push_of_some _ (Heap.get?_push_of_some _ z)
  have made : ((hh.push (PySem.W.kdv_tup us)).push (PySem.HandSPX.excO C hh.objs.size)).get? (hh.objs.size + 1) = some (PySem.HandSPX.excO C hh.objs.size) := by heap_get
  have J : Inv X pins σ (upd H1 (hh.objs.size + 1) (exo (hh.objs.size + 1) C none)) ⟨(hh.push (PySem.W.kdv_tup us)).push (PySem.HandSPX.excO C hh.objs.size), g, dr, tk, os⟩ :=
    I1.laid (t' := tk) old top (exo_ok made)
  have rv : Vals (V.ref (hh.objs.size + 1) :: vs) (Value.ref (hh.objs.size + 1) :: us) := .cons rfl r1
  have hl : (Value.ref (hh.objs.size + 1) :: us ++ []).length = ps.length := by
    have z := rv.length
    rw [F1.len _ _ _ _ w0] at z
    rw [List.append_nil]
    exact z.symm
  have hus : us.length ≤ sizeLine := by
    rw [← Paired.length r1, sizeLine_eq]
    omega
  have bd := hb ⟨(hh.push (PySem.W.kdv_tup us)).push (PySem.HandSPX.excO C hh.objs.size), g, dr, tk, os⟩ (Value.ref (hh.objs.size + 1) :: us) J.kIn hl
  rw [List.append_nil] at bd
  have F1' := F1.run _ X.stack _ _ ⟨Value.ref (hh.objs.size + 1) :: us, []⟩ (Value.ref (hh.objs.size + 1) :: us) _ _ E0 (hr.make C us []) (J.env0.make C us []) bd rv w0
  refine wpAny_call (PySem.HandSPX.call_own F.excBase_ValueError (fun Y => PySem.HandSPX.refsVE_contains Y bm lB) (I1.kIn _ _ lC) (PySem.W.looks_findIn I1.kIn iC) (fun self => PySem.W.bind_fn I1.kIn self tI) hus
    (codeAny_mono F1' fun r s' hq => ?_))
  cases r with
  | error er => exact False.elim hq
  | ok fl =>
    cases fl with
    | ret u =>
      obtain ⟨v, H2, I2, r2, ev, q2⟩ := J.after hq
      subst ev
      exact ⟨r2, ⟨.ref (hh.objs.size + 1), H2, I2, rfl, q2⟩⟩
    | next => exact False.elim hq
    | brk => exact False.elim hq
    | cont => exact False.elim hq
def tMk0 (C : Addr) : TE := fun _ H Q => ∀ a, H a = none → Q (.ref a) (upd H a (exo a C none))
theorem pe_mk0 {bmB : List Value} {B newId initId : String} (F : ExcBaseFacts B newId initId bmB) (q : PySem.W.excIn X.K C bmB newId = true) (kC : PySem.W.keepIn X.K (.ref C) = true) (hg : Gl X x) (hm : X.mg x = some (.ref C))
    (hdb : (x == ("__debug__" : Str)) = false := by decide) : PE X (.Call (.Name x p) [] [] pos) (tMk0 C) := by
  refine ⟨fun pins s σ H Q I h => ?_⟩
  refine wpAny_Call_Name_kw (ld_glob I hg hm ?_ hdb)
  refine PySem.W.callWith_K0 I.kIn kC ?_
  show wpAny _ _ (call (.ref C) []) _ _ _
  obtain ⟨bm, N, nm, qn, bs, hdct, sn, sub, ab, col, dd, k0, k1, k2, k3, k5, mN, hC, hN, hni, T⟩ := exc_obj I.kIn q
  refine wpAny_call_exc_subT F T hC hN hni (fun h' a hm => ?_) (by show 0 ≤ sizeLine; exact Nat.zero_le _)
  have hn : H a = none := I.hok.gone hm.new
  obtain ⟨t, ht, _, _⟩ := hm.there
  exact ⟨.ref a, upd H a (exo a C none), I.laidN hm.keeps hm.new hn (exo_ok ht), rfl, h a hn⟩
end
end XV

set_option Elab.async false
set_option linter.all false
set_option maxRecDepth 100000
set_option maxHeartbeats 4000000
/-! A head's facts as any tests of the written part. -/
namespace XH
open PySem PySem.Spec PyProof.Rows L2 He
abbrev Fc : Type := PySem.W.Frag → Bool
def obsB (fa : List Fc) (fn : List DefD) (K : PySem.W.Frag) : AlD := ((fa.all fun f => f K) && fn.all fun d => d.ok K, fn.map fun d => fnW K d.at_)
def SaysB (fa : List Fc) (fn : List DefD) (K : PySem.W.Frag) : Prop := obsB fa fn K = valD fn
def obsBG (n : Nat) (fa : List Fc) (fn : List DefD) (g : Addr → Option Obj) : AlD := obsB fa fn (frG g (asD g n))
def hookB (n : Nat) (fa : List Fc) (fn : List DefD) : PySem.W.Hook where
  α := AlD
  obs := fun st => obsBG n fa fn st.heap.get?
  val := fun _ => valD fn
  says := fun _ hh => ∃ K : PySem.W.Frag, K.In hh ∧ SaysB fa fn K
  of := fun _ _ z => ⟨_, frG_in, z⟩
  keeps := fun _ _ _ ⟨K, inn, c⟩ kk => ⟨K, PySem.W.Frag.In.keeps inn kk, c⟩
theorem obsBG_eq {n : Nat} {fa : List Fc} {fn : List DefD} {g : Addr → Option Obj} {s : Shared} (h : ∀ a, g a = s.heap.get? a) : obsBG n fa fn g = (hookB n fa fn).obs s := by
  have z : g = s.heap.get? := funext h
  rw [z]
  rfl
section
variable {fa : List Fc} {fn : List DefD} {K : PySem.W.Frag}
theorem SaysB.fact (c : SaysB fa fn K) (i : Nat) {f : Fc} (h : fa[i]? = some f := by rfl) : f K = true := by
  have c1 : ((fa.all fun f => f K) && fn.all fun d => d.ok K) = true := congrArg (fun z : AlD => z.1) c
  exact List.all_eq_true.mp (ba c1).1 f (List.mem_of_getElem? h)
theorem SaysB.def_ (c : SaysB fa fn K) (i : Nat) {d : DefD} (h : fn[i]? = some d := by rfl) : ∃ fd, FunD K d.name d.qual d.params d.body d.scope (d.dvs K) (d.kws K) (fAd K d.at_) fd := by
  have c1 : ((fa.all fun f => f K) && fn.all fun d => d.ok K) = true := congrArg (fun z : AlD => z.1) c
  have c2 : fn.map (fun d => fnW K d.at_) = fn.map DefD.val := congrArg (fun z : AlD => z.2) c
  have c3 : (fn.map fun d => fnW K d.at_)[i]? = (fn.map DefD.val)[i]? := congrArg (fun l => l[i]?) c2
  rw [List.getElem?_map, List.getElem?_map, h] at c3
  exact DefD.funD (Option.some.inj c3) (List.all_eq_true.mp (ba c1).2 d (List.mem_of_getElem? h))
end
/-! ### names -/
def glosB (l : List Str) : Fc := fun K => l.all fun x => (Fa.glo x).ok K
def freesB (l : List Str) : Fc := fun K => l.all fun x => (Fa.free x).ok K
theorem glos_ok {K : PySem.W.Frag} {h : Heap} {mg : Str → Option Value} {l : List Str} (X : K.In h) (G : h.Ns mainGlobals mg) (c : glosB l K = true) (x : Str) (hx : x ∈ l) : mg x = some (.ref (ga K x)) := glo_ok X G (List.all_eq_true.mp c x hx)
theorem frees_ok {K : PySem.W.Frag} {h : Heap} {mg : Str → Option Value} {l : List Str} (X : K.In h) (G : h.Ns mainGlobals mg) (c : freesB l K = true) (x : Str) (hx : x ∈ l) : mg x = none := free_ok X G (List.all_eq_true.mp c x hx)
/-! ### own exception classes -/
def excCB (K : PySem.W.Frag) (C : Addr) : Bool :=
  eqO (PySem.W.findIn K (.ref C) "__getattribute__") (some (some (.builtin "BaseException.__getattribute__"))) && (eqO (PySem.W.findIn K (.ref C) "__getattr__") (some none) && (decide (PySem.W.subIn K (.ref C) (.type "BaseException") = some true) &&
  (PySem.W.hasDictIn K C && (eqO (PySem.W.findIn K (.ref C) "__class__") (some (some (.builtin "object.__class__"))) && (eqO (PySem.W.specialIn K (.builtin "object.__class__") "__get__") (some (some (.builtin "getset_descriptor.__get__"))) &&
  (decide (PySem.W.takesIn K (.builtin "object.__class__") = some true) && decide (PySem.W.mroIn K C (.type "object") = some true)))))))
theorem excC_ok {K : PySem.W.Frag} {C : Addr} (h : excCB K C = true) : ExcC K C := by
  obtain ⟨h1, h⟩ := ba h
  obtain ⟨h2, h⟩ := ba h
  obtain ⟨h3, h⟩ := ba h
  obtain ⟨h4, h⟩ := ba h
  obtain ⟨h5, h⟩ := ba h
  obtain ⟨h6, h⟩ := ba h
  obtain ⟨h7, h8⟩ := ba h
  exact ⟨eqO_ok h1, eqO_ok h2, of_decide_eq_true h3, h4, eqO_ok h5, eqO_ok h6, of_decide_eq_true h7, of_decide_eq_true h8⟩
def exB (K : PySem.W.Frag) (C : Addr) : Bool := match K.lookup C with
  | some ⟨.type "type", _, .cls cd, sl⟩ => (match cd.mro, sl.toList with
    | .ref C' :: bm, [_, _, _, _, some (.builtin n), _] => C' == C && (n == "ValueError.__new__" && (!cd.hasDel && (cd.hasDict && PySem.HandSPX.refsVE bm)))
    | _, _ => false)
  | _ => false
theorem exB_ok {K : PySem.W.Frag} {C : Addr} (q : exB K C = true) : ∃ nm qn N bs bm sn sub ab col dd k0 k1 k2 k3 k5, K.lookup C = some (excClassObj nm qn C N bs bm true sn sub ab col dd k0 k1 k2 k3 k5 "ValueError.__new__") ∧ PySem.HandSPX.refsVE bm = true := by
  unfold exB at q
  split at q
  · rename_i dd cd sl lk
    split at q
    · rename_i C' bm k0 k1 k2 k3 n k5 hm hs
      obtain ⟨q1, q⟩ := ba q
      obtain ⟨q2, q⟩ := ba q
      obtain ⟨q3, q⟩ := ba q
      obtain ⟨q4, q5⟩ := ba q
      have e1 := beq_iff_eq.mp q1
      have e2 := beq_iff_eq.mp q2
      subst e1 e2
      obtain ⟨nm, bs, mro, ns, qn, hd, sn, sub, ab, col, del⟩ := cd
      dsimp only at hm q3 q4
      have e3 : del = false := by simpa using q3
      subst hm e3 q4
      have hsl : sl = #[k0, k1, k2, k3, some (.builtin "ValueError.__new__"), k5] := by
        obtain ⟨l⟩ := sl
        have hs' : l = [k0, k1, k2, k3, some (.builtin "ValueError.__new__"), k5] := hs
        rw [hs']
      subst hsl
      exact ⟨nm, qn, ns, bs, bm, sn, sub, ab, col, dd, k0, k1, k2, k3, k5, lk, q5⟩
    · cases q
  · cases q
/-- an own class with an __init__ of its own that stores the fields fs -/
def ownB (K : PySem.W.Frag) (x : Str) (fs : List Str) : Bool :=
  exB K (ga K x) && (eqO (PySem.W.findIn K (.ref (ga K x)) "__setattr__") (some (some (.builtin "object.__setattr__"))) && (decide (PySem.W.typeIn K (.ref (ga K x)) = some (.type "type")) && (PySem.W.keepIn K (.ref (ga K x)) &&
  ((fs.all fun f => eqO (PySem.W.findIn K (.ref (ga K x)) f) (some none)) && (eqO (PySem.W.findIn K (.ref (ga K x)) "__init__") (some (some (.ref (ma K (ga K x) "__init__")))) &&
  (decide (PySem.W.typeIn K (.ref (ma K (ga K x) "__init__")) = some (.type "function")) && excCB K (ga K x)))))))
structure Own (K : PySem.W.Frag) (C fI : Addr) (fs : List Str) : Prop where
  ox : OexC K C
  no : ∀ f ∈ fs, PySem.W.findIn K (.ref C) f = some none
  iC : PySem.W.findIn K (.ref C) "__init__" = some (some (.ref fI))
  tI : PySem.W.typeIn K (.ref fI) = some (.type "function")
  ec : ExcC K C
theorem Own.xf {K : PySem.W.Frag} {C fI : Addr} {fs : List Str} (o : Own K C fI fs) : XfC K C := ⟨o.ec.hg, o.ec.hk, o.ec.hs, o.ec.hd⟩
theorem own_ok {K : PySem.W.Frag} {x : Str} {fs : List Str} (h : ownB K x fs = true) : Own K (ga K x) (ma K (ga K x) "__init__") fs := by
  obtain ⟨h1, h⟩ := ba h
  obtain ⟨h2, h⟩ := ba h
  obtain ⟨h3, h⟩ := ba h
  obtain ⟨h4, h⟩ := ba h
  obtain ⟨h5, h⟩ := ba h
  obtain ⟨h6, h⟩ := ba h
  obtain ⟨h7, h8⟩ := ba h
  have e := excC_ok h8
  exact ⟨⟨exB_ok h1, eqO_ok h2, e.hs, of_decide_eq_true h3, h4⟩, fun f hf => eqO_ok (List.all_eq_true.mp h5 f hf), eqO_ok h6, of_decide_eq_true h7, e⟩
/-- an own class without one -/
def bareB (K : PySem.W.Frag) (x : Str) : Bool := PySem.W.excIn K (ga K x) veBase "ValueError.__new__" && (PySem.W.keepIn K (.ref (ga K x)) && excCB K (ga K x))
structure Bare (K : PySem.W.Frag) (C : Addr) : Prop where
  ex : PySem.W.excIn K C veBase "ValueError.__new__" = true
  kC : PySem.W.keepIn K (.ref C) = true
  ec : ExcC K C
theorem bare_ok {K : PySem.W.Frag} {x : Str} (h : bareB K x = true) : Bare K (ga K x) := by
  obtain ⟨h1, h⟩ := ba h
  obtain ⟨h2, h3⟩ := ba h
  exact ⟨h1, h2, excC_ok h3⟩
/-! ### the promise of such an __init__ of one, of two fields -/
def spI1 (K : PySem.W.Frag) (C : Addr) (f : Str) : Sp := fun vs H Q _ => ∃ (a : Addr) (y : V), vs = [.ref a, y] ∧ OexC K C ∧ PySem.W.findIn K (.ref C) f = some none ∧ H a = some (exo a C none) ∧
  ∀ d, H d = none → d ≠ a → Q .non (upd (upd H d (exd d [(f, y)])) a (exo a C (some d)))
def spI2 (K : PySem.W.Frag) (C : Addr) (f g : Str) : Sp := fun vs H Q _ => ∃ (a : Addr) (y z : V), vs = [.ref a, y, z] ∧ OexC K C ∧ PySem.W.findIn K (.ref C) f = some none ∧ PySem.W.findIn K (.ref C) g = some none ∧ H a = some (exo a C none) ∧
  ∀ d, H d = none → d ≠ a → Q .non (upd (upd (upd H d (exd d [(f, y)])) a (exo a C (some d))) d (exd d [(g, z), (f, y)]))
end XH

set_option Elab.async false
set_option linter.all false
set_option maxRecDepth 100000
set_option maxHeartbeats 4000000
/-! Rules that were lacking: a text some times over, get of a table of the top, what is walked either way, an error without arguments, several clauses that each keep their error, isinstance of it. -/
namespace XR
open PySem PySem.Spec PyProof.Rows L2

/-! ### text * n -/
def repS (z : Str) (n : Nat) : Str := ⟨(List.replicate n z.cps).foldl (· ++ ·) #[]⟩
theorem rep_size (a : Array Nat) : ∀ (n : Nat) (acc : Array Nat), ((List.replicate n a).foldl (· ++ ·) acc).size = acc.size + n * a.size
  | 0, acc => by simp
  | n + 1, acc => by
    rw [List.replicate_succ, List.foldl_cons, rep_size a n, Array.size_append, Nat.succ_mul]
    omega
theorem repS_len (z : Str) (n : Nat) : (repS z n).length = n * z.length := by
  show ((List.replicate n z.cps).foldl (· ++ ·) #[]).size = n * z.cps.size
  rw [rep_size]
  simp
theorem op_mulS {X : Cx} : OpR X (binaryOp .Mult) (fun x y H Q => ∃ (z : Str) (n : Nat), x = .str z ∧ y = .int (n : Int) ∧ (1 ≤ n ∧ n ≤ 1000) ∧ (1 ≤ z.length ∧ z.length ≤ 1000) ∧ Q (.str (repS z n)) H) := by
  intro pins s σ H x y v u Q I rx ry h
  obtain ⟨z, n, rfl, rfl, ⟨n1, n2⟩, ⟨z1, z2⟩, q⟩ := h
  obtain ⟨t, rfl⟩ := rx
  obtain ⟨t', rfl⟩ := ry
  have c1 : decide ((n : Int) < -(2 ^ 63 : Int)) = false := decide_eq_false (by omega)
  have c2 : decide ((n : Int) ≥ 2 ^ 63) = false := decide_eq_false (by omega)
  refine PySem.P.mul_str (by rw [c1, c2]; rfl) (fun _ _ => ?_) (fun _ _ => ?_) ?_
  · have k : (1000000 : Int) ≤ (2 ^ 63 - 1) / (n : Int) := by
      refine Int.le_ediv_of_mul_le (by omega) ?_
      omega
    omega
  · have k : z.length * (n : Int).toNat ≤ 1000 * 1000 := Nat.mul_le_mul z2 (by omega)
    show decide (z.length * (n : Int).toNat > sizeLine) = false
    refine decide_eq_false ?_
    rw [sizeLine_eq]
    omega
  · rw [if_neg (by omega)]
    by_cases e : n = 1
    · subst e
      have e2 : repS z 1 = z := by
        unfold repS
        simp
      rw [if_pos (by rfl)]
      rw [e2] at q
      exact ⟨.str z, H, I, ⟨_, rfl⟩, q⟩
    · have b : ((n : Int) == 1 || z.length == 0) = false := by
        have b1 : ((n : Int) == 1) = false := by
          rw [beq_eq_false_iff_ne]
          omega
        have b2 : (z.length == 0) = false := by
          rw [beq_eq_false_iff_ne]
          omega
        rw [b1, b2]
        rfl
      rw [b, if_neg Bool.false_ne_true]
      have en : (n : Int).toNat = n := by omega
      rw [en]
      have lr : (repS z n).length ≤ sizeLine := by
        rw [repS_len, sizeLine_eq]
        have k : n * z.length ≤ 1000 * 1000 := Nat.mul_le_mul n2 z2
        omega
      exact ⟨lr, ⟨.str (repS z n), H, I.tok _, ⟨_, rfl⟩, q⟩⟩

/-! ### d.get(x), d a table of the top -/
def tKGet (K : PySem.W.Frag) (w : World) (td ty : TE) : TE := fun σ H Q => td σ H fun x H1 => ∃ (a : Addr) (es : Array DictEntry) (n : Nat), x = .ref a ∧ KDict K w a es n ∧ ty σ H1 fun y H2 => ∃ (z : Str) (r : Option Value) (v : V), y = .str z ∧ PySem.W.nsIn K a z = some r ∧ RelV v (r.getD .none) ∧ Q v H2
theorem pe_kget {X : Cx} {o e : Expr} {apos cpos : Pos} {td ty : TE} (ho : PE X o td) (he : PE X e ty) (m : M1 X o "get" apos e cpos) : PE X (.Call (.Attribute o "get" apos) [e] [] cpos) (tKGet X.K X.w td ty) := by
  refine ⟨fun pins s σ H Q I h => ?_⟩
  refine wpAny_Call_method m.base m.few m.line PySem.F.plainAttrs_dict PySem.F.slot_dict_get PySem.F.type_dict_get (thn (ho.run pins s σ H _ I h) fun u s1 ⟨x, H1, I1, rx, a, es, n, ex, D, q1⟩ => ?_)
  subst ex
  cases (show u = Value.ref a from rx)
  refine ⟨kd_type D I1, fun b q => ?_, ?_⟩
  · cases q
    exact ⟨_, I1.kIn _ _ D.at_, rfl⟩
  rw [m.trees]
  refine Calls.callWith_builtin rfl (Calls.evalArgs_plain (Calls.spliced_cons (thn (he.run pins s1 σ H1 _ I1 q1) fun iv s2 ⟨y, H2, I2, ry, z, r, v, ey, en, rv, q2⟩ => Calls.spliced_nil ?_)))
  subst ey
  obtain ⟨t, rfl⟩ := (show ∃ t, iv = Value.str z t from ry)
  have mp := PySem.W.mapOf_K (prog := X.prog) (w := X.w) I2.kIn D.at_ D.lit
  refine call_meetsIn PySem.F.slot_dict_get mp.typeIs PySem.F.entry_dict_get (PySem.F.args_dict_get_2 _ _) (meets_dict_get (strKind X.prog X.w) a (strKind_is X.prog X.w z t) D.low) ⟨_, mp, ?_⟩
  rw [PySem.W.find_K D.at_ en]
  exact ⟨v, H2, I2.tok _, rv, q2⟩

/-! ### what may be walked in two ways -/
theorem pi_or {X : Cx} {tg l : Expr} {w1 w2 : TI} (h1 : PI X tg l w1) (h2 : PI X tg l w2) : PI X tg l (fun σ H R => w1 σ H R ∨ w2 σ H R) := ⟨fun pins s σ H R I h => h.elim (fun k => h1.run pins s σ H R I k) (fun k => h2.run pins s σ H R I k)⟩

/-! ### raise C() -/
theorem pmk0 {X : Cx} {C : Addr} {bmB : List Value} {B newId initId : String} {x : Str} {p pos : Pos} (F : ExcBaseFacts B newId initId bmB) (q : PySem.W.excIn X.K C bmB newId = true) (gC : X.mg x = some (.ref C)) (kC : PySem.W.keepIn X.K (.ref C) = true) (r : Raises X (.ref C)) (hg : Gl X x)
    (hdb : (x == ("__debug__" : Str)) = false := by decide) : PMk X (.Call (.Name x p) [] [] pos) (fun _ H Q => Q (.ref C) none H) := by
  intro pins s σ H Q I h
  refine wpAny_Call_Name_kw (ld_glob I hg gC ?_ hdb)
  refine PySem.W.callWith_K0 I.kIn kC ?_
  show wpAny _ _ (call (.ref C) []) _ _ _
  obtain ⟨bm, N, nm, qn, bs, hdct, sn, sub, ab, col, dd, k0, k1, k2, k3, k5, mN, hC, hN, hni, T⟩ := exc_obj I.kIn q
  exact wpAny_call_exc_subT F T hC hN hni (fun h' a hm => mk_of I hm r h (I.hok.gone hm.new)) (by show 0 ≤ sizeLine; exact Nat.zero_le _)

/-! ### isinstance(e, c), e the error that the suite holds -/
def rIsS (K : PySem.W.Frag) (cls : Value) (d : Option Addr) (a : Addr) : List V → Hp → VK → Prop := fun xs H Q => ∃ (C : Addr) (c : V) (cv : Value) (b : Bool), xs = [.ref a, c] ∧ cls = .ref C ∧ ExcC K C ∧ (∀ dd, d = some dd → ∃ fs, H dd = some (.xd fs)) ∧ ClsV c cv ∧ PySem.W.kitOne K (.ref C) cv = some b ∧ Q (.bl b) H
theorem call_isS {X : Cx} {a : Addr} {oe : Obj} {cls : Value} {d : Option Addr} {pn : List (Addr × Obj)} (hz : Zc cls d oe) (hf : ∃ vs, oe.data = .fields vs) : CallR (X.suite a ((a, oe) :: pn)) (.builtin "isinstance") (rIsS X.K cls d a) := by
  intro pins s σ H xs us Q I r h
  obtain ⟨C, c, cv, b, rfl, rfl, T, hd, kc, e, q⟩ := h
  obtain ⟨u1, u2, rfl, r1, r2⟩ := vals2 r
  cases (show u1 = Value.ref a from r1)
  have e2 := kc.eq r2
  subst e2
  obtain ⟨there, _⟩ := I.pin (a, oe) (List.mem_append_left _ List.mem_cons_self)
  obtain ⟨vs, hv⟩ := hf
  obtain ⟨oc, od, dt, sl⟩ := oe
  obtain ⟨z1, z2⟩ := hz
  dsimp only at z1 z2 hv
  subst z1 z2 hv
  have J : ∃ oD, PySem.W.InstAt s.heap a ⟨.ref C, od, .fields vs, sl⟩ C oD := by
    cases od with
    | none => exact ⟨none, there, rfl, rfl, True.intro⟩
    | some dd =>
      obtain ⟨fs, hx⟩ := hd dd rfl
      have k : ObjOk X.prog X.w H s.heap dd (.xd fs) := I.hok dd _ hx
      obtain ⟨mA, ⟨oD, es, ep, hD, _⟩, _⟩ := k
      exact ⟨some oD, there, rfl, rfl, hD⟩
  obtain ⟨oD, J⟩ := J
  exact PySem.W.kia_one (XV.kitOf T) I.kIn J e (fun z => nomatch z) fun tk => ⟨.bl b, H, I.tok tk, rfl, q⟩

/-! ### try with several clauses, each «as» -/
def wMas (K : PySem.W.Frag) (Wout : WX) (D : Ends) : List (Value × Nat × (Addr → Value → Option Addr → TS)) → WX
  | [] => Wout
  | (c, i, ts) :: more => fun cls d σ H => ∃ b, PySem.W.exmOne K cls c = some b ∧ (b = true → ∀ a, H a = none → ts a cls d { nx := fun σ' H' => D.nx (σ'.set i none) H', rt := D.rt, bk := fun σ' H' => D.bk (σ'.set i none) H', ct := fun σ' H' => D.ct (σ'.set i none) H' } (σ.set i (some (.ref a))) H) ∧
    (b = false → wMas K Wout D more cls d σ H)
inductive HdsA (X : Cx) : List ExceptHandler → List (Value × Nat × (Addr → Value → Option Addr → TS)) → Prop
  | nil : HdsA X [] []
  | cons {x n : Str} {c : Value} {i : Nat} {ts : Addr → Value → Option Addr → TS} {st : Stmt} {suite : List Stmt} {np hp : Pos} {hds : List ExceptHandler} {l : List (Value × Nat × (Addr → Value → Option Addr → TS))} (hc : Names X x c) (hi : X.N[i]? = some n) (hln : X.env.kindOf n = some .local)
      (hsu : ∀ (a : Addr) (oe : Obj) (cls : Value) (d : Option Addr) (pn : List (Addr × Obj)), Zc cls d oe → (∃ vs, oe.data = .fields vs) → PSs (X.suite a ((a, oe) :: pn)) (st :: suite) (ts a cls d)) (more : HdsA X hds l) :
      HdsA X (.ExceptHandler (some (.Name x np)) (some n) (st :: suite) hp :: hds) ((c, i, ts) :: l)
section
variable {X : Cx} {body : List Stmt} {hd0 : ExceptHandler} {hds : List ExceptHandler} {l : List (Value × Nat × (Addr → Value → Option Addr → TS))} {pos : Pos} {tb : WX → TS} {Wout : WX}
theorem ps_try_mas (hst : X.stack = X.env :: X.outer) (hfr0 : X.env.frame = some X.env.locals) (nd : X.N.Nodup) (tk : Takes X Wout)
    (bod : ∀ (W : WX) (pn : List (Addr × Obj)) (xe : Value → Shared → Prop), Takes (X.tr pn xe) W → PassesOwn (model X.prog X.w) X.A X.env xe → PSs (X.tr pn xe) body (tb W))
    (all : HdsA X (hd0 :: hds) l) : PS X (.Try body (hd0 :: hds) [] [] pos) (fun D σ H => tb (wMas X.K Wout D l) D σ H) := by
  refine ⟨fun pins s σ H D I h => ?_⟩
  have okX := I.ok
  have frs0 : X.A.frames = some (X.env :: X.outer) := by rw [okX.frames, hst]
  refine wpAny_Try_except ?_
  refine wpAny_mono ((bod (wMas X.K Wout D l) (X.pn ++ pins) (fun e sa => wpAny (model X.prog X.w) X.A (noteFrame e X.env) (fun _ sb => wpAny (model X.prog X.w) X.A (setFlight e none) (fun _ sc =>
    wpAny (model X.prog X.w) X.A (handleBy e X.env (hd0 :: hds)) (SP X pins D) X.xe sc) X.xe sb) X.xe sa) (fun u st air => ?_) PassesOwn.looking).run [] s σ H D (I.toTry _) h) (fun f s1 fin0 => ?_) (fun _ _ z => z)
  · obtain ⟨a, B, sI, pins', σ1, H1, cls, d, rfl, J0, nb, up, sky, na, os, ag, wish⟩ := air
    have J : Inv X pins σ1 H1 sI := J0.ofTry okX
    have sky1 : Sky B (X.env :: X.outer) a (Zc cls d) X.env.locals st.heap := by rw [← hst]; exact sky
    show wpAny (model X.prog X.w) X.A (noteFrame (.ref a) X.env) _ _ _
    refine Sky.land Zc.steady frs0 hfr0 sky1 fun hA flA upA => ?_
    have JA : Inv X pins σ1 H1 { st with heap := hA } := J.landed nb flA.1 (up.trans upA) os ag
    obtain ⟨oeA, vsA, heA, hzA, hdA⟩ := flA.there
    have noFr : ∀ {hh : Heap} {o : Obj} {ws : Array Value}, hh.FunFrames B (X.env :: X.outer) → hh.get? a = some o → o.data = .fields ws → a ∉ frs (X.env :: X.outer) := fun {hh o ws} ff e dd hm => by
      obtain ⟨_, o2, e2, hnf⟩ := ff.mem hm
      rw [e] at e2
      cases e2
      exact hnf _ dd
    have nfA := noFr flA.2.2.1 heA hdA
    have neL : a ≠ X.env.locals := fun z => nfA (List.mem_filterMap.mpr ⟨X.env, List.mem_cons_self, by rw [hfr0, z]⟩)
    have neF : a ∉ X.fs := fun hm => by
      obtain ⟨e, he, q⟩ := List.mem_filterMap.mp hm
      exact nfA (List.mem_filterMap.mpr ⟨e, List.mem_cons_of_mem _ he, q⟩)
    have SA := JA.suite heA hdA na neL neF
    have walk : ∀ {hs' : List ExceptHandler} {l' : List (Value × Nat × (Addr → Value → Option Addr → TS))}, HdsA X hs' l' → wMas X.K Wout D l' cls d σ1 H1 →
        wpAny (model X.prog X.w) X.A (handleBy (.ref a) X.env hs') (SP X pins D) X.xe { st with heap := hA } := by
      intro hs' l' hk
      induction hk with
      | nil =>
        intro wn
        refine wpAny_handleBy_nil ?_
        obtain ⟨_, _, _, oe, vs, TT, oT, ts', he, hz, hdd, h1, _⟩ := id flA
        unfold PySem.passOn
        refine wpAny_bind (wpAny_field he hdd h1 ?_)
        rw [if_neg (show ¬ ((Value.ref TT == Value.none) = true) from by simp)]
        have on : wpAny (model X.prog X.w) X.A (setFlight (.ref a) X.env.frame) (fun _ sx => wpAny (model X.prog X.w) X.A (throw (.ref a) : Sem Flow) (SP X pins D) X.xe sx) X.xe { st with heap := hA } := by
          rw [hfr0]
          refine HandSPX.setFlight_upZ flA fun hB hhB upB => wpAny_throw (tk _ _ ?_)
          exact ⟨a, B, sI, pins, σ1, H1, cls, d, rfl, J, nb, (up.trans upA).trans upB, .inr (.inr (by rw [hst]; exact hhB)), na, os, ag, wn⟩
        first
          | exact wpAny_bind (wpAny_pure (wpAny_bind on))
          | exact wpAny_bind on
      | @cons x n c i ts st0 suite np hp hds2 l2 hc hi hln hsu more ih =>
        intro wn
        obtain ⟨b, hb1, yes, no⟩ := wn
        refine wpAny_handleBy_cons (codeAny_handlers_test ?_) (by intro q; cases q)
        have LT : PySem.W.Looks (model X.prog X.w) hA (typeOf (.ref a)) cls := fun A' Q' E' s' k q => wpAny_typeOf_ref (k _ _ heA) (by rw [hzA.1]; exact q)
        have LM := PySem.W.exm_one (M := model X.prog X.w) JA.kIn LT hb1
        have nameOf : ∀ {Q' : Value → Shared → Prop} {E' : Value → Shared → Prop}, Q' c { st with heap := hA } → wpAny (model X.prog X.w) (X.A.mark (some (.ref a))) (eval (.Name x np) X.env) Q' E' { st with heap := hA } := fun {Q' E'} q => by
          obtain ⟨hg, hdbg, hm | ⟨hm, hv, hnn⟩⟩ := hc
          · exact ld_glob (X := X.suite a ((a, oeA) :: (X.pn ++ pins))) SA hg hm q hdbg
          · exact ld_blt (X := X.suite a ((a, oeA) :: (X.pn ++ pins))) SA hg hm hv q hnn hdbg
        refine nameOf (LM.here ?_)
        cases b with
        | false =>
          show wpAny _ X.A (handleBy (.ref a) X.env hds2) _ _ _
          exact ih (no rfl)
        | true =>
          refine codeAny_handlers_suite_as ?_
          refine HandSPX.lands_againZ flA fun hB flB upB => ?_
          have JB : Inv X pins σ1 H1 { st with heap := hB } := J.landed nb flB.1 ((up.trans upA).trans upB) os ag
          obtain ⟨oeB, vsB, heB, hzB, hdB⟩ := flB.there
          have SB := JB.suite heB hdB na neL neF
          refine store_ok (X := X.suite a ((a, oeB) :: (X.pn ++ pins))) (v := .ref a) SB nd hi (.inl hln) rfl (fun s5 S5 => ?_) (.inr hln)
          refine wpAny_mono ((hsu a oeB cls d (X.pn ++ pins) hzB ⟨_, hdB⟩).run [] s5 _ H1 _ S5 (yes rfl a na)) (fun f s6 q0 => ?_) (fun _ _ z => False.elim z)
          have gone : ∀ {σ6 : L2.St} {H6 : Hp} {Q6 : Shared → Prop}, Inv (X.suite a ((a, oeB) :: (X.pn ++ pins))) [] σ6 H6 s6 → (∀ s7, Inv X pins (σ6.set i none) H6 s7 → Q6 s7) →
              wpAny (model X.prog X.w) X.A (do bindName X.env n .none; unbindBehindTheSuite X.env n hp) (fun _ s7 => Q6 s7) X.xe s6 := fun {σ6 H6 Q6} S6 hq => gone_ok (S6.unsuite okX) nd hi hln hq
          cases f with
          | next =>
            obtain ⟨_, _, S6, q6⟩ := q0
            exact gone S6 fun s7 J7 => ⟨_, _, J7, q6⟩
          | brk =>
            obtain ⟨_, _, S6, q6⟩ := q0
            exact gone S6 fun s7 J7 => ⟨_, _, J7, q6⟩
          | cont =>
            obtain ⟨_, _, S6, q6⟩ := q0
            exact gone S6 fun s7 J7 => ⟨_, _, J7, q6⟩
          | ret u =>
            obtain ⟨_, _, _, S6, r6, q6⟩ := q0
            exact gone S6 fun s7 J7 => ⟨_, _, _, J7, r6, q6⟩
    exact walk all wish
  · cases f with
    | next =>
      obtain ⟨_, _, J1, q⟩ := fin0
      exact wpAny_execs_nil ⟨_, _, J1.ofTry okX, q⟩
    | brk =>
      obtain ⟨_, _, J1, q⟩ := fin0
      exact ⟨_, _, J1.ofTry okX, q⟩
    | cont =>
      obtain ⟨_, _, J1, q⟩ := fin0
      exact ⟨_, _, J1.ofTry okX, q⟩
    | ret v =>
      obtain ⟨_, _, _, J1, r, q⟩ := fin0
      exact ⟨_, _, _, J1.ofTry okX, r, q⟩
end
end XR

set_option Elab.async false
set_option linter.all false
set_option maxRecDepth 100000
set_option maxHeartbeats 4000000
/-! A pen: a pair of a list of numbers and a count, changed by each draw; all else stands. -/
namespace PEN
open PySem PySem.Spec PyProof.Rows L2 Evl

def cut (p l : Addr) (H : Hp) : Hp := fun a => if a = p ∨ a = l then none else H a
theorem cut_at {p l a : Addr} {H : Hp} (h1 : a ≠ p) (h2 : a ≠ l) : cut p l H a = H a := by
  unfold cut
  rw [if_neg (by rintro (z | z) <;> contradiction)]
theorem cut_some {p l a : Addr} {H : Hp} {o : HO} (h : cut p l H a = some o) : a ≠ p ∧ a ≠ l ∧ H a = some o := by
  unfold cut at h
  by_cases z : a = p ∨ a = l
  · rw [if_pos z] at h
    cases h
  · rw [if_neg z] at h
    exact ⟨fun e => z (.inl e), fun e => z (.inr e), h⟩
theorem cut_ex {p l : Addr} {H : Hp} : Ex (cut p l H) H := fun a o h => (cut_some h).2.2
theorem cut_mono {p l : Addr} {H H' : Hp} (e : Ex H H') : Ex (cut p l H) (cut p l H') := fun a o h => by
  obtain ⟨h1, h2, h3⟩ := cut_some h
  rw [cut_at h1 h2]
  exact e _ _ h3
/-- all but the pen stands -/
def Px (p l : Addr) (H H' : Hp) : Prop := Ex (cut p l H) (cut p l H')
theorem Px.refl {p l : Addr} (H : Hp) : Px p l H H := Ex.refl _
theorem Px.trans {p l : Addr} {H H1 H2 : Hp} (a : Px p l H H1) (b : Px p l H1 H2) : Px p l H H2 := Ex.trans a b
theorem Px.of {p l : Addr} {H H' : Hp} (e : Ex H H') : Px p l H H' := cut_mono e
theorem Px.get {p l a : Addr} {H H' : Hp} {o : HO} (k : Px p l H H') (h1 : a ≠ p) (h2 : a ≠ l) (h : H a = some o) : H' a = some o := (cut_some (k a o ((cut_at h1 h2).trans h))).2.2
theorem Px.upd {p l : Addr} {H H' : Hp} {a : Addr} {o : HO} (k : Px p l H H') (h : a = p ∨ a = l ∨ H a = none) : Px p l H (upd H' a o) := fun b u hb => by
  obtain ⟨h1, h2, h3⟩ := cut_some hb
  have n : b ≠ a := by
    rintro rfl
    rcases h with z | z | z
    · exact h1 z
    · exact h2 z
    · rw [z] at h3
      cases h3
  rw [cut_at h1 h2, upd_ne n]
  exact k.get h1 h2 h3
theorem Px.fresh {p l a : Addr} {H H' : Hp} (k : Px p l H H') (h1 : a ≠ p) (h2 : a ≠ l) (h : H' a = none) : H a = none := by
  cases z : H a with
  | none => rfl
  | some o =>
    rw [k.get h1 h2 z] at h
    cases h
/-- a pen with b draws left to it -/
def Pen (p l : Addr) (b : Nat) (H : Hp) : Prop := ∃ (c : Int) (ns : List Int), H p = some (.lst [.ref l, .int c]) ∧ H l = some (.lst (ns.map V.int)) ∧ ns ≠ [] ∧ 0 ≤ c ∧ c + b ≤ 1000000000000
theorem Pen.ne {p l : Addr} {b : Nat} {H : Hp} (h : Pen p l b H) : p ≠ l := by
  obtain ⟨c, ns, h1, h2, _⟩ := h
  rintro rfl
  rw [h1] at h2
  have z := HO.lst.inj (Option.some.inj h2)
  cases ns with
  | nil => cases z
  | cons n r =>
    rw [List.map_cons] at z
    cases (List.cons.inj z).1
theorem Pen.ex {p l : Addr} {b : Nat} {H H' : Hp} (e : Ex H H') (h : Pen p l b H) : Pen p l b H' := by
  obtain ⟨c, ns, h1, h2, h3⟩ := h
  exact ⟨c, ns, e _ _ h1, e _ _ h2, h3⟩
theorem Pen.less {p l : Addr} {b b' : Nat} {H : Hp} (h : Pen p l b H) (k : b' ≤ b) : Pen p l b' H := by
  obtain ⟨c, ns, h1, h2, h3, h4, h5⟩ := h
  exact ⟨c, ns, h1, h2, h3, h4, by omega⟩
theorem Pen.upd {p l a : Addr} {b : Nat} {H : Hp} {o : HO} (h : Pen p l b H) (h1 : a ≠ p) (h2 : a ≠ l) : Pen p l b (upd H a o) := by
  obtain ⟨c, ns, e1, e2, h3⟩ := h
  exact ⟨c, ns, (upd_ne (Ne.symm h1)).trans e1, (upd_ne (Ne.symm h2)).trans e2, h3⟩
/-- a new thing is not the pen -/
theorem Pen.new {p l a : Addr} {b : Nat} {H : Hp} (h : Pen p l b H) (n : H a = none) : a ≠ p ∧ a ≠ l := by
  obtain ⟨c, ns, e1, e2, _⟩ := h
  exact ⟨(ne_of_none e1 n).symm, (ne_of_none e2 n).symm⟩
theorem cut_fresh {p l a : Addr} {H : Hp} (h : H a = none) : cut p l H a = none := by
  unfold cut
  split
  · rfl
  · exact h
/-- a comprehension without a test goes on with its element -/
theorem yes_go {te : TE} {σ : L2.St} {H : Hp} {R : VK} {B : Hp → Prop} (h : te σ H R) : tYes σ H (fun b H3 => if b = true then te σ H3 R else B H3) := by
  show (if true = true then te σ H R else B H)
  exact iteT h
theorem fits {n : Nat} (h : n ≤ 1000) : n ≤ sizeLine := Nat.le_of_lt (small1000 h)
/-! ### names -/
/-- the signs of a name -/
def Let (z : Str) : Prop := ∀ c ∈ z.cps.toList, 97 ≤ c ∧ c ≤ 122
/-! ### the promises -/
def spDraw : Sp := fun vs H Q _ => ∃ (p l : Addr) (m : Int) (b : Nat), vs = [.ref p, .int m] ∧ (0 < m ∧ m < 1073741824) ∧ Pen p l (b + 1) H ∧ ∀ r H', 0 ≤ r ∧ r < m → Px p l H H' → Pen p l b H' → Q (.int r) H'
def spPick (K : PySem.W.Frag) : Sp := fun vs H Q _ => ∃ (p l a : Addr) (xs : List V) (b : Nat), vs = [.ref p, .ref a] ∧ SqL K (cut p l H) a xs ∧ (xs ≠ [] ∧ xs.length ≤ 1000000) ∧ Pen p l (b + 1) H ∧ ∀ r H', r ∈ xs → Px p l H H' → Pen p l b H' → Q r H'
def spWord : Sp := fun vs H Q _ => ∃ (p l : Addr) (m b : Nat), vs = [.ref p, .int (m : Int)] ∧ (1 ≤ m ∧ m ≤ 12) ∧ Pen p l (b + 14) H ∧ ∀ (z : Str) H', (Let z ∧ 1 ≤ z.length ∧ z.length ≤ m) → Px p l H H' → Pen p l b H' → Q (.str z) H'
def NamesOk (ys : List Str) : Prop := ys.Nodup ∧ ∀ y ∈ ys, Let y ∧ 1 ≤ y.length ∧ y.length ≤ 12
def spNames (K : PySem.W.Frag) : Sp := fun vs H Q _ => ∃ (p l : Addr) (n b : Nat), vs = [.ref p, .int (n : Int)] ∧ n ≤ 11 ∧ Pen p l (b + n * 16) H ∧
  ∀ (q : Addr) (ys : List Str) H', H q = none → H' q = some (.lst (ys.map V.str)) → ys.length = n → NamesOk ys → Px p l H H' → Pen p l b H' → Q (.ref q) H'
end PEN

set_option Elab.async false
set_option linter.all false
set_option maxRecDepth 100000
set_option maxHeartbeats 4000000
/-! A head's facts as any tests of the written part, and tables with text keys beside them. -/
namespace XT
open PySem PySem.Spec PyProof.Rows L2 He XH
abbrev AlU : Type := AlD × List (Option (List (Option (Str × Int))))
def obsU (ff : List Fc) (dd : List DefD) (tt : List Tab) (K : PySem.W.Frag) : AlU := (obsB ff dd K, tt.map fun x => dicW K (x.1 K))
def valU (dd : List DefD) (tt : List Tab) (w : World) : AlU := (valD dd, tt.map fun x => some (keysIn w.params x.2))
def obsUG (n : Nat) (ff : List Fc) (dd : List DefD) (tt : List Tab) (h0 : Addr → Option Obj) : AlU := obsU ff dd tt (frG h0 (asD h0 n))
def SaysU (ff : List Fc) (dd : List DefD) (tt : List Tab) (w : World) (K : PySem.W.Frag) : Prop := obsU ff dd tt K = valU dd tt w
def hookU (n : Nat) (ff : List Fc) (dd : List DefD) (tt : List Tab) : PySem.W.Hook where
  α := AlU
  obs := fun st => obsUG n ff dd tt st.heap.get?
  val := fun ww => valU dd tt ww
  says := fun ww hh => ∃ K : PySem.W.Frag, K.In hh ∧ SaysU ff dd tt ww K
  of := fun _ _ z => ⟨_, frG_in, z⟩
  keeps := fun _ _ _ ⟨K, inn, c⟩ kk => ⟨K, PySem.W.Frag.In.keeps inn kk, c⟩
theorem obsUG_eq {n : Nat} {ff : List Fc} {dd : List DefD} {tt : List Tab} {h0 : Addr → Option Obj} {st : Shared} (h : ∀ a, h0 a = st.heap.get? a) : obsUG n ff dd tt h0 = (hookU n ff dd tt).obs st := by
  have z : h0 = st.heap.get? := funext h
  rw [z]
  rfl
section
variable {ff : List Fc} {dd : List DefD} {tt : List Tab} {w : World} {K : PySem.W.Frag}
theorem SaysU.b (c : SaysU ff dd tt w K) : SaysB ff dd K := congrArg (fun z : AlU => z.1) c
theorem SaysU.at (c : SaysU ff dd tt w K) (i : Nat) {x : Tab} (h : tt[i]? = some x := by rfl) : ∃ es n, KDict K w (x.1 K) es n := by
  have z : (tt.map fun x => dicW K (x.1 K)) = tt.map fun x => some (keysIn w.params x.2) := congrArg (fun z : AlU => z.2) c
  have z2 : (tt.map fun x => dicW K (x.1 K))[i]? = (tt.map fun x => some (keysIn w.params x.2))[i]? := congrArg (fun l => l[i]?) z
  rw [List.getElem?_map, List.getElem?_map, h] at z2
  exact dicW_ok (Option.some.inj z2)
end
/-- an entry of a table that is an empty tuple of the top; that is any object -/
def emptyB (K : PySem.W.Frag) (x k : Str) : Bool := match PySem.W.nsIn K (ga K x) k with
  | some (some (.ref a)) => (match K.lookup a with
    | some ⟨.type c, _, .seq its _, _⟩ => c == "tuple" && its.toList.isEmpty
    | _ => false)
  | _ => false
theorem emptyB_ok {K : PySem.W.Frag} {x k : Str} (q : emptyB K x k = true) : ∃ a, PySem.W.nsIn K (ga K x) k = some (some (.ref a)) ∧ ∀ H, SqT K H a [] := by
  unfold emptyB at q
  split at q
  · rename_i a e
    split at q
    · rename_i c dd its n sl e2
      obtain ⟨q1, q2⟩ := ba q
      have e3 := beq_iff_eq.mp q1
      subst e3
      have e4 : its.toList = [] := List.isEmpty_iff.mp q2
      refine ⟨a, e, fun H => .inr ⟨_, its, n, e2, rfl, rfl, ?_, ?_⟩⟩
      · rw [← Array.length_toList, e4]
        exact Nat.zero_le _
      · rw [e4]
        exact .nil
    · cases q
  · cases q
def refB (K : PySem.W.Frag) (x k : Str) : Bool := match PySem.W.nsIn K (ga K x) k with
  | some (some (.ref _)) => true
  | _ => false
theorem refB_ok {K : PySem.W.Frag} {x k : Str} (q : refB K x k = true) : ∃ a, PySem.W.nsIn K (ga K x) k = some (some (.ref a)) := by
  unfold refB at q
  split at q
  · rename_i a e
    exact ⟨a, e⟩
  · cases q
end XT

set_option Elab.async false
set_option linter.all false
set_option maxRecDepth 100000
set_option maxHeartbeats 4000000
/-! Tests of a head: entries of a table that are tuples of texts, or texts. -/
namespace XT
open PySem PySem.Spec PyProof.Rows L2 He XH
def strsB : List Value → List Str → Bool
  | [], [] => true
  | .str z _ :: r, y :: s => z == y && strsB r s
  | _, _ => false
theorem strsB_ok : ∀ {vs : List Value} {zs : List Str}, strsB vs zs = true → Vals (zs.map V.str) vs
  | [], [], _ => .nil
  | .str z t :: r, y :: s, h => by
    obtain ⟨h1, h2⟩ := ba (show (z == y && strsB r s) = true from h)
    rw [beq_iff_eq.mp h1]
    exact .cons ⟨t, rfl⟩ (strsB_ok h2)
def entB (K : PySem.W.Frag) (x k : Str) (zs : List Str) : Bool := match PySem.W.nsIn K (ga K x) k with
  | some (some (.ref a)) => (match K.lookup a with
    | some ⟨.type c, _, .seq its _, _⟩ => c == "tuple" && (decide (its.toList.length ≤ 1000) && strsB its.toList zs)
    | _ => false)
  | _ => false
theorem entB_ok {K : PySem.W.Frag} {x k : Str} {zs : List Str} (q : entB K x k zs = true) : ∃ a, PySem.W.nsIn K (ga K x) k = some (some (.ref a)) ∧ ∀ H, SqT K H a (zs.map V.str) := by
  unfold entB at q
  split at q
  · rename_i a e
    split at q
    · rename_i c dd its n sl e2
      obtain ⟨q1, q2⟩ := ba q
      obtain ⟨q2, q3⟩ := ba q2
      have e3 := beq_iff_eq.mp q1
      subst e3
      refine ⟨a, e, fun H => .inr ⟨_, its, n, e2, rfl, rfl, ?_, strsB_ok q3⟩⟩
      rw [← Array.length_toList]
      exact Nat.le_trans (of_decide_eq_true q2) (by decide)
    · cases q
  · cases q
def sndB (K : PySem.W.Frag) (x k z : Str) : Bool := match PySem.W.nsIn K (ga K x) k with
  | some (some (.str y _)) => y == z
  | _ => false
theorem sndB_ok {K : PySem.W.Frag} {x k z : Str} (q : sndB K x k z = true) : ∃ t, PySem.W.nsIn K (ga K x) k = some (some (.str z t)) := by
  unfold sndB at q
  split at q
  · rename_i y t e
    rw [← beq_iff_eq.mp q]
    exact ⟨t, e⟩
  · cases q
def emptyAtB (K : PySem.W.Frag) (a : Addr) : Bool := match K.lookup a with
  | some ⟨.type c, _, .seq its _, _⟩ => c == "tuple" && its.toList.isEmpty
  | _ => false
theorem emptyAtB_ok {K : PySem.W.Frag} {a : Addr} (q : emptyAtB K a = true) (H : Hp) : SqT K H a [] := by
  unfold emptyAtB at q
  split at q
  · rename_i c dd its n sl e2
    obtain ⟨q1, q2⟩ := ba q
    have e3 := beq_iff_eq.mp q1
    subst e3
    have e4 : its.toList = [] := List.isEmpty_iff.mp q2
    refine .inr ⟨_, its, n, e2, rfl, rfl, ?_, ?_⟩
    · rw [← Array.length_toList, e4]
      exact Nat.zero_le _
    · rw [e4]
      exact .nil
  · cases q
end XT

set_option Elab.async false
set_option linter.all false
set_option maxRecDepth 100000
set_option maxHeartbeats 8000000

/-! What the laws over drawn codes share. -/
namespace TR
open PySem PySem.Spec PyProof.Rows L2 He XH XV XR PEN Evl

def alphabet : Str := "abcdefghijklmnopqrstuvwxyz"
theorem alpha_at : ∀ j : Fin 26, alphabet.cps.toList[j.1]? = some (97 + j.1) := by decide +kernel
theorem alpha_pick {r : Int} (h : 0 ≤ r ∧ r < 26) : ∃ c : Nat, atI alphabet.cps.toList r = some c ∧ 97 ≤ c ∧ c ≤ 122 := by
  have e : ((r.toNat : Nat) : Int) = r := by omega
  have z := atI_nat (xs := alphabet.cps.toList) (j := r.toNat) (alpha_at ⟨r.toNat, by omega⟩)
  rw [e] at z
  exact ⟨97 + r.toNat, z, by omega, by omega⟩
def sign (c : Nat) : Str := ⟨#[c]⟩
theorem joinL_signs : ∀ cs : List Nat, TL.joinL [] (cs.map fun c => [c]) = cs
  | [] => rfl
  | [c] => rfl
  | c :: d :: r => by
    show [c] ++ ([] ++ TL.joinL [] ((d :: r).map fun c => [c])) = c :: d :: r
    rw [joinL_signs (d :: r)]
    rfl
theorem join_signs (cs : List Nat) : (Txt.join ("" : Str) (cs.map sign)).cps.toList = cs := by
  have z : TL.tl (Txt.join ("" : Str) (cs.map sign)) = TL.joinL (TL.tl ("" : Str)) ((cs.map sign).map TL.tl) := by
    rw [TL.join_eq, TL.tl_join]
  rw [List.map_map] at z
  have e : (TL.tl ∘ sign) = fun c => [c] := rfl
  rw [e] at z
  have e2 : TL.tl ("" : Str) = [] := by decide +kernel
  rw [e2, joinL_signs] at z
  exact z
theorem len_codes (z : Str) : z.length = z.cps.toList.length := by
  show z.cps.size = _
  simp
theorem sum_signs : ∀ cs : List Nat, ((cs.map sign).map (·.length)).sum = cs.length
  | [] => rfl
  | c :: r => by
    show 1 + ((r.map sign).map (·.length)).sum = r.length + 1
    rw [sum_signs r]
    omega


/-! ### comprehensions over a range from lo -/
theorem el_lcR2 {σ : L2.St} {H : Hp} {t : TT} {te : TE} {ta : TA} {j : Nat} {vs : List Nat} {lo n : Int} (f : Nat → Bool) (v : Nat → V) (h : EvA ta σ H [.int lo, .int n]) (hn : 0 ≤ lo ∧ lo ≤ 40000 ∧ lo ≤ n ∧ n ≤ 40000) (hw : ∀ x, wipe ((wipe σ vs).set j (some x)) vs = wipe σ vs)
    (ht : ∀ (i : Nat) H1, Ex H H1 → lo + (i : Int) < n → EvT t ((wipe σ vs).set j (some (.int (lo + (i : Int))))) H1 (f i)) (he : ∀ (i : Nat) H1, Ex H H1 → lo + (i : Int) < n → f i = true → Ev te ((wipe σ vs).set j (some (.int (lo + (i : Int))))) H1 (v i)) :
    EvL (tLc (iRng2 ta) (gName j) t te vs) σ H (given (n - lo).toNat f v) := fun H0 e Q q => h H0 e _ fun H1 e1 => ⟨lo, n, rfl, ⟨by omega, by omega, by omega, by omega⟩, fun Dl hD =>
  lc_range (lo := lo) (n := (n - lo).toNat) (Cw H1 f v Dl) ⟨hD, Ex.new hD, upd_same⟩ (fun i H' hi pw => ⟨hw _, cw_turn pw (by omega) (ht i H1 (e.trans e1) (by omega)) (fun hf => he i H1 (e.trans e1) (by omega) hf)⟩)
    (fun H' pw => q Dl H' (fresh_back e1 pw.1) (e1.trans pw.2.1) pw.2.2)⟩
/-! ### texts of one sign -/
theorem fold_codes (a : Array Nat) : ∀ (n : Nat) (acc : Array Nat), ((List.replicate n a).foldl (· ++ ·) acc).toList = acc.toList ++ (List.replicate n a.toList).flatten
  | 0, acc => by simp
  | n + 1, acc => by
    rw [List.replicate_succ, List.foldl_cons, fold_codes a n, Array.toList_append, List.replicate_succ, List.flatten_cons, List.append_assoc]
theorem repS_codes (z : Str) (n : Nat) : (repS z n).cps.toList = (List.replicate n z.cps.toList).flatten := by
  show ((List.replicate n z.cps).foldl (· ++ ·) #[]).toList = _
  rw [fold_codes]
  rfl
def aS (n : Nat) : Str := repS ("a" : Str) n
theorem aS_len (n : Nat) : (aS n).length = n := by
  have z := repS_len ("a" : Str) n
  have e : (("a" : Str)).length = 1 := by decide +kernel
  rw [e, Nat.mul_one] at z
  exact z
theorem aS_let (n : Nat) : Let (aS n) := by
  intro c hc
  have e : (("a" : Str)).cps.toList = [97] := by decide +kernel
  have z : c ∈ (List.replicate n [97]).flatten := by
    have k := repS_codes ("a" : Str) n
    rw [e] at k
    rw [← k]
    exact hc
  obtain ⟨l, hl, hc2⟩ := List.mem_flatten.mp z
  rw [(List.mem_replicate.mp hl).2] at hc2
  rw [List.mem_singleton.mp hc2]
  exact ⟨by decide, by decide⟩
theorem inV_strs (z : Str) : ∀ ys : List Str, inV (.str z) (ys.map V.str) = decide (z ∈ ys)
  | [] => by simp [inV]
  | y :: r => by
    have ih := inV_strs z r
    show (eqV (.str y) (.str z) || inV (.str z) (r.map V.str)) = decide (z ∈ y :: r)
    rw [ih]
    show ((y == z) || decide (z ∈ r)) = decide (z ∈ y :: r)
    by_cases h : z = y
    · subst h
      simp
    · have h' : ¬ y = z := fun e => h e.symm
      simp [h, h']
theorem flat_strs (ys : List Str) : (ys.map V.str).all flatV = true := by
  rw [List.all_map]
  exact List.all_eq_true.mpr fun _ _ => rfl
theorem crowd : ∀ {cs ys : List Str}, cs.Nodup → (∀ c ∈ cs, c ∈ ys) → cs.length ≤ ys.length
  | [], _, _, _ => Nat.zero_le _
  | c :: r, ys, nd, h => by
    obtain ⟨n1, n2⟩ := List.nodup_cons.mp nd
    have hc := h c (List.mem_cons_self ..)
    have k : r.length ≤ (ys.erase c).length := crowd n2 fun d hd => (List.mem_erase_of_ne (fun e => n1 (by rw [← e]; exact hd))).mpr (h d (List.mem_cons_of_mem _ hd))
    rw [List.length_erase_of_mem hc] at k
    have hl : 0 < ys.length := List.length_pos_of_mem hc
    rw [List.length_cons]
    omega
def cands : List Str := (List.range 12).map fun i => aS (1 + i)
theorem cands_nodup : cands.Nodup := by
  have z : ((List.range 12).map fun i => (aS (1 + i)).length).Nodup := by
    have e : ((List.range 12).map fun i => (aS (1 + i)).length) = (List.range 12).map fun i => 1 + i := List.map_congr_left fun i _ => aS_len _
    rw [e]
    decide
  have z2 : (cands.map (·.length)).Nodup := by
    unfold cands
    rw [List.map_map]
    exact z
  exact List.Pairwise.of_map (f := fun z : Str => z.length) (fun a b h e => h (by rw [e])) z2
theorem spare_first {ys : List Str} (hl : ys.length ≤ 10) : ∃ z, (given 12 (fun i => !decide (aS (1 + i) ∈ ys)) (fun i => V.str (aS (1 + i))))[0]? = some (.str z) ∧ z ∉ ys ∧ Let z ∧ 1 ≤ z.length ∧ z.length ≤ 12 := by
  have ne : ((List.range 12).filter fun i => !decide (aS (1 + i) ∈ ys)) ≠ [] := by
    intro e
    have all : ∀ c ∈ cands, c ∈ ys := by
      intro c hc
      obtain ⟨i, hi, rfl⟩ := List.mem_map.mp hc
      by_cases h : aS (1 + i) ∈ ys
      · exact h
      · have m : i ∈ (List.range 12).filter fun i => !decide (aS (1 + i) ∈ ys) := List.mem_filter.mpr ⟨hi, by simp [h]⟩
        rw [e] at m
        cases m
    have k := crowd cands_nodup all
    have k2 : cands.length = 12 := by
      unfold cands
      rw [List.length_map, List.length_range]
    omega
  unfold given
  cases hf : (List.range 12).filter fun i => !decide (aS (1 + i) ∈ ys) with
  | nil => exact absurd hf ne
  | cons i r =>
    have m : i ∈ (List.range 12).filter fun i => !decide (aS (1 + i) ∈ ys) := by
      rw [hf]
      exact List.mem_cons_self ..
    obtain ⟨m1, m2⟩ := List.mem_filter.mp m
    have m3 := List.mem_range.mp m1
    exact ⟨aS (1 + i), rfl, by simpa using m2, aS_let _, by rw [aS_len]; omega, by rw [aS_len]; omega⟩
theorem two_c {k : Bool} {u v : V} {σ : L2.St} {H : Hp} {Q : VK} (h : ∀ x, x = u ∨ x = v → Q x H) : if k = true then tC u σ H Q else tC v σ H Q := by
  cases k with
  | true => exact h u (.inl rfl)
  | false => exact h v (.inr rfl)

theorem given_all_at {j : Nat} {x : V} {v : Nat → V} {n : Nat} (h : (given n (fun _ => true) v)[j]? = some x) : x = v j := by
  unfold given at h
  rw [List.filter_eq_self.mpr (fun _ _ => rfl), List.getElem?_map] at h
  cases q : (List.range n)[j]? with
  | none =>
    rw [q] at h
    cases h
  | some k =>
    rw [q] at h
    obtain ⟨hk, ek⟩ := List.getElem?_eq_some_iff.mp q
    rw [List.getElem_range] at ek
    subst ek
    exact (Option.some.inj h).symm

theorem pe_nv {X : Cx} {e : Expr} : PE X e (fun _ _ _ => False) := ⟨fun _ _ _ _ _ _ h => h.elim⟩
theorem pt_nv {X : Cx} {e : Expr} : PT X e (fun _ _ _ => False) := ⟨fun _ _ _ _ _ _ h => h.elim⟩
theorem pg_nv {X : Cx} {e : Expr} : PG X e (fun _ _ _ _ => False) := ⟨fun _ _ _ _ _ _ _ _ _ h => h.elim⟩
theorem op_in_nil {X : Cx} : OpR X (compareOp .In) (fun x y H Q => ∃ p, y = .ref p ∧ SqT X.K H p [] ∧ Q (.bl false) H) := by
  intro pins s σ H x y v u Q I rx ry h
  obtain ⟨p, rfl, hq, q⟩ := h
  cases ry
  obtain ⟨its, r, pl, hz⟩ := I.tuple hq
  cases r
  refine SeqAt.in_tupleAt (fun _ => false) pl (fun w hw => by simp at hw) ?_
  have e : (([] : List Value).toArray.any fun x => false) = false := by simp
  rw [e]
  exact ⟨.bl false, H, I, rfl, q⟩

/-! ### names -/
def goodN (z : Str) : Bool := decide (1 ≤ z.length) && (decide (z.length ≤ 12) && z.cps.toList.all fun c => decide (c ∈ alphabet.cps.toList))
def spIsName : Sp := fun vs H Q _ => ∃ z : Str, vs = [.str z] ∧ z.length ≤ 1000 ∧ ∀ H', Ex H H' → Q (.bl (goodN z)) H'

theorem ev_chain {ta tb tc : TE} {σ : L2.St} {H : Hp} {a b c : Int} (ha : Ev ta σ H (.int a)) (hb : Ev tb σ H (.int b)) (hc : Ev tc σ H (.int c)) : Ev (tChain (rI0 fun i j => .bl (decide (i ≤ j))) (rI0 fun i j => .bl (decide (i ≤ j))) ta tb tc) σ H (.bl (decide (a ≤ b) && decide (b ≤ c))) := fun H1 e Q q =>
  ha H1 e _ fun H2 e2 => hb H2 (e.trans e2) _ fun H3 e3 => ⟨a, b, rfl, rfl, decide (a ≤ b), rfl, by
    cases h : decide (a ≤ b) with
    | false =>
      rw [h] at q
      exact ite_ff (q H3 (e2.trans e3))
    | true =>
      rw [h, Bool.true_and] at q
      exact ite_tt (hc H3 ((e.trans e2).trans e3) _ fun H4 e4 => ⟨b, c, rfl, rfl, q H4 ((e2.trans e3).trans e4)⟩)⟩
theorem isi_str {K : PySem.W.Frag} {H : Hp} {z : Str} : RC (rIsi K) [.str z, .ty "str"] H (.bl true) := fun H1 e Q q => ⟨.str z, .ty "str", .type "str", .type "str", true, rfl, .ty _, .base (.str z), kit_ty (by decide +kernel), q H1 (Ex.refl _)⟩
theorem ev_isiT {K : PySem.W.Frag} {ta : TE} {σ : L2.St} {H : Hp} {x : V} {t : Value} {b : Bool} (ha : Ev ta σ H x) (hT : ∀ H1, Ex H H1 → TyX K H1 x t) (hk : PySem.W.kitAny K t [.type "list", .type "tuple"] = some b) :
    Ev (tCB (rIsiT K) (tCons ta (tCons (tTup (tCons (tC (.ty "list")) (tCons (tC (.ty "tuple")) tNil))) tNil))) σ H (.bl b) := fun H1 e Q q =>
  ha H1 e _ fun H2 e2 => (eu_tup (ea_cons ev_c (ea_cons ev_c ea_nil)) (by decide)) H2 (e.trans e2) _ fun p H3 n e3 h3 => ⟨x, p, _, t, [.type "list", .type "tuple"], b, rfl, h3, .cons (.ty _) (.cons (.ty _) .nil), hT H3 ((e.trans e2).trans e3), hk, q H3 (e2.trans e3)⟩
theorem kit_no {K : PySem.W.Frag} : PySem.W.kitAny K (.type "str") [.type "list", .type "tuple"] = some false := kitAny_cons (b := false) (kit_ty (by decide +kernel)) (fun _ => kitAny_cons (b := false) (kit_ty (by decide +kernel)) (fun _ => kitAny_nil) (fun z => nomatch z)) (fun z => nomatch z)
theorem kit_l {K : PySem.W.Frag} : PySem.W.kitAny K (.type "list") [.type "list", .type "tuple"] = some true := kitAny_cons (b := true) (kit_ty (by decide +kernel)) (fun z => nomatch z) (fun _ => rfl)
theorem kit_t {K : PySem.W.Frag} : PySem.W.kitAny K (.type "tuple") [.type "list", .type "tuple"] = some true := kitAny_cons (b := false) (kit_ty (by decide +kernel)) (fun _ => kitAny_cons (b := true) (kit_ty (by decide +kernel)) (fun z => nomatch z) (fun _ => rfl)) (fun z => nomatch z)
theorem take_more {α : Type} {l : List α} {i : Nat} {c : α} (h : l[i]? = some c) : l.take (i + 1) = l.take i ++ [c] := by
  rw [List.take_add_one, h]
  rfl

mutual
theorem dpM {K : PySem.W.Frag} {H H' : Hp} (e : Ex H H') : ∀ (d : PyData) (v : V), Dp K H v d → Dp K H' v d
  | .none, _, h => by
    cases h
    exact .non
  | .bool b, _, h => by
    cases h
    exact .bl b
  | .int i, _, h => by
    cases h
    exact .int i
  | .str x, _, h => by
    cases h
    exact .str x
  | .list ds, _, h => by
    cases h with
    | lst h1 h2 => exact .lst (ex_l e h1) (dpMs e ds _ h2)
  | .tuple ds, _, h => by
    cases h with
    | tup h1 h2 => exact .tup (ex_t e h1) (dpMs e ds _ h2)
  | .dict _, _, h => by cases h
theorem dpMs {K : PySem.W.Frag} {H H' : Hp} (e : Ex H H') : ∀ (ds : List PyData) (vs : List V), DpAll K H vs ds → DpAll K H' vs ds
  | [], _, h => by
    cases h
    exact .nil
  | d :: ds, _, h => by
    cases h with
    | cons h1 h2 => exact .cons (dpM e d _ h1) (dpMs e ds _ h2)
end

def legal (zs : List Str) : Prop := ∀ z ∈ zs, PyData.strOk z = true
def Tn (z : Str) : Prop := z.length ≤ 1000 ∧ PyData.strOk z = true
theorem let_ok {z : Str} (h : Let z) : PyData.strOk z = true := by
  unfold PyData.strOk
  rw [Array.all_eq_true]
  intro i hi
  have k := h z.cps[i] (by simp)
  exact decide_eq_true (by omega)
theorem lay_strs : ∀ zs : List Str, legal zs → PyData.canLayAll0 (zs.map PyData.str) = true
  | [], _ => by simp [PyData.canLayAll0]
  | z :: r, h => by
    have k := lay_strs r fun y hy => h y (List.mem_cons_of_mem _ hy)
    have k2 := h z List.mem_cons_self
    simp [PyData.canLayAll0, PyData.canLay0, k, k2]
theorem dep_strs : ∀ zs : List Str, PyData.depthAll (zs.map PyData.str) ≤ 1
  | [] => by simp [PyData.depthAll]
  | z :: r => by
    have k := dep_strs r
    simp only [List.map_cons, PyData.depthAll, PyData.depth]
    omega
theorem dp_strs {K : PySem.W.Frag} {H : Hp} : ∀ zs : List Str, DpAll K H (zs.map V.str) (zs.map PyData.str)
  | [] => .nil
  | z :: r => .cons (.str z) (dp_strs r)
theorem shp_list (zs : List Str) (h : legal zs) : SeqAt.shaped (.list (zs.map PyData.str)) = true := by
  have k := dep_strs zs
  unfold SeqAt.shaped
  rw [Bool.and_eq_true]
  refine ⟨by simp [PyData.canLay0, lay_strs zs h], decide_eq_true ?_⟩
  simp only [PyData.depth]
  omega

theorem cut_take (xs : List V) (i : Nat) : cutV xs none (some (i : Int)) = xs.take i := by
  unfold cutV
  rw [HT.sIx_none, HT.sIx_nat, List.drop_zero, Nat.sub_zero]
  rcases Nat.le_total i xs.length with h | h
  · rw [Nat.min_eq_left h]
  · rw [Nat.min_eq_right h, List.take_of_length_le (Nat.le_refl _), List.take_of_length_le h]

theorem cut_drop (xs : List V) (i : Nat) : cutV xs (some (i : Int)) none = xs.drop i := by
  unfold cutV
  rw [HT.sIx_none, HT.sIx_nat]
  rcases Nat.le_total i xs.length with h | h
  · rw [Nat.min_eq_left h, List.take_of_length_le (by rw [List.length_drop]; exact Nat.le_refl _)]
  · rw [Nat.min_eq_right h, Nat.sub_self, List.take_zero, List.drop_eq_nil_of_le h]

theorem strs_off {p l b : Addr} {n : Nat} {H : Hp} {zs : List Str} (h : Pen p l n H) (k : H b = some (.lst (zs.map V.str))) : b ≠ p ∧ b ≠ l := by
  obtain ⟨c, ns, e1, e2, e3, _⟩ := h
  refine ⟨fun e => ?_, fun e => ?_⟩
  · rw [e, e1] at k
    cases zs with
    | nil => cases HO.lst.inj (Option.some.inj k)
    | cons z r =>
      have y := HO.lst.inj (Option.some.inj k)
      rw [List.map_cons] at y
      cases (List.cons.inj y).1
  · rw [e, e2] at k
    cases ns with
    | nil => exact e3 rfl
    | cons n r =>
      cases zs with
      | nil => cases HO.lst.inj (Option.some.inj k)
      | cons z r2 =>
        have y := HO.lst.inj (Option.some.inj k)
        rw [List.map_cons, List.map_cons] at y
        cases (List.cons.inj y).1
theorem tup_off {p l b : Addr} {n : Nat} {H : Hp} {xs : List V} (h : Pen p l n H) (k : H b = some (.tup xs)) : b ≠ p ∧ b ≠ l := by
  obtain ⟨c, ns, e1, e2, e3, _⟩ := h
  exact ⟨(fun e => by rw [e, e1] at k; cases k), (fun e => by rw [e, e2] at k; cases k)⟩

theorem nat_of {r m : Int} (h : 0 ≤ r ∧ r < m) : ∃ n : Nat, r = (n : Int) ∧ (n : Int) < m := ⟨r.toNat, by omega, by omega⟩

def Xa (a : Addr) (H H' : Hp) : Prop := ∀ c o, c ≠ a → H c = some o → H' c = some o
theorem Xa.of {a : Addr} {H H' : Hp} (e : Ex H H') : Xa a H H' := fun c o _ h => e c o h
theorem Xa.trans {a : Addr} {H H1 H2 : Hp} (p : Xa a H H1) (q : Xa a H1 H2) : Xa a H H2 := fun c o n h => q c o n (p c o n h)
theorem Xa.upd {a : Addr} {H : Hp} {o : HO} : Xa a H (upd H a o) := fun c u n h => (upd_ne n).trans h
theorem Xa.new {a : Addr} {H0 H H' : Hp} (e : Ex H0 H) (n : H0 a = none) (k : Xa a H H') : Ex H0 H' := fun c o h => k c o (ne_of_none h n) (e c o h)
theorem putF_tail {f g : Str} {v x : V} {r : List (Str × V)} (h : ¬ g = f) : putF f v ((g, x) :: r) = (g, x) :: putF f v r := if_neg h

theorem pe_fldc {X : Cx} {K : PySem.W.Frag} {e : Expr} {ta : TE} {f : Str} {pos : Pos} (hK : X.K = K) (he : PE X e ta) (hb : attributeBase e f X.env (eval e X.env) = eval e X.env) : PE X (.Attribute e f pos) (tFld K ta f) := hK ▸ pe_fld he hb
/-- a field of an instance, as it is read -/
theorem ev_fld {K : PySem.W.Frag} {ta : TE} {σ : L2.St} {H : Hp} {a C dx : Addr} {fs : List (Str × V)} {f : Str} {v : V} (h : Ev ta σ H (.ref a)) (ha : H a = some (.ins C dx fs)) (c : Cls K C) (n : NoAttr K C f) (l : fs.lookup f = some v) : Ev (tFld K ta f) σ H v := fun H1 e Q q =>
  h H1 e _ fun H2 e2 => ⟨a, C, dx, fs, v, rfl, e2 _ _ (e _ _ ha), c, n, l, q H2 e2⟩

theorem q_cb {te : TE} {r : List V → Hp → VK → Prop} {i : Nat} {tz : TS} {D : Ends} {σ : L2.St} {H : Hp} (h : te σ H fun x H1 => r [x] H1 fun v H2 => tz D (σ.set i (some v)) H2) : tSeq (tAsg (tCB r (tCons te tNil)) (gName i)) tz D σ H := h


/-! ### trees of texts -/
mutual
inductive Tt : Nat → PyData → Prop
  | str {n : Nat} {z : Str} (h : z.length ≤ 1000) : Tt n (.str z)
  | int {n : Nat} (i : Int) : Tt n (.int i)
  | tup {n : Nat} {ds : List PyData} (l : ds.length ≤ 100) (h : Tts n ds) : Tt (n + 1) (.tuple ds)
inductive Tts : Nat → List PyData → Prop
  | nil {n : Nat} : Tts n []
  | cons {n : Nat} {d : PyData} {ds : List PyData} (h : Tt n d) (r : Tts n ds) : Tts n (d :: ds)
end
theorem Tts.at {n : Nat} : ∀ {ds : List PyData}, Tts n ds → ∀ d ∈ ds, Tt n d
  | _, .cons h r, d, hd => by
    rcases List.mem_cons.mp hd with e | k
    · rw [e]; exact h
    · exact r.at d k
theorem Tts.of {n : Nat} : ∀ {ds : List PyData}, (∀ d ∈ ds, Tt n d) → Tts n ds
  | [], _ => .nil
  | d :: r, h => .cons (h d List.mem_cons_self) (Tts.of fun x hx => h x (List.mem_cons_of_mem _ hx))
mutual
theorem Tt.up : ∀ {n : Nat} {d : PyData}, Tt n d → Tt (n + 1) d
  | _, _, .str h => .str h
  | _, _, .int i => .int i
  | _, _, .tup l h => .tup l h.up
theorem Tts.up : ∀ {n : Nat} {ds : List PyData}, Tts n ds → Tts (n + 1) ds
  | _, _, .nil => .nil
  | _, _, .cons h r => .cons h.up r.up
end
theorem Tts.app {n : Nat} : ∀ {ds es : List PyData}, Tts n ds → Tts n es → Tts n (ds ++ es)
  | _, _, .nil, h => h
  | _, _, .cons h r, k => .cons h (r.app k)
theorem dpAll_len {K : PySem.W.Frag} {H : Hp} : ∀ {vs : List V} {ds : List PyData}, DpAll K H vs ds → vs.length = ds.length
  | _, _, .nil => rfl
  | _, _, .cons _ r => by rw [List.length_cons, List.length_cons, dpAll_len r]
theorem dpAll_at {K : PySem.W.Frag} {H : Hp} : ∀ {vs : List V} {ds : List PyData}, DpAll K H vs ds → ∀ {i : Nat} {v : V}, vs[i]? = some v → ∃ d, ds[i]? = some d ∧ Dp K H v d
  | _, _, .nil, i, v, h => by cases h
  | _, _, .cons (d := d) h r, 0, v, e => by
    cases e
    exact ⟨d, rfl, h⟩
  | _, _, .cons h r, i + 1, v, e => dpAll_at r (i := i) e
theorem dpAll_add {K : PySem.W.Frag} {H : Hp} {v : V} {d : PyData} : ∀ {vs : List V} {ds : List PyData}, DpAll K H vs ds → Dp K H v d → DpAll K H (vs ++ [v]) (ds ++ [d])
  | _, _, .nil, h => .cons h .nil
  | _, _, .cons a r, h => .cons a (dpAll_add r h)
theorem dpAll_app {K : PySem.W.Frag} {H : Hp} : ∀ {vs ws : List V} {ds es : List PyData}, DpAll K H vs ds → DpAll K H ws es → DpAll K H (vs ++ ws) (ds ++ es)
  | _, _, _, _, .nil, h => h
  | _, _, _, _, .cons a r, h => .cons a (dpAll_app r h)
/-- a write to a list leaves trees of texts as they are -/
theorem sqt_off {K : PySem.W.Frag} {H : Hp} {a D : Addr} {xs ys : List V} {o : HO} (h : SqT K H a xs) (hD : H D = some (.lst ys)) : SqT K (upd H D o) a xs := by
  rcases h with h | h
  · refine .inl ?_
    rcases h with h | ⟨ob, h⟩
    · exact .inl ((upd_ne (fun e => by rw [e, hD] at h; cases h)).trans h)
    · exact .inr ⟨ob, (upd_ne (fun e => by rw [e, hD] at h; cases h)).trans h⟩
  · exact .inr h
mutual
theorem dp_off {K : PySem.W.Frag} {H : Hp} {D : Addr} {ys : List V} {o : HO} (hD : H D = some (.lst ys)) : ∀ {n : Nat} {d : PyData} {v : V}, Tt n d → Dp K H v d → Dp K (upd H D o) v d
  | _, _, _, .str _, h => by
    cases h
    exact .str _
  | _, _, _, .int _, h => by
    cases h
    exact .int _
  | _, _, _, .tup _ hs, h => by
    cases h with
    | tup h1 h2 => exact .tup (sqt_off h1 hD) (dps_off hD hs h2)
theorem dps_off {K : PySem.W.Frag} {H : Hp} {D : Addr} {ys : List V} {o : HO} (hD : H D = some (.lst ys)) : ∀ {n : Nat} {ds : List PyData} {vs : List V}, Tts n ds → DpAll K H vs ds → DpAll K (upd H D o) vs ds
  | _, _, _, .nil, h => by
    cases h
    exact .nil
  | _, _, _, .cons h1 r1, h => by
    cases h with
    | cons h2 r2 => exact .cons (dp_off hD h1 h2) (dps_off hD r1 r2)
end
theorem tyx_t {K : PySem.W.Frag} {H : Hp} {a : Addr} {xs : List V} (h : SqT K H a xs) : TyX K H (.ref a) (.type "tuple") := by
  rcases h with h | ⟨o, its, n, hk, hc, _⟩
  · rcases h with h | ⟨ob, h⟩
    · exact .base (.tup h)
    · exact .fTuple h
  · exact .kTuple hk hc
theorem tyx_l {K : PySem.W.Frag} {H : Hp} {a : Addr} {xs : List V} (h : SqL K H a xs) : TyX K H (.ref a) (.type "list") := by
  rcases h with h | ⟨o, its, n, hk, hc, _⟩
  · rcases h with h | ⟨ob, h⟩
    · exact .base (.lst h)
    · exact .base (.frz h)
  · exact .kList hk hc
theorem op_catT0 {X : Cx} : OpR X (binaryOp .Add) (fun x y H Q => ∃ a b ys, x = .ref a ∧ y = .ref b ∧ SqT X.K H a [] ∧ SqT X.K H b ys ∧ Q (.ref b) H) := by
  intro pins s σ H x y v u Q I rx ry h
  obtain ⟨a, b, ys, rfl, rfl, ha, hb, q⟩ := h
  cases rx
  cases ry
  obtain ⟨its, r1, p1, _⟩ := I.tuple ha
  obtain ⟨its2, r2, p2, _⟩ := I.tuple hb
  cases r1
  obtain ⟨⟨cls, dd, data, sl⟩, ho, hc, n, hd⟩ := id p1
  obtain ⟨⟨cls2, dd2, data2, sl2⟩, ho2, hc2, n2, hd2⟩ := id p2
  simp only at hc hd hc2 hd2
  subst hc hd hc2 hd2
  exact concat_meets ⟨_, ho, rfl⟩ ⟨_, ho2, rfl⟩ noFill_tuple_add seq_tuple_add PySem.F.slot_tuple_add PySem.F.entry_tuple_add (PySem.F.args_tuple_add_2 _ _) (tuple_addW0 a b _ its2.toArray n n2 dd dd2 sl sl2 (by simp)) ⟨ho, ho2, ⟨.ref b, H, I, rfl, q⟩⟩
theorem units65 {k : Nat} {A : Around} (r : Room k A) : A.units + 65 < cLine := by
  have z := r.un
  omega
theorem go_test {t : TT} {σ : L2.St} {H : Hp} {b : Bool} {Q : Bool → Hp → Prop} (h : EvT t σ H b) (k : ∀ H2, Ex H H2 → Q b H2) : t σ H Q := h H (Ex.refl H) Q k
theorem pg_tupc {X : Cx} {K : PySem.W.Frag} {es : List Expr} {k : Nat} {t : TGs} {n : Nat} {pos : Pos} (hK : X.K = K) (hc : X.calm = true) (h : PGs X es t) (hn : (assignEach es X.env).length = n := by rfl) (hst : (assignEach es X.env).findIdx? (·.1) = none := by rfl) : PG X (.Tuple es k pos) (gTup K n t) := hK ▸ pg_tup hc h hn hst
theorem walk_zipT {K : PySem.W.Frag} {a b : Addr} {xs ys : List V} {n : Nat} (hn : n = min xs.length ys.length) : Walk (RZ.ItzT K a b) n (fun H => SqT K H a xs ∧ SqT K H b ys) (YPair (fun i => xs[i]?) (fun i => ys[i]?)) := by
  subst hn
  refine ⟨fun i _ hi q => ?_, fun _ q => ⟨xs, ys, q.1, q.2, by omega⟩, fun i H v H' _ q y => ?_⟩
  · have k1 : i < xs.length := by omega
    have k2 : i < ys.length := by omega
    exact ⟨xs, ys, xs[i], ys[i], q.1, q.2, List.getElem?_eq_getElem k1, List.getElem?_eq_getElem k2⟩
  · obtain ⟨T, x, z, e1, e2, e3, e4, e5⟩ := y
    exact ⟨T, x, z, e1, e2, e3, e4 xs q.1, e5 ys q.2⟩
/-! ### statements -/
def ENT : List (Str × List Str) := [("put", ["cell"]), ("blank", ["cell"]), ("give", ["cell"]), ("push", ["row"]), ("pop", ["row"]), ("cut", ["row"]), ("answer", ["how"]), ("deeper", ["function"]), ("stop", ["end"]), ("fault", []), ("may", []), ("again", []), ("out", []),
  ("either", ["part", "part"]), ("tries", ["part"]), ("told", ["part", "part"]), ("look", ["cell", "part", "part"]), ("guard", ["part", "part"]), ("lastly", ["part", "part"])]
def isP : PyData → Bool
  | .tuple _ => true
  | _ => false
def argsOf : PyData → List PyData
  | .tuple (_ :: r) => r
  | _ => []
def wordOf : PyData → PyData
  | .tuple (w :: _) => w
  | _ => .none
def bodyOf : PyData → List PyData
  | .tuple ds => ds
  | _ => []
def parts (d : PyData) : List PyData := (argsOf d).filter isP
/-- a statement by its shape: a known word, as many entries as it has, parts where it has parts -/
def Sh (d : PyData) : Prop := ∃ w ks args, d = .tuple (.str w :: args) ∧ (w, ks) ∈ ENT ∧ args.length = ks.length ∧ ∀ (i : Nat) (k : Str) (x : PyData), ks[i]? = some k → args[i]? = some x → isP x = decide (k = "part")
def nums : Nat → List PyData → List PyData → List (PyData × List PyData)
  | 0, _, _ => []
  | n + 1, ss, ar => ss.flatMap fun s => (s, ar) :: ((parts s).zipIdx.flatMap fun p => nums n (bodyOf p.1) (ar ++ [.tuple [wordOf s, .int (p.2 : Nat)]]))
/-- a body: short, of such statements, of such bodies -/
def Bod : Nat → List PyData → Prop
  | 0, ss => ss = []
  | n + 1, ss => ss.length ≤ 14 ∧ ∀ s ∈ ss, Sh s ∧ ∀ p ∈ parts s, ∃ ds, p = .tuple ds ∧ Bod n ds
/-! ### the walkers' promises over trees -/
def spKd (K : PySem.W.Frag) : Sp := fun vs H Q _ => ∃ t w rest ks, vs = [.ref t] ∧ SqT K H t (.str w :: rest) ∧ (w, ks) ∈ ENT ∧ ∀ a H', (∀ H, SqT K H a (ks.map V.str)) → Ex H H' → Q (.ref a) H'
def spPt (K : PySem.W.Frag) : Sp := fun vs H Q _ => ∃ v d n, vs = [v] ∧ Dp K H v d ∧ Tt n d ∧ Sh d ∧ ∀ q ys H', H q = none → Ex H H' → H' q = some (.lst ys) → DpAll K H' ys (parts d) → Q (.ref q) H'

def spFr (K : PySem.W.Frag) (n : Nat) : Sp := fun vs H Q _ => ∃ v d, vs = [v] ∧ Dp K H v d ∧ Tt n d ∧ ∀ v' H', Ex H H' → Dp K H' v' d → Q v' H'

end TR
set_option Elab.async false
set_option linter.all false
set_option maxRecDepth 100000
set_option maxHeartbeats 8000000
/-! max with default=, == by an own __eq__ of any outcome. -/
namespace XQ
open PySem PySem.Spec PyProof.Rows L2 He XH XV XR PEN TR Evl

/-! ### max(xs, default=d) -/
def mxD (d : Int) : List Int → Int
  | [] => d
  | n :: r => r.foldl max n
def rMaxDef (K : PySem.W.Frag) : List V → List V → Hp → VK → Prop := fun vs zs H Q => ∃ (a : Addr) (ns : List Int) (d : Int), vs = [V.ref a] ∧ zs = [V.int d] ∧ SqL K H a (ns.map V.int) ∧ Q (.int (mxD d ns)) H
theorem reads_nums {h : Heap} : ∀ {ns : List Int} {its : List Value}, Vals (ns.map V.int) its → ReadsAll h its (ns.map PyData.int) []
  | [], _, r => by
    cases r
    exact .nil
  | n :: ns, _, r => by
    cases r with
    | cons r1 r2 =>
      obtain ⟨t, rfl⟩ := r1
      exact ReadsAll.cons (.int n t) (reads_nums r2)
theorem depth_nums : ∀ ns : List Int, PyData.depthAll (ns.map PyData.int) ≤ 1
  | [] => by simp [PyData.depthAll]
  | n :: r => by
    have k := depth_nums r
    simp only [List.map_cons, PyData.depthAll, PyData.depth]
    omega
theorem alike_nums (ns : List Int) : PySem.W.AlikeAll (ns.map PyData.int) := PySem.W.alikeAll_datum ns
theorem cr_maxDef {X : Cx} (hc : X.calm = true) (hu : X.A.units + 65 < cLine) : CallRK X (.builtin "max") [Str.ofString "default"] (rMaxDef X.K) := by
  intro pins s σ H xs zs us ws Q I rx rz h
  obtain ⟨a, ns, d, rfl, rfl, hs, q⟩ := h
  obtain ⟨its, rv, hl, _⟩ := I.list hs
  rw [Vals.ref1 rx]
  cases rz with
  | @cons _ w0 _ _ r1 r2 =>
    cases r2
    have dn := depth_nums ns
    refine PySem.W.max_list_default (d := w0) (xs := ns.map PyData.int) (as := []) (I.ok.hd hc) hl.isList (by simpa using reads_nums rv) (alike_nums ns) (by omega) (fun e h' tk hk => ?_) (fun y ys i v h' tk bs e hi r hk => ?_)
    · have e2 : ns = [] := List.map_eq_nil_iff.mp e
      subst e2
      exact ⟨.int d, H, I.kept hk, r1, q⟩
    · cases ns with
      | nil => cases e
      | cons n rest =>
        rw [List.map_cons] at e
        injection e with e1 e2
        subst e1 e2
        rw [PySem.W.maxD_ints] at r
        obtain ⟨t, rfl, _⟩ := reads_int_inv r
        exact ⟨.int (rest.foldl max n), H, I.kept hk, ⟨_, rfl⟩, q⟩

/-! ### x == y by the own __eq__ of x's class -/
def rOwn (K : PySem.W.Frag) (C : Addr) (sp : Sp) : R2 := fun x y H Q => ∃ (a dx : Addr) (fs : List (Str × V)) (t : Value), x = .ref a ∧ H a = some (.ins C dx fs) ∧ TyX K H y t ∧ PySem.W.notFirst K C t = true ∧ sp [.ref a, y] H (fun v H' => (∃ b, v = .bl b) ∧ Q v H') E0
theorem op_own {X : Cx} {C f : Addr} {fd : FuncData} {ps : List Str} {sp : Sp} {n : Nat} (F : FnOk X.prog X.w X.K X.mg X.base CX0 n f fd ps sp)
    (hs : PySem.W.findIn X.K (.ref C) "__eq__" = some (some (.ref f))) (hf : PySem.W.isFn X.K (.ref f) = true) (hb : Binds X.K fd ps []) (hr : Room n X.A) : OpR X (compareOp .Eq) (rOwn X.K C sp) := by
  intro pins s σ H x y v u Q I rx ry h
  obtain ⟨a, dx, fs, t, rfl, ha, ty, nf, hsp⟩ := h
  cases (show v = Value.ref a from rx)
  obtain ⟨mA, J, _⟩ := ins_get I.hok ha
  obtain ⟨od, J, _⟩ := J.look
  obtain ⟨m, hF⟩ := I.fr
  obtain ⟨P, Z, hp, _⟩ := kit_of I ry ty
  show wpAny (model X.prog X.w) X.A (richCompare .Eq (.ref a) u) (EP X pins σ Q) X.xe s
  refine PySem.W.cmp_K (op := .Eq) (tb := t) hr.units0 hF I.ok.mod.kin J (Z.ty _ _ I.kIn hp) nf hs hf ?_
  have hl := F.len _ _ _ _ hsp
  have r2 : Vals [V.ref a, y] [Value.ref a, u] := .cons rfl (.cons ry .nil)
  refine wpAny_call (codeAny_mono (F.run X.A X.stack s H ⟨[.ref a, u], []⟩ [.ref a, u] [.ref a, y] _ E0 hr I.env0 (by
    have := hb s [.ref a, u] I.kIn (by simpa using hl)
    simpa using this) r2 hsp) fun r s' hq => ?_)
  cases r with
  | error e => exact False.elim hq
  | ok fl =>
    cases fl with
    | ret w =>
      obtain ⟨z, H', I', rz, ⟨b, ez⟩, qz⟩ := I.after hq
      subst ez
      cases (show w = Value.bool b from rz)
      exact ⟨.bl b, H', I', rfl, qz⟩
    | next => exact False.elim hq
    | brk => exact False.elim hq
    | cont => exact False.elim hq
theorem op_or {X : Cx} {f : Value → Value → Sem Value} {r r' : R2} (h : OpR X f r) (h' : OpR X f r') : OpR X f (fun x y H Q => r x y H Q ∨ r' x y H Q) := by
  intro pins s σ H x y v u Q I rx ry q
  rcases q with q | q
  · exact h pins s σ H x y v u Q I rx ry q
  · exact h' pins s σ H x y v u Q I rx ry q
def orR (r r' : R2) : R2 := fun x y H Q => r x y H Q ∨ r' x y H Q
theorem op_or2 {X : Cx} {f : Value → Value → Sem Value} {r r' : R2} (h : OpR X f r) (h' : OpR X f r') : OpR X f (orR r r') := op_or h h'
end XQ

set_option Elab.async false
set_option linter.all false
set_option maxRecDepth 100000
set_option maxHeartbeats 8000000
/-! Puzzles: trees as data, what a puzzle is in a heap. -/
namespace PZ
open PySem PySem.Spec PyProof.Rows L2 He XH XV XR PEN TR XQ Evl

/-! ### trees -/
def nd (bs : List Int) (ks : List PyData) : PyData := .tuple [.tuple (bs.map PyData.int), .tuple ks]
theorem nums_inj : ∀ {a b : List Int}, a.map PyData.int = b.map PyData.int → a = b
  | [], [], _ => rfl
  | x :: a, y :: b, h => by
    rw [List.map_cons, List.map_cons] at h
    injection h with h1 h2
    injection h1 with h1
    rw [h1, nums_inj h2]
theorem nd_inj {bs bs' : List Int} {ks ks' : List PyData} (h : nd bs ks = nd bs' ks') : bs = bs' ∧ ks = ks' := by
  unfold nd at h
  injection h with h
  injection h with h1 h2
  injection h1 with h1
  injection h2 with h2 _
  injection h2 with h2
  exact ⟨nums_inj h1, h2⟩
mutual
def size : PyData → Nat
  | .tuple [_, .tuple ks] => 1 + sizeL ks
  | _ => 0
def sizeL : List PyData → Nat
  | [] => 0
  | k :: r => size k + sizeL r
end
mutual
def deep : PyData → Nat
  | .tuple [_, .tuple ks] => 1 + deepL ks
  | _ => 0
def deepL : List PyData → Nat
  | [] => 0
  | k :: r => max (deep k) (deepL r)
end
/-- the digits of a node -/
def istr (i : Int) : Str := (toString i : String)
def digS (bs : List Int) : Str := if (Txt.join ("" : Str) (bs.map istr)).length = 0 then "." else Txt.join ("" : Str) (bs.map istr)
def intOf : PyData → Int
  | .int i => i
  | _ => 0
mutual
def spell : PyData → Str
  | .tuple [.tuple bs, .tuple ks] => if ks = [] then digS (bs.map intOf) else digS (bs.map intOf) ++ ("(" : Str) ++ Txt.join ("," : Str) (spellL ks) ++ (")" : Str)
  | _ => "-"
def spellL : List PyData → List Str
  | [] => []
  | k :: r => spell k :: spellL r
end
def isN : PyData → Bool
  | .none => true
  | _ => false
/-- how many are left if what is spare at the end is dropped -/
def keepN {α : Type} (p : α → Bool) : List α → Nat
  | [] => 0
  | x :: r => if keepN p r = 0 then (if p x = true then 0 else 1) else keepN p r + 1
def short {α : Type} (p : α → Bool) (xs : List α) : List α := xs.take (keepN p xs)
def isZ : Int → Bool := fun b => decide (b = 0)
mutual
def trim : PyData → PyData
  | .tuple [.tuple bs, .tuple ks] => nd (short isZ (bs.map intOf)) ((trimL ks).take (keepN isN (trimL ks)))
  | d => d
def trimL : List PyData → List PyData
  | [] => []
  | k :: r => trim k :: trimL r
end
theorem ints_of (bs : List Int) : (bs.map PyData.int).map intOf = bs := by
  rw [List.map_map]
  exact List.map_id' bs
theorem size_nd (bs : List Int) (ks : List PyData) : size (nd bs ks) = 1 + sizeL ks := by simp [size, nd]
theorem deep_nd (bs : List Int) (ks : List PyData) : deep (nd bs ks) = 1 + deepL ks := by simp [deep, nd]
theorem spell_nd (bs : List Int) (ks : List PyData) : spell (nd bs ks) = if ks = [] then digS bs else digS bs ++ ("(" : Str) ++ Txt.join ("," : Str) (spellL ks) ++ (")" : Str) := by
  have e := ints_of bs
  simp only [spell, nd]
  rw [e]
theorem trim_nd (bs : List Int) (ks : List PyData) : trim (nd bs ks) = nd (short isZ bs) (short isN (trimL ks)) := by
  have e := ints_of bs
  simp only [trim, nd]
  rw [e]
  rfl
theorem spellL_map (ks : List PyData) : spellL ks = ks.map spell := by
  induction ks with
  | nil => rfl
  | cons k r ih => simp [spellL, ih]
theorem trimL_map (ks : List PyData) : trimL ks = ks.map trim := by
  induction ks with
  | nil => rfl
  | cons k r ih => simp [trimL, ih]
theorem size_non : size .none = 0 := by simp [size]
theorem deep_non : deep .none = 0 := by simp [deep]
theorem spell_non : spell .none = "-" := by simp [spell]
theorem trim_non : trim .none = .none := by simp [trim]
theorem sizeL_sum (ks : List PyData) : sizeL ks = (ks.map size).sum := by
  induction ks with
  | nil => rfl
  | cons k r ih => simp [sizeL, ih]
/-! ### what is dropped -/
theorem keepN_app {α : Type} (p : α → Bool) (x : α) : ∀ l : List α, keepN p (l ++ [x]) = if p x = true then keepN p l else l.length + 1
  | [] => by
    show (if (0 : Nat) = 0 then (if p x = true then 0 else 1) else 0 + 1) = _
    rfl
  | y :: r => by
    have ih := keepN_app p x r
    show (if keepN p (r ++ [x]) = 0 then (if p y = true then 0 else 1) else keepN p (r ++ [x]) + 1) = _
    rw [ih]
    by_cases h : p x = true
    · rw [if_pos h, if_pos h]
      rfl
    · rw [if_neg h, if_neg h, if_neg (by omega)]
      rfl
theorem keepN_le {α : Type} (p : α → Bool) : ∀ l : List α, keepN p l ≤ l.length
  | [] => Nat.le_refl _
  | y :: r => by
    have ih := keepN_le p r
    show (if keepN p r = 0 then (if p y = true then 0 else 1) else keepN p r + 1) ≤ r.length + 1
    split
    · split <;> omega
    · omega
theorem keepN_take {α : Type} {p : α → Bool} {l : List α} {i : Nat} {x : α} (h : l[i]? = some x) : keepN p (l.take (i + 1)) = if p x = true then keepN p (l.take i) else i + 1 := by
  have hi := (List.getElem?_eq_some_iff.mp h).1
  rw [take_more h, keepN_app, List.length_take, Nat.min_eq_left (Nat.le_of_lt hi)]
theorem keepN_map {α β : Type} (p : β → Bool) (f : α → β) : ∀ l : List α, keepN p (l.map f) = keepN (fun x => p (f x)) l
  | [] => rfl
  | y :: r => by
    have ih := keepN_map p f r
    show (if keepN p (r.map f) = 0 then (if p (f y) = true then 0 else 1) else keepN p (r.map f) + 1) = _
    rw [ih]
    rfl
theorem keepN_congr {α : Type} {p q : α → Bool} : ∀ {l : List α}, (∀ x ∈ l, p x = q x) → keepN p l = keepN q l
  | [], _ => rfl
  | y :: r, h => by
    have ih := keepN_congr (l := r) fun x hx => h x (List.mem_cons_of_mem _ hx)
    show (if keepN p r = 0 then (if p y = true then 0 else 1) else keepN p r + 1) = (if keepN q r = 0 then (if q y = true then 0 else 1) else keepN q r + 1)
    rw [ih, h y List.mem_cons_self]
theorem keepN_drop {α : Type} {p : α → Bool} {l : List α} {i : Nat} {x : α} (h : l[i]? = some x) (hp : p x = true) (k : keepN p (l.take (i + 1)) = keepN p l) : keepN p (l.take i) = keepN p l := by
  rw [← k, keepN_take h, if_pos hp]
theorem short_map {α β : Type} (p : β → Bool) (f : α → β) (l : List α) : short p (l.map f) = (short (fun x => p (f x)) l).map f := by
  unfold short
  rw [keepN_map, List.map_take]
/-! ### trees that are not too great -/
mutual
inductive Bd (B C : Nat) : PyData → Prop
  | mk {d : PyData} {bs : List Int} {ks : List PyData} (e : d = nd bs ks) (h1 : bs.length ≤ B) (h2 : ∀ b ∈ bs, b = 0 ∨ b = 1) (h3 : ks.length ≤ C) (h4 : BdL B C ks) : Bd B C d
inductive BdL (B C : Nat) : List PyData → Prop
  | nil : BdL B C []
  | non {ks : List PyData} (r : BdL B C ks) : BdL B C (.none :: ks)
  | one {k : PyData} {ks : List PyData} (h : Bd B C k) (r : BdL B C ks) : BdL B C (k :: ks)
end
theorem Bd.nd' {B C : Nat} {bs : List Int} {ks : List PyData} (h : Bd B C (nd bs ks)) : bs.length ≤ B ∧ (∀ b ∈ bs, b = 0 ∨ b = 1) ∧ ks.length ≤ C ∧ BdL B C ks := by
  cases h with
  | mk e h1 h2 h3 h4 =>
    obtain ⟨rfl, rfl⟩ := nd_inj e
    exact ⟨h1, h2, h3, h4⟩
theorem Bd.un {B C : Nat} {d : PyData} (h : Bd B C d) : ∃ bs ks, d = nd bs ks ∧ bs.length ≤ B ∧ (∀ b ∈ bs, b = 0 ∨ b = 1) ∧ ks.length ≤ C ∧ BdL B C ks := by
  cases h with
  | mk e h1 h2 h3 h4 => exact ⟨_, _, e, h1, h2, h3, h4⟩
theorem BdL.at {B C : Nat} : ∀ {ks : List PyData}, BdL B C ks → ∀ k ∈ ks, k = .none ∨ Bd B C k
  | _, .non r, k, hk => by
    rcases List.mem_cons.mp hk with e | h
    · exact .inl e
    · exact r.at k h
  | _, .one h0 r, k, hk => by
    rcases List.mem_cons.mp hk with e | h
    · rw [e]
      exact .inr h0
    · exact r.at k h
theorem BdL.of {B C : Nat} : ∀ {ks : List PyData}, (∀ k ∈ ks, k = .none ∨ Bd B C k) → BdL B C ks
  | [], _ => .nil
  | k :: r, h => by
    have ih := BdL.of (B := B) (C := C) (ks := r) fun x hx => h x (List.mem_cons_of_mem _ hx)
    rcases h k List.mem_cons_self with e | hb
    · rw [e]
      exact .non ih
    · exact .one hb ih
theorem BdL.take {B C : Nat} {ks : List PyData} (h : BdL B C ks) (n : Nat) : BdL B C (ks.take n) := BdL.of fun k hk => h.at k (List.mem_of_mem_take hk)
theorem Bd.notN {B C : Nat} {d : PyData} (h : Bd B C d) : isN d = false := by
  obtain ⟨bs, ks, rfl, _⟩ := h.un
  rfl
theorem Bd.ne {B C : Nat} {d : PyData} (h : Bd B C d) : d ≠ .none := fun e => by
  have := h.notN
  rw [e] at this
  cases this
mutual
theorem bd_trim {B C : Nat} : ∀ {d : PyData}, Bd B C d → Bd B C (trim d)
  | _, .mk (bs := bs) (ks := ks) e h1 h2 h3 h4 => by
    rw [e, trim_nd]
    have k := bdL_trim h4
    have l1 : (short isZ bs).length ≤ bs.length := by
      unfold short
      rw [List.length_take]
      omega
    have l2 : (short isN (trimL ks)).length ≤ ks.length := by
      unfold short
      rw [List.length_take, trimL_map, List.length_map]
      omega
    exact .mk rfl (by omega) (fun b hb => h2 b (List.mem_of_mem_take hb)) (by omega) (k.take _)
theorem bdL_trim {B C : Nat} : ∀ {ks : List PyData}, BdL B C ks → BdL B C (trimL ks)
  | _, .nil => by
    simp only [trimL]
    exact .nil
  | _, .non r => by
    simp only [trimL, trim_non]
    exact .non (bdL_trim r)
  | _, .one h r => by
    simp only [trimL]
    exact .one (bd_trim h) (bdL_trim r)
end
theorem sizeL_take (ks : List PyData) (n : Nat) : sizeL (ks.take n) ≤ sizeL ks := by
  induction ks generalizing n with
  | nil => simp
  | cons k r ih =>
    cases n with
    | zero => simp [sizeL]
    | succ n =>
      have k := ih n
      simp only [List.take_succ_cons, sizeL]
      omega
theorem deepL_take (ks : List PyData) (n : Nat) : deepL (ks.take n) ≤ deepL ks := by
  induction ks generalizing n with
  | nil => simp
  | cons k r ih =>
    cases n with
    | zero => simp [deepL]
    | succ n =>
      have k := ih n
      simp only [List.take_succ_cons, deepL]
      omega
mutual
theorem size_trim {B C : Nat} : ∀ {d : PyData}, Bd B C d → size (trim d) ≤ size d
  | _, .mk (bs := bs) (ks := ks) e h1 h2 h3 h4 => by
    rw [e, trim_nd, size_nd, size_nd]
    have k := sizeL_trim h4
    have k2 := sizeL_take (trimL ks) (keepN isN (trimL ks))
    unfold short
    omega
theorem sizeL_trim {B C : Nat} : ∀ {ks : List PyData}, BdL B C ks → sizeL (trimL ks) ≤ sizeL ks
  | _, .nil => by simp [trimL]
  | _, .non r => by
    have k := sizeL_trim r
    simp only [trimL, trim_non, sizeL]
    omega
  | _, .one h r => by
    have k := sizeL_trim r
    have k2 := size_trim h
    simp only [trimL, sizeL]
    omega
end
mutual
theorem deep_trim {B C : Nat} : ∀ {d : PyData}, Bd B C d → deep (trim d) ≤ deep d
  | _, .mk (bs := bs) (ks := ks) e h1 h2 h3 h4 => by
    rw [e, trim_nd, deep_nd, deep_nd]
    have k := deepL_trim h4
    have k2 := deepL_take (trimL ks) (keepN isN (trimL ks))
    unfold short
    omega
theorem deepL_trim {B C : Nat} : ∀ {ks : List PyData}, BdL B C ks → deepL (trimL ks) ≤ deepL ks
  | _, .nil => by simp [trimL]
  | _, .non r => by
    have k := deepL_trim r
    simp only [trimL, trim_non, deepL]
    omega
  | _, .one h r => by
    have k := deepL_trim r
    have k2 := deep_trim h
    simp only [trimL, deepL]
    omega
end
theorem deep_pos {B C : Nat} {d : PyData} (h : Bd B C d) : 1 ≤ deep d := by
  obtain ⟨bs, ks, rfl, _⟩ := h.un
  rw [deep_nd]
  omega
theorem size_pos {B C : Nat} {d : PyData} (h : Bd B C d) : 1 ≤ size d := by
  obtain ⟨bs, ks, rfl, _⟩ := h.un
  rw [size_nd]
  omega
theorem deepL_at {ks : List PyData} {k : PyData} (h : k ∈ ks) : deep k ≤ deepL ks := by
  induction ks with
  | nil => cases h
  | cons x r ih =>
    simp only [deepL]
    rcases List.mem_cons.mp h with e | h
    · rw [e]
      omega
    · have := ih h
      omega
theorem sizeL_at {ks : List PyData} {k : PyData} (h : k ∈ ks) : size k ≤ sizeL ks := by
  induction ks with
  | nil => cases h
  | cons x r ih =>
    simp only [sizeL]
    rcases List.mem_cons.mp h with e | h
    · rw [e]
      omega
    · have := ih h
      omega
mutual
theorem Bd.mono {B C B' C' : Nat} (h : B ≤ B') (h' : C ≤ C') : ∀ {d : PyData}, Bd B C d → Bd B' C' d
  | _, .mk e h1 h2 h3 h4 => .mk e (Nat.le_trans h1 h) h2 (Nat.le_trans h3 h') (h4.mono h h')
theorem BdL.mono {B C B' C' : Nat} (h : B ≤ B') (h' : C ≤ C') : ∀ {ks : List PyData}, BdL B C ks → BdL B' C' ks
  | _, .nil => .nil
  | _, .non r => .non (r.mono h h')
  | _, .one k r => .one (k.mono h h') (r.mono h h')
end
theorem BdL.app {B C : Nat} : ∀ {ks js : List PyData}, BdL B C ks → BdL B C js → BdL B C (ks ++ js)
  | _, _, .nil, h => h
  | _, _, .non r, h => .non (r.app h)
  | _, _, .one k r, h => .one k (r.app h)
theorem sizeL_app (a b : List PyData) : sizeL (a ++ b) = sizeL a + sizeL b := by
  induction a with
  | nil => simp [sizeL]
  | cons k r ih =>
    simp only [List.cons_append, sizeL, ih]
    omega
theorem deepL_app (a b : List PyData) : deepL (a ++ b) = max (deepL a) (deepL b) := by
  induction a with
  | nil => simp [deepL]
  | cons k r ih =>
    simp only [List.cons_append, deepL, ih]
    omega
end PZ

set_option Elab.async false
set_option linter.all false
set_option maxRecDepth 100000
set_option maxHeartbeats 8000000
namespace PZ
open PySem PySem.Spec PyProof.Rows L2 He XH XV XR PEN TR XQ Evl

/-! ### lengths of texts -/
theorem app_len (a b : Str) : (a ++ b).length = a.length + b.length := by
  obtain ⟨a⟩ := a
  obtain ⟨b⟩ := b
  show (a ++ b).size = a.size + b.size
  simp
theorem empty_app (w : Str) : Str.empty ++ w = w := by
  obtain ⟨a⟩ := w
  show (⟨#[] ++ a⟩ : Str) = ⟨a⟩
  simp
theorem joinL_len (S : List Nat) : ∀ ls : List (List Nat), (TL.joinL S ls).length ≤ (ls.map (·.length)).sum + ls.length * S.length
  | [] => Nat.zero_le _
  | [p] => by
    show p.length ≤ (p.length + 0) + 1 * S.length
    omega
  | p :: q :: r => by
    have k := joinL_len S (q :: r)
    show (p ++ (S ++ TL.joinL S (q :: r))).length ≤ _
    rw [List.length_append, List.length_append, List.map_cons, List.sum_cons, List.length_cons, Nat.succ_mul]
    omega
theorem join_len (a : Str) (ys : List Str) : (Txt.join a ys).length ≤ (ys.map (·.length)).sum + ys.length * a.length := by
  have z : TL.tl (Txt.join a ys) = TL.joinL (TL.tl a) (ys.map TL.tl) := by
    rw [TL.join_eq, TL.tl_join]
  have l1 : (Txt.join a ys).length = (TL.tl (Txt.join a ys)).length := len_codes _
  have l2 : a.length = (TL.tl a).length := len_codes _
  have l3 : (ys.map TL.tl).map (·.length) = ys.map (·.length) := by
    rw [List.map_map]
    exact List.map_congr_left fun y _ => (len_codes y).symm
  have k := joinL_len (TL.tl a) (ys.map TL.tl)
  rw [l3, List.length_map] at k
  rw [l1, z, l2]
  exact k
theorem sum_le {α : Type} {f : α → Nat} {b : Nat} : ∀ {l : List α}, (∀ x ∈ l, f x ≤ b) → (l.map f).sum ≤ l.length * b
  | [], _ => by simp
  | x :: r, h => by
    have k := sum_le (l := r) fun y hy => h y (List.mem_cons_of_mem _ hy)
    have k2 := h x List.mem_cons_self
    rw [List.map_cons, List.sum_cons, List.length_cons, Nat.succ_mul]
    omega
theorem istr_len {b : Int} (h : b = 0 ∨ b = 1) : (istr b).length = 1 := by
  rcases h with rfl | rfl <;> decide +kernel
theorem bits_sum {bs : List Int} (h : ∀ b ∈ bs, b = 0 ∨ b = 1) : ((bs.map istr).map (·.length)).sum = bs.length := by
  induction bs with
  | nil => rfl
  | cons b r ih =>
    have k := istr_len (h b List.mem_cons_self)
    have k2 := ih fun x hx => h x (List.mem_cons_of_mem _ hx)
    rw [List.map_cons, List.map_cons, List.sum_cons, k2, List.length_cons, k]
    omega
theorem digS_len {bs : List Int} (h : ∀ b ∈ bs, b = 0 ∨ b = 1) : (digS bs).length ≤ bs.length + 1 := by
  unfold digS
  split
  · have : ("." : Str).length = 1 := by decide +kernel
    omega
  · have k := join_len ("" : Str) (bs.map istr)
    have k2 := bits_sum h
    have k3 : ("" : Str).length = 0 := by decide +kernel
    rw [k2, k3] at k
    omega
theorem s1 : ("(" : Str).length = 1 ∧ (")" : Str).length = 1 ∧ ("," : Str).length = 1 ∧ ("-" : Str).length = 1 := by decide +kernel
mutual
theorem spell_len {B C : Nat} (hB : B ≤ 60) (hC : C ≤ 600) : ∀ {d : PyData}, Bd B C d → (spell d).length ≤ 1300 * size d
  | _, .mk (bs := bs) (ks := ks) e h1 h2 h3 h4 => by
    rw [e, spell_nd, size_nd]
    have k := spellL_len hB hC h4
    have kd := digS_len h2
    obtain ⟨p1, p2, p3, p4⟩ := s1
    split
    · omega
    · rw [app_len, app_len, app_len, p1, p2]
      have j := join_len ("," : Str) (spellL ks)
      have l : (spellL ks).length = ks.length := by rw [spellL_map, List.length_map]
      rw [p3, l] at j
      omega
theorem spellL_len {B C : Nat} (hB : B ≤ 60) (hC : C ≤ 600) : ∀ {ks : List PyData}, BdL B C ks → ((spellL ks).map (·.length)).sum ≤ 1300 * sizeL ks + ks.length
  | _, .nil => by simp [spellL]
  | _, .non r => by
    have k := spellL_len hB hC r
    obtain ⟨p1, p2, p3, p4⟩ := s1
    simp only [spellL, spell_non, sizeL, size_non, List.map_cons, List.sum_cons, List.length_cons, p4]
    omega
  | _, .one h r => by
    have k := spellL_len hB hC r
    have k2 := spell_len hB hC h
    simp only [spellL, sizeL, List.map_cons, List.sum_cons, List.length_cons]
    omega
end

/-! ### what keeps tuples and instances as they are -/
structure Kp (H H' : Hp) : Prop where
  ins : ∀ c C dx fs, fs ≠ [] → H c = some (.ins C dx fs) → H' c = some (.ins C dx fs)
  tup : ∀ c xs, Rd H c (.tup xs) → Rd H' c (.tup xs)
theorem Kp.refl (H : Hp) : Kp H H := ⟨fun _ _ _ _ _ h => h, fun _ _ h => h⟩
theorem Kp.trans {H H1 H2 : Hp} (a : Kp H H1) (b : Kp H1 H2) : Kp H H2 := ⟨fun c C dx fs n h => b.ins c C dx fs n (a.ins c C dx fs n h), fun c xs h => b.tup c xs (a.tup c xs h)⟩
theorem Kp.of {H H' : Hp} (e : Ex H H') : Kp H H' := ⟨fun c C dx fs _ h => e _ _ h, fun c xs h => ex_rd e h⟩
theorem Kp.lst {H : Hp} {D : Addr} {ys : List V} {o : HO} (hD : H D = some (.lst ys)) : Kp H (upd H D o) :=
  ⟨fun c C dx fs _ h => (upd_ne (fun e => by rw [e, hD] at h; cases h)).trans h, fun c xs h => by
    rcases h with h | ⟨o, h⟩
    · exact .inl ((upd_ne (fun e => by rw [e, hD] at h; cases h)).trans h)
    · exact .inr ⟨o, (upd_ne (fun e => by rw [e, hD] at h; cases h)).trans h⟩⟩
theorem Kp.xa {H H' : Hp} {a C dx : Addr} (ha : H a = some (.ins C dx [])) (k : Xa a H H') : Kp H H' :=
  ⟨fun c C' dx' fs n h => k c _ (fun e => by rw [e, ha] at h; injection h with h; injection h with _ _ h; exact n h.symm) h, fun c xs h => by
    rcases h with h | ⟨o, h⟩
    · exact .inl (k c _ (fun e => by rw [e, ha] at h; cases h) h)
    · exact .inr ⟨o, k c _ (fun e => by rw [e, ha] at h; cases h) h⟩⟩
theorem Kp.px {H H' : Hp} {p l : Addr} {n : Nat} (hP : Pen p l n H) (k : Px p l H H') : Kp H H' := by
  obtain ⟨c, ns, e1, e2, _⟩ := hP
  refine ⟨fun c C' dx' fs n h => k.get (fun e => by rw [e, e1] at h; cases h) (fun e => by rw [e, e2] at h; cases h) h, fun c xs h => ?_⟩
  rcases h with h | ⟨o, h⟩
  · exact .inl (k.get (fun e => by rw [e, e1] at h; cases h) (fun e => by rw [e, e2] at h; cases h) h)
  · exact .inr ⟨o, k.get (fun e => by rw [e, e1] at h; cases h) (fun e => by rw [e, e2] at h; cases h) h⟩
theorem Kp.t {K : PySem.W.Frag} {H H' : Hp} (k : Kp H H') {a : Addr} {xs : List V} (h : SqT K H a xs) : SqT K H' a xs := by
  rcases h with h | h
  · exact .inl (k.tup _ _ h)
  · exact .inr h
mutual
def tupD : PyData → Bool
  | .list _ => false
  | .dict _ => false
  | .tuple ds => tupDs ds
  | _ => true
def tupDs : List PyData → Bool
  | [] => true
  | d :: r => tupD d && tupDs r
end
mutual
theorem dp_kp {K : PySem.W.Frag} {H H' : Hp} (k : Kp H H') : ∀ (d : PyData) (v : V), tupD d = true → Dp K H v d → Dp K H' v d
  | .none, _, _, h => by
    cases h
    exact .non
  | .bool b, _, _, h => by
    cases h
    exact .bl b
  | .int i, _, _, h => by
    cases h
    exact .int i
  | .str x, _, _, h => by
    cases h
    exact .str x
  | .list ds, _, t, h => by simp [tupD] at t
  | .dict ds, _, t, h => by simp [tupD] at t
  | .tuple ds, _, t, h => by
    simp only [tupD] at t
    cases h with
    | tup h1 h2 => exact .tup (k.t h1) (dps_kp k ds _ t h2)
theorem dps_kp {K : PySem.W.Frag} {H H' : Hp} (k : Kp H H') : ∀ (ds : List PyData) (vs : List V), tupDs ds = true → DpAll K H vs ds → DpAll K H' vs ds
  | [], _, _, h => by
    cases h
    exact .nil
  | d :: ds, _, t, h => by
    simp only [tupDs, Bool.and_eq_true] at t
    cases h with
    | cons h1 h2 => exact .cons (dp_kp k d _ t.1 h1) (dps_kp k ds _ t.2 h2)
end
theorem tupDs_ints (bs : List Int) : tupDs (bs.map PyData.int) = true := by
  induction bs with
  | nil => rfl
  | cons b r ih => simp [tupDs, tupD, ih]
mutual
theorem bd_tup {B C : Nat} : ∀ {d : PyData}, Bd B C d → tupD d = true
  | _, .mk (bs := bs) (ks := ks) e h1 h2 h3 h4 => by
    rw [e]
    simp [nd, tupD, tupDs, tupDs_ints, bdL_tup h4]
theorem bdL_tup {B C : Nat} : ∀ {ks : List PyData}, BdL B C ks → tupDs ks = true
  | _, .nil => rfl
  | _, .non r => by simp [tupDs, tupD, bdL_tup r]
  | _, .one h r => by simp [tupDs, bd_tup h, bdL_tup r]
end
theorem dp_ints {K : PySem.W.Frag} {H : Hp} : ∀ {bs : List Int} {vs : List V}, DpAll K H vs (bs.map PyData.int) → vs = bs.map V.int
  | [], _, h => by
    cases h
    rfl
  | b :: r, _, h => by
    cases h with
    | cons h1 h2 =>
      cases h1
      rw [dp_ints h2]
      rfl
theorem dp_nums {K : PySem.W.Frag} {H : Hp} (bs : List Int) : DpAll K H (bs.map V.int) (bs.map PyData.int) := by
  induction bs with
  | nil => exact .nil
  | cons b r ih => exact .cons (.int b) ih
/-- a tree in a heap -/
theorem dp_nd {K : PySem.W.Frag} {H : Hp} {v : V} {bs : List Int} {ks : List PyData} (h : Dp K H v (nd bs ks)) : ∃ t tb tk vs, v = .ref t ∧ SqT K H t [.ref tb, .ref tk] ∧ SqT K H tb (bs.map V.int) ∧ SqT K H tk vs ∧ DpAll K H vs ks := by
  unfold nd at h
  cases h with
  | tup h1 h2 =>
    cases h2 with
    | cons h3 h4 =>
      cases h3 with
      | tup h5 h6 =>
        cases h4 with
        | cons h7 h8 =>
          cases h8
          cases h7 with
          | tup h9 h10 =>
            have e := dp_ints h6
            subst e
            exact ⟨_, _, _, _, rfl, h1, h5, h9, h10⟩
theorem nd_dp {K : PySem.W.Frag} {H : Hp} {t tb tk : Addr} {vs : List V} {bs : List Int} {ks : List PyData} (h1 : SqT K H t [.ref tb, .ref tk]) (h2 : SqT K H tb (bs.map V.int)) (h3 : SqT K H tk vs) (h4 : DpAll K H vs ks) : Dp K H (.ref t) (nd bs ks) :=
  .tup h1 (.cons (.tup h2 (dp_nums bs)) (.cons (.tup h3 h4) .nil))

/-! ### puzzles -/
mutual
inductive Pz (K : PySem.W.Frag) (H : Hp) : Addr → PyData → Prop
  | mk {a dx ba ca : Addr} {d : PyData} {bs : List Int} {ks : List PyData} {vs : List V} (e : d = nd bs ks) (b : Bd 60 600 d)
      (h : H a = some (.ins (ga K "Puzzle") dx [("bits", .ref ba), ("children", .ref ca), ("size", .int (size d : Nat)), ("depth", .int (deep d : Nat)), ("spelling", .str (spell d))]))
      (hb : SqT K H ba (bs.map V.int)) (hc : SqT K H ca vs) (hk : PzL K H vs ks) : Pz K H a d
inductive PzL (K : PySem.W.Frag) (H : Hp) : List V → List PyData → Prop
  | nil : PzL K H [] []
  | non {vs : List V} {ks : List PyData} (r : PzL K H vs ks) : PzL K H (.non :: vs) (.none :: ks)
  | one {a : Addr} {vs : List V} {k : PyData} {ks : List PyData} (h : Pz K H a k) (r : PzL K H vs ks) : PzL K H (.ref a :: vs) (k :: ks)
end
theorem Pz.kp {K : PySem.W.Frag} {H H' : Hp} (k : Kp H H') {a : Addr} {d : PyData} (h : Pz K H a d) : Pz K H' a d := by
  refine Pz.rec (motive_1 := fun a d _ => Pz K H' a d) (motive_2 := fun vs ks _ => PzL K H' vs ks) ?_ ?_ ?_ ?_ h
  · intro a dx ba ca d bs ks vs e b h hb hc hk ih
    exact .mk e b (k.ins _ _ _ _ (fun z => nomatch z) h) (k.t hb) (k.t hc) ih
  · exact .nil
  · intro vs ks r ih
    exact .non ih
  · intro a vs d ks h r ih1 ih2
    exact .one ih1 ih2
theorem PzL.kp {K : PySem.W.Frag} {H H' : Hp} (k : Kp H H') : ∀ {vs : List V} {ks : List PyData}, PzL K H vs ks → PzL K H' vs ks
  | _, _, .nil => .nil
  | _, _, .non r => .non (r.kp k)
  | _, _, .one h r => .one (h.kp k) (r.kp k)
theorem Pz.bd {K : PySem.W.Frag} {H : Hp} {a : Addr} {d : PyData} (h : Pz K H a d) : Bd 60 600 d := by
  cases h with
  | mk e b _ _ _ _ => exact b
theorem PzL.bd {K : PySem.W.Frag} {H : Hp} : ∀ {vs : List V} {ks : List PyData}, PzL K H vs ks → BdL 60 600 ks
  | _, _, .nil => .nil
  | _, _, .non r => .non r.bd
  | _, _, .one h r => .one h.bd r.bd
theorem PzL.len {K : PySem.W.Frag} {H : Hp} : ∀ {vs : List V} {ks : List PyData}, PzL K H vs ks → vs.length = ks.length
  | _, _, .nil => rfl
  | _, _, .non r => by rw [List.length_cons, List.length_cons, r.len]
  | _, _, .one _ r => by rw [List.length_cons, List.length_cons, r.len]
theorem PzL.app {K : PySem.W.Frag} {H : Hp} : ∀ {vs ws : List V} {ks js : List PyData}, PzL K H vs ks → PzL K H ws js → PzL K H (vs ++ ws) (ks ++ js)
  | _, _, _, _, .nil, h => h
  | _, _, _, _, .non r, h => .non (r.app h)
  | _, _, _, _, .one k r, h => .one k (r.app h)
theorem PzL.take {K : PySem.W.Frag} {H : Hp} : ∀ {vs : List V} {ks : List PyData} (n : Nat), PzL K H vs ks → PzL K H (vs.take n) (ks.take n)
  | _, _, 0, _ => .nil
  | _, _, n + 1, .nil => .nil
  | _, _, n + 1, .non r => .non (r.take n)
  | _, _, n + 1, .one h r => .one h (r.take n)
/-- a child at its place -/
theorem PzL.at {K : PySem.W.Frag} {H : Hp} : ∀ {vs : List V} {ks : List PyData}, PzL K H vs ks → ∀ {i : Nat} {v : V}, vs[i]? = some v → ∃ k, ks[i]? = some k ∧ ((v = .non ∧ k = .none) ∨ ∃ c, v = .ref c ∧ Pz K H c k)
  | _, _, .nil, i, v, h => by cases h
  | _, _, .non r, 0, v, h => by
    cases h
    exact ⟨_, rfl, .inl ⟨rfl, rfl⟩⟩
  | _, _, .one p r, 0, v, h => by
    cases h
    exact ⟨_, rfl, .inr ⟨_, rfl, p⟩⟩
  | _, _, .non r, i + 1, v, h => r.at (i := i) h
  | _, _, .one p r, i + 1, v, h => r.at (i := i) h

theorem spellL_at {ks : List PyData} {i : Nat} {k : PyData} (h : ks[i]? = some k) : (spellL ks)[i]? = some (spell k) := by
  rw [spellL_map, List.getElem?_map, h]
  rfl
theorem keep_bits (bs : List Int) : keepN (fun v : V => decide (v = .int 0)) (bs.map V.int) = keepN isZ bs := by
  rw [keepN_map]
  refine keepN_congr fun b _ => ?_
  unfold isZ
  by_cases h : b = 0
  · subst h
    rfl
  · rw [decide_eq_false h]
    exact decide_eq_false fun e => h (by injection e)
theorem keep_kids {K : PySem.W.Frag} {H : Hp} : ∀ {ws : List V} {ks : List PyData}, PzL K H ws ks → keepN (fun v : V => decide (v = .non)) ws = keepN isN ks
  | _, _, .nil => rfl
  | _, _, .non r => by
    have k := keep_kids r
    simp only [keepN, k, isN]
    rfl
  | _, _, .one (k := d) h r => by
    have k := keep_kids r
    have e := h.bd.notN
    simp only [keepN, k, e]
    rfl
theorem PzL.nodes {K : PySem.W.Frag} {H : Hp} : ∀ {ws : List V} {ks : List PyData}, PzL K H ws ks → PzL K H (ws.filter fun v => !decide (v = .non)) (ks.filter fun k => !isN k)
  | _, _, .nil => .nil
  | _, _, .non r => by
    have k := r.nodes
    rw [List.filter_cons, List.filter_cons, if_neg (by decide), if_neg (by decide)]
    exact k
  | _, _, .one (k := d) h r => by
    have k := r.nodes
    have e := h.bd.notN
    rw [List.filter_cons, List.filter_cons, if_pos (by rw [decide_eq_false (by intro z; cases z)]; rfl), if_pos (by rw [e]; rfl)]
    exact .one h k
theorem PzL.ref {K : PySem.W.Frag} {H : Hp} {ws : List V} {ks : List PyData} (h : PzL K H ws ks) (n : ∀ k ∈ ks, isN k = false) {i : Nat} {v : V} (hv : ws[i]? = some v) : ∃ c k, v = .ref c ∧ ks[i]? = some k ∧ Pz K H c k := by
  obtain ⟨k, hk, cas⟩ := h.at hv
  rcases cas with ⟨_, rfl⟩ | ⟨c, rfl, hp⟩
  · have := n _ (List.mem_of_getElem? hk)
    cases this
  · exact ⟨c, k, rfl, hk, hp⟩
theorem size_nodes (ks : List PyData) : ((ks.filter fun k => !isN k).map size).sum = sizeL ks := by
  induction ks with
  | nil => rfl
  | cons k r ih =>
    rw [List.filter_cons]
    cases h : isN k with
    | true =>
      have e : k = .none := by
        cases k <;> first | rfl | cases h
      rw [if_neg (by decide), ih, e]
      simp [sizeL, size_non]
    | false =>
      rw [if_pos (by decide), List.map_cons, List.sum_cons, ih]
      simp [sizeL]
theorem fold_max : ∀ (l : List Nat) (m : Nat), (l.map fun n : Nat => (n : Int)).foldl max (m : Int) = ((l.foldl max m : Nat) : Int)
  | [], _ => rfl
  | n :: r, m => by
    rw [List.map_cons, List.foldl_cons, List.foldl_cons]
    have e : max (m : Int) (n : Int) = ((max m n : Nat) : Int) := by omega
    rw [e, fold_max r]
theorem max_nodes : ∀ (ks : List PyData) (m : Nat), ((ks.filter fun k => !isN k).map deep).foldl max m = max m (deepL ks)
  | [], m => by simp [deepL]
  | k :: r, m => by
    rw [List.filter_cons]
    cases h : isN k with
    | true =>
      have e : k = .none := by
        cases k <;> first | rfl | cases h
      rw [if_neg (by decide), max_nodes r m, e]
      simp [deepL, deep_non]
    | false =>
      rw [if_pos (by decide), List.map_cons, List.foldl_cons, max_nodes r]
      simp only [deepL]
      omega
theorem deep_nodes (ks : List PyData) : mxD 0 (((ks.filter fun k => !isN k).map deep).map fun n : Nat => (n : Int)) = (deepL ks : Nat) := by
  have k := max_nodes ks 0
  cases e : (ks.filter fun k => !isN k).map deep with
  | nil =>
    rw [e] at k
    simp only [List.foldl_nil] at k
    show (0 : Int) = _
    omega
  | cons n r =>
    rw [e] at k
    rw [List.foldl_cons] at k
    show (r.map fun n : Nat => (n : Int)).foldl max (n : Int) = _
    rw [fold_max]
    have e2 : max 0 n = n := by omega
    rw [e2] at k
    omega
/-- tuple(xs) of a list or a tuple -/
theorem tup_go {K : PySem.W.Frag} {H : Hp} {p : Addr} {ys : List V} {Q : VK} (h : SqL K H p ys ∨ SqT K H p ys) (k : ∀ r H', Ex H H' → SqT K H' r ys → Q (.ref r) H') : (SqL K H p ys ∧ ∀ l, H l = none → Q (.ref l) (upd H l (.tup ys))) ∨ (SqT K H p ys ∧ Q (.ref p) H) := by
  rcases h with h | h
  · exact .inl ⟨h, fun l hl => k l _ (Ex.new hl) (st_of upd_same)⟩
  · exact .inr ⟨h, k p H (Ex.refl H) h⟩
/-- x = tuple(xs), xs a list or a tuple -/
def rTup (K : PySem.W.Frag) : List V → Hp → VK → Prop := fun xs H Q => ∃ p ys, xs = [.ref p] ∧ ((SqL K H p ys ∧ ∀ l, H l = none → Q (.ref l) (upd H l (.tup ys))) ∨ (SqT K H p ys ∧ Q (.ref p) H))
theorem q_tup {K : PySem.W.Frag} {te : TE} {i : Nat} {tz : TS} {D : Ends} {σ : L2.St} {H : Hp} {p : Addr} {ys : List V} (he : Ev te σ H (.ref p)) (h : SqL K H p ys ∨ SqT K H p ys) (k : ∀ r H', Ex H H' → SqT K H' r ys → tz D (σ.set i (some (.ref r))) H') : tSeq (tAsg (tCB (rTup K) (tCons te tNil)) (gName i)) tz D σ H :=
  he H (Ex.refl H) _ fun H1 e1 => ⟨p, ys, rfl, tup_go (Q := fun v H' => tz D (σ.set i (some v)) H') (h.imp (ex_l e1) (ex_t e1)) fun r H' e g => k r H' (e1.trans e) g⟩
theorem take_all {α : Type} {l : List α} {n : Nat} (h : l.length ≤ n) : l.take n = l := List.take_of_length_le h
/-! ### data that may be compared -/
theorem layNums (bs : List Int) : PyData.canLayAll0 (bs.map PyData.int) = true := by
  induction bs with
  | nil => simp [PyData.canLayAll0]
  | cons b r ih => simp [PyData.canLayAll0, PyData.canLay0, ih]
mutual
theorem lay_bd {B C : Nat} : ∀ {d : PyData}, Bd B C d → PyData.canLay0 d = true
  | _, .mk (bs := bs) (ks := ks) e h1 h2 h3 h4 => by
    rw [e]
    simp [nd, PyData.canLay0, PyData.canLayAll0, layNums, lay_bdL h4]
theorem lay_bdL {B C : Nat} : ∀ {ks : List PyData}, BdL B C ks → PyData.canLayAll0 ks = true
  | _, .nil => by simp [PyData.canLayAll0]
  | _, .non r => by simp [PyData.canLayAll0, PyData.canLay0, lay_bdL r]
  | _, .one h r => by simp [PyData.canLayAll0, lay_bd h, lay_bdL r]
end
mutual
theorem dep_bd {B C : Nat} : ∀ {d : PyData}, Bd B C d → PyData.depth d ≤ 2 * deep d + 1
  | _, .mk (bs := bs) (ks := ks) e h1 h2 h3 h4 => by
    rw [e, deep_nd]
    have k := depth_nums bs
    have k2 := dep_bdL h4
    simp only [nd, PyData.depth, PyData.depthAll]
    omega
theorem dep_bdL {B C : Nat} : ∀ {ks : List PyData}, BdL B C ks → PyData.depthAll ks ≤ 2 * deepL ks + 1
  | _, .nil => by simp [PyData.depthAll]
  | _, .non r => by
    have k := dep_bdL r
    simp only [PyData.depthAll, PyData.depth, deepL, deep_non]
    omega
  | _, .one h r => by
    have k := dep_bdL r
    have k2 := dep_bd h
    simp only [PyData.depthAll, deepL]
    omega
end
theorem shp_bd {B C : Nat} {d : PyData} (h : Bd B C d) (hd : deep d ≤ 31) : SeqAt.shaped d = true := by
  have k := dep_bd h
  unfold SeqAt.shaped
  rw [Bool.and_eq_true]
  exact ⟨lay_bd h, decide_eq_true (by omega)⟩
theorem shp_kids {B C : Nat} {ks : List PyData} (h : BdL B C ks) (hd : deepL ks ≤ 30) : SeqAt.shaped (.tuple ks) = true := by
  have k := dep_bdL h
  unfold SeqAt.shaped
  rw [Bool.and_eq_true]
  refine ⟨by simp [PyData.canLay0, lay_bdL h], decide_eq_true ?_⟩
  simp only [PyData.depth]
  omega
theorem shp_nums (bs : List Int) : SeqAt.shaped (.tuple (bs.map PyData.int)) = true := by
  have k := depth_nums bs
  unfold SeqAt.shaped
  rw [Bool.and_eq_true]
  refine ⟨by simp [PyData.canLay0, layNums], decide_eq_true ?_⟩
  simp only [PyData.depth]
  omega
theorem eqv_non (d : PyData) : PyData.eqv d .none = isN d := by
  cases d <;> rfl
theorem eqv_zero (b : Int) : PyData.eqv (.int b) (.int 0) = isZ b := by
  show (b == 0) = decide (b = 0)
  by_cases h : b = 0 <;> simp [h]
theorem keep_nums (bs : List Int) : keepN (fun d => PyData.eqv d (.int 0)) (bs.map PyData.int) = keepN isZ bs := by
  rw [keepN_map]
  exact keepN_congr fun b _ => eqv_zero b
theorem keep_nons (ks : List PyData) : keepN (fun d => PyData.eqv d .none) ks = keepN isN ks := keepN_congr fun d _ => eqv_non d
theorem dps_take {K : PySem.W.Frag} {H : Hp} : ∀ {vs : List V} {ds : List PyData} (n : Nat), DpAll K H vs ds → DpAll K H (vs.take n) (ds.take n)
  | _, _, 0, _ => .nil
  | _, _, n + 1, .nil => .nil
  | _, _, n + 1, .cons h r => .cons h (dps_take n r)
theorem ev_call {sp : Sp} {ta : TA} {σ : L2.St} {H : Hp} {vs : List V} {v : V} (h : EvA ta σ H vs) (hs : ∀ H1, Ex H H1 → ∀ Q : VK, (∀ H2, Ex H1 H2 → Q v H2) → sp (vs ++ []) H1 Q E0) : Ev (tCall sp [] E0 ta) σ H v := fun H1 e Q q =>
  h H1 e _ fun H2 e2 => hs H2 (e.trans e2) Q fun H3 e3 => q H3 (e2.trans e3)
theorem rv_ix {K : PySem.W.Frag} {H : Hp} {p : Addr} {xs : List V} {i : Int} {v : V} (h : SqL K H p xs ∨ SqT K H p xs) (ha : atI xs i = some v) : RV (rIx K) (.ref p) (.int i) H v := fun H1 e Q q => by
  rcases h with h | h
  · exact .inl ⟨p, xs, i, v, rfl, rfl, ex_l e h, ha, q H1 (Ex.refl _)⟩
  · exact .inr (.inl ⟨p, xs, i, v, rfl, rfl, ex_t e h, ha, q H1 (Ex.refl _)⟩)
theorem rv_neD {K : PySem.W.Frag} {H : Hp} {x y : V} {d e : PyData} (hd : Dp K H x d) (he : Dp K H y e) (sd : SeqAt.shaped d = true) (se : SeqAt.shaped e = true) : RV (rNeD K) x y H (.bl (!PyData.eqv d e)) := fun H1 a Q q => ⟨d, e, dpM a _ _ hd, dpM a _ _ he, sd, se, q H1 (Ex.refl _)⟩
theorem rv_eqD {K : PySem.W.Frag} {H : Hp} {x y : V} {d e : PyData} (hd : Dp K H x d) (he : Dp K H y e) (sd : SeqAt.shaped d = true) (se : SeqAt.shaped e = true) : RV (rEqD K) x y H (.bl (PyData.eqv d e)) := fun H1 a Q q => ⟨d, e, dpM a _ _ hd, dpM a _ _ he, sd, se, q H1 (Ex.refl _)⟩
theorem rv_isNo {H : Hp} {x : V} : RV (fun x y H Q => y = .non ∧ Q (.bl (decide (x = .non))) H) x .non H (.bl (decide (x = .non))) := fun H1 _ Q q => ⟨rfl, q H1 (Ex.refl _)⟩
theorem rv_notNo {H : Hp} {x : V} : RV (fun x y H Q => y = .non ∧ Q (.bl (!decide (x = .non))) H) x .non H (.bl (!decide (x = .non))) := fun H1 _ Q q => ⟨rfl, q H1 (Ex.refl _)⟩
theorem dp_non {K : PySem.W.Frag} {H : Hp} {B C : Nat} {v : V} {d : PyData} (h : Dp K H v d) (hd : d = .none ∨ Bd B C d) : (v = .non ∧ d = .none) ∨ (∃ t, v = .ref t ∧ Bd B C d) := by
  rcases hd with rfl | hb
  · cases h
    exact .inl ⟨rfl, rfl⟩
  · obtain ⟨bs, ks, rfl, _⟩ := id hb.un
    obtain ⟨t, _, _, _, rfl, _⟩ := dp_nd h
    exact .inr ⟨t, rfl, hb⟩
theorem deepL_mem (ks : List PyData) : deepL ks = 0 ∨ ∃ k ∈ ks, deep k = deepL ks := by
  induction ks with
  | nil => exact .inl (by simp [deepL])
  | cons k r ih =>
    simp only [deepL]
    by_cases h : deepL r ≤ deep k
    · exact .inr ⟨k, List.mem_cons_self, by omega⟩
    · rcases ih with e | ⟨x, hx, e⟩
      · omega
      · exact .inr ⟨x, List.mem_cons_of_mem _ hx, by omega⟩
theorem eqv_same {d : PyData} (h : SeqAt.shaped d = true) : PyData.eqv d d = true := SeqAt.eqv_refl d (SeqAt.canLay_of_shaped h)
end PZ

set_option Elab.async false
set_option linter.all false
set_option maxRecDepth 100000
set_option maxHeartbeats 8000000
/-! Unlike trees have unlike spellings. -/
namespace PZ
open PySem PySem.Spec PyProof.Rows L2 He XH XV XR PEN TR XQ Evl

def cd (z : Str) : List Nat := z.cps.toList
theorem str_ext {a b : Str} (h : cd a = cd b) : a = b := by
  obtain ⟨x⟩ := a
  obtain ⟨y⟩ := b
  have e : x = y := Array.toList_inj.mp h
  rw [e]
theorem app_cd (a b : Str) : cd (a ++ b) = cd a ++ cd b := by
  obtain ⟨x⟩ := a
  obtain ⟨y⟩ := b
  show (x ++ y).toList = _
  simp [cd]
theorem join_cd (a : Str) (ys : List Str) : cd (Txt.join a ys) = TL.joinL (cd a) (ys.map cd) := by
  have z : TL.tl (Txt.join a ys) = TL.joinL (TL.tl a) (ys.map TL.tl) := by
    rw [TL.join_eq, TL.tl_join]
  exact z
def dg (b : Int) : Nat := if b = 0 then 48 else 49
theorem dg_two (b : Int) : dg b = 48 ∨ dg b = 49 := by
  unfold dg
  split
  · exact .inl rfl
  · exact .inr rfl
theorem dg_inj {b b' : Int} (h : b = 0 ∨ b = 1) (h' : b' = 0 ∨ b' = 1) (e : dg b = dg b') : b = b' := by
  rcases h with rfl | rfl <;> rcases h' with rfl | rfl <;> first | rfl | cases e
def dgc (bs : List Int) : List Nat := if bs = [] then [46] else bs.map dg
theorem joinL_ones : ∀ cs : List Nat, TL.joinL [] (cs.map fun c => [c]) = cs
  | [] => rfl
  | [c] => rfl
  | c :: d :: r => by
    show [c] ++ ([] ++ TL.joinL [] ((d :: r).map fun c => [c])) = c :: d :: r
    rw [joinL_ones (d :: r)]
    rfl
theorem digS_cd {bs : List Int} (h : ∀ b ∈ bs, b = 0 ∨ b = 1) : cd (digS bs) = dgc bs := by
  have j : cd (Txt.join ("" : Str) (bs.map istr)) = bs.map dg := by
    rw [join_cd, List.map_map]
    have e : cd ("" : Str) = [] := by decide +kernel
    rw [e]
    have e2 : bs.map (cd ∘ istr) = (bs.map dg).map fun c => [c] := by
      rw [List.map_map]
      refine List.map_congr_left fun b hb => ?_
      rcases h b hb with rfl | rfl <;> decide +kernel
    rw [e2, joinL_ones]
  have l : (Txt.join ("" : Str) (bs.map istr)).length = bs.length := by
    have z : (Txt.join ("" : Str) (bs.map istr)).length = (cd (Txt.join ("" : Str) (bs.map istr))).length := len_codes _
    rw [z, j, List.length_map]
  unfold digS dgc
  cases bs with
  | nil => decide +kernel
  | cons b r =>
    rw [if_neg (by rw [l]; simp), if_neg (by simp)]
    exact j
/-- what may stand behind a node -/
def term (x : List Nat) : Prop := ∀ c r, x = c :: r → c = 44 ∨ c = 41
theorem dgc_head (bs : List Int) : ∃ c r, dgc bs = c :: r ∧ (c = 46 ∨ c = 48 ∨ c = 49) := by
  unfold dgc
  cases bs with
  | nil => exact ⟨46, [], rfl, .inl rfl⟩
  | cons b r =>
    exact ⟨dg b, r.map dg, rfl, .inr (dg_two b)⟩
/-- runs of digits are told from what is behind them -/
theorem runs : ∀ {bs bs' : List Int} {x y : List Nat}, (∀ b ∈ bs, b = 0 ∨ b = 1) → (∀ b ∈ bs', b = 0 ∨ b = 1) → (∀ c r, x = c :: r → c ≠ 48 ∧ c ≠ 49) → (∀ c r, y = c :: r → c ≠ 48 ∧ c ≠ 49) →
    bs.map dg ++ x = bs'.map dg ++ y → bs = bs' ∧ x = y
  | [], [], _, _, _, _, _, _, h => ⟨rfl, h⟩
  | [], b :: r, x, y, _, _, hx, _, h => by
    have z := hx (dg b) _ h
    rcases dg_two b with e | e
    · exact absurd e z.1
    · exact absurd e z.2
  | b :: r, [], x, y, _, _, _, hy, h => by
    have z := hy (dg b) _ h.symm
    rcases dg_two b with e | e
    · exact absurd e z.1
    · exact absurd e z.2
  | b :: r, b' :: r', x, y, h1, h2, hx, hy, h => by
    rw [List.map_cons, List.map_cons, List.cons_append, List.cons_append] at h
    injection h with e1 e2
    obtain ⟨k1, k2⟩ := runs (fun c hc => h1 c (List.mem_cons_of_mem _ hc)) (fun c hc => h2 c (List.mem_cons_of_mem _ hc)) hx hy e2
    refine ⟨?_, k2⟩
    rw [dg_inj (h1 b List.mem_cons_self) (h2 b' List.mem_cons_self) e1, k1]
theorem dgc_app {bs bs' : List Int} {x y : List Nat} (h1 : ∀ b ∈ bs, b = 0 ∨ b = 1) (h2 : ∀ b ∈ bs', b = 0 ∨ b = 1) (hx : ∀ c r, x = c :: r → c ≠ 48 ∧ c ≠ 49) (hy : ∀ c r, y = c :: r → c ≠ 48 ∧ c ≠ 49) (h : dgc bs ++ x = dgc bs' ++ y) : bs = bs' ∧ x = y := by
  unfold dgc at h
  by_cases e : bs = []
  · rw [if_pos e] at h
    by_cases e' : bs' = []
    · rw [if_pos e'] at h
      injection h with _ h
      exact ⟨by rw [e, e'], h⟩
    · rw [if_neg e'] at h
      cases bs' with
      | nil => exact absurd rfl e'
      | cons b r =>
        rw [List.map_cons] at h
        injection h with h _
        rcases dg_two b with e2 | e2 <;> (rw [e2] at h; cases h)
  · rw [if_neg e] at h
    by_cases e' : bs' = []
    · rw [if_pos e'] at h
      cases bs with
      | nil => exact absurd rfl e
      | cons b r =>
        rw [List.map_cons] at h
        injection h with h _
        rcases dg_two b with e2 | e2 <;> (rw [e2] at h; cases h)
    · rw [if_neg e'] at h
      exact runs h1 h2 hx hy h
def rest (ks : List PyData) (x : List Nat) : List Nat := if ks = [] then x else 40 :: (TL.joinL [44] ((spellL ks).map cd) ++ (41 :: x))
theorem spell_cd {B C : Nat} {bs : List Int} {ks : List PyData} (h : Bd B C (nd bs ks)) (x : List Nat) : cd (spell (nd bs ks)) ++ x = dgc bs ++ rest ks x := by
  obtain ⟨_, h01, _, _⟩ := h.nd'
  rw [spell_nd]
  unfold rest
  by_cases e : ks = []
  · rw [if_pos e, if_pos e, digS_cd h01]
  · rw [if_neg e, if_neg e, app_cd, app_cd, app_cd, digS_cd h01, join_cd]
    have c1 : cd ("(" : Str) = [40] := by decide +kernel
    have c2 : cd (")" : Str) = [41] := by decide +kernel
    have c3 : cd ("," : Str) = [44] := by decide +kernel
    rw [c1, c2, c3]
    simp only [List.append_assoc, List.cons_append, List.nil_append]
theorem rest_head {ks : List PyData} {x : List Nat} (hx : term x) : ∀ c r, rest ks x = c :: r → c ≠ 48 ∧ c ≠ 49 := by
  intro c r h
  unfold rest at h
  by_cases e : ks = []
  · rw [if_pos e] at h
    rcases hx c r h with rfl | rfl <;> exact ⟨by decide, by decide⟩
  · rw [if_neg e] at h
    injection h with h _
    subst h
    exact ⟨by decide, by decide⟩
theorem joinL_cons (k : List Nat) (r : List (List Nat)) : TL.joinL [44] (k :: r) = k ++ (if r = [] then [] else 44 :: TL.joinL [44] r) := by
  cases r with
  | nil => simp [TL.joinL]
  | cons a r => rfl
theorem none_cd : cd (spell .none) = [45] := by
  rw [spell_non]
  decide +kernel
mutual
theorem spell_pre {B C B' C' : Nat} : ∀ {d d' : PyData} {x y : List Nat}, Bd B C d → (d' = .none ∨ Bd B' C' d') → term x → term y → cd (spell d) ++ x = cd (spell d') ++ y → d = d' ∧ x = y
  | _, d', x, y, .mk (bs := bs) (ks := ks) e h1 h2 h3 h4, hd', hx, hy, h => by
    subst e
    have hb : Bd B C (nd bs ks) := .mk rfl h1 h2 h3 h4
    rw [spell_cd hb] at h
    rcases hd' with rfl | hb'
    · rw [none_cd] at h
      obtain ⟨c, r, e, hc⟩ := dgc_head bs
      rw [e] at h
      injection h with h _
      subst h
      rcases hc with z | z | z <;> cases z
    · obtain ⟨bs', ks', rfl, l1, l2, l3, l4⟩ := id hb'.un
      rw [spell_cd hb'] at h
      obtain ⟨eb, hq⟩ := dgc_app h2 l2 (rest_head hx) (rest_head hy) h
      subst eb
      replace h := hq
      clear hq
      unfold rest at h
      by_cases e : ks = []
      · rw [if_pos e] at h
        by_cases e' : ks' = []
        · rw [if_pos e'] at h
          exact ⟨by rw [e, e'], h⟩
        · rw [if_neg e'] at h
          rcases hx _ _ h with z | z <;> cases z
      · rw [if_neg e] at h
        by_cases e' : ks' = []
        · rw [if_pos e'] at h
          rcases hy _ _ h.symm with z | z <;> cases z
        · rw [if_neg e'] at h
          injection h with _ h
          obtain ⟨eq, hq⟩ := spellL_pre h4 l4 e e' h
          exact ⟨by rw [eq], hq⟩
theorem spellL_pre {B C B' C' : Nat} : ∀ {ks ks' : List PyData} {x y : List Nat}, BdL B C ks → BdL B' C' ks' → ks ≠ [] → ks' ≠ [] → TL.joinL [44] ((spellL ks).map cd) ++ (41 :: x) = TL.joinL [44] ((spellL ks').map cd) ++ (41 :: y) → ks = ks' ∧ x = y
  | _, _, _, _, .nil, _, n, _, _ => absurd rfl n
  | _, [], _, _, _, _, _, n, _ => absurd rfl n
  | _, k' :: r', x, y, .non (ks := r) hr, hk', _, _, h => by
    have hk2 := hk'.at k' List.mem_cons_self
    have hr' : BdL B' C' r' := BdL.of fun z hz => hk'.at z (List.mem_cons_of_mem _ hz)
    simp only [spellL, List.map_cons, joinL_cons, List.append_assoc] at h
    have key : k' = .none ∧ (if (spellL r).map cd = [] then [] else 44 :: TL.joinL [44] ((spellL r).map cd)) ++ (41 :: x) = (if (spellL r').map cd = [] then [] else 44 :: TL.joinL [44] ((spellL r').map cd)) ++ (41 :: y) := by
      rcases hk2 with rfl | hb'
      · exact ⟨rfl, List.append_cancel_left h⟩
      · obtain ⟨bs', ks', rfl, l1, l2, l3, l4⟩ := id hb'.un
        rw [spell_cd hb', none_cd] at h
        obtain ⟨c, q, e, hc⟩ := dgc_head bs'
        rw [e] at h
        injection h with h _
        subst h
        rcases hc with z | z | z <;> cases z
    obtain ⟨ek, hq⟩ := key
    subst ek
    replace h := hq
    clear hq
    by_cases e : r = []
    · subst e
      by_cases e' : r' = []
      · subst e'
        simp [spellL] at h
        exact ⟨rfl, h⟩
      · have n' : (spellL r').map cd ≠ [] := by
          cases r' with
          | nil => exact absurd rfl e'
          | cons a b => simp [spellL]
        rw [if_neg n'] at h
        simp [spellL] at h
    · have n : (spellL r).map cd ≠ [] := by
        cases r with
        | nil => exact absurd rfl e
        | cons a b => simp [spellL]
      rw [if_neg n] at h
      by_cases e' : r' = []
      · subst e'
        simp [spellL] at h
      · have n' : (spellL r').map cd ≠ [] := by
          cases r' with
          | nil => exact absurd rfl e'
          | cons a b => simp [spellL]
        rw [if_neg n'] at h
        injection h with _ h
        obtain ⟨eq, hq⟩ := spellL_pre hr hr' e e' h
        exact ⟨by rw [eq], hq⟩
  | _, k' :: r', x, y, .one (k := k) (ks := r) hk hr, hk', _, _, h => by
    have hk2 := hk'.at k' List.mem_cons_self
    have hr' : BdL B' C' r' := BdL.of fun z hz => hk'.at z (List.mem_cons_of_mem _ hz)
    simp only [spellL, List.map_cons, joinL_cons, List.append_assoc] at h
    have tm : ∀ (r : List PyData) (x : List Nat), term ((if (spellL r).map cd = [] then [] else 44 :: TL.joinL [44] ((spellL r).map cd)) ++ (41 :: x)) := fun r x c q e => by
      split at e
      · injection e with e _
        exact .inr e.symm
      · injection e with e _
        exact .inl e.symm
    obtain ⟨eb, hq⟩ := spell_pre hk hk2 (tm r x) (tm r' y) h
    subst eb
    replace h := hq
    clear hq
    by_cases e : r = []
    · subst e
      by_cases e' : r' = []
      · subst e'
        simp [spellL] at h
        exact ⟨rfl, h⟩
      · have n' : (spellL r').map cd ≠ [] := by
          cases r' with
          | nil => exact absurd rfl e'
          | cons a b => simp [spellL]
        rw [if_neg n'] at h
        simp [spellL] at h
    · have n : (spellL r).map cd ≠ [] := by
        cases r with
        | nil => exact absurd rfl e
        | cons a b => simp [spellL]
      rw [if_neg n] at h
      by_cases e' : r' = []
      · subst e'
        simp [spellL] at h
      · have n' : (spellL r').map cd ≠ [] := by
          cases r' with
          | nil => exact absurd rfl e'
          | cons a b => simp [spellL]
        rw [if_neg n'] at h
        injection h with _ h
        obtain ⟨eq, hq⟩ := spellL_pre hr hr' e e' h
        exact ⟨by rw [eq], hq⟩
end
theorem spell_inj {B C B' C' : Nat} {d d' : PyData} (h : Bd B C d) (h' : Bd B' C' d') (e : spell d = spell d') : d = d' := by
  refine (spell_pre (x := []) (y := []) h (.inr h') (fun c r z => nomatch z) (fun c r z => nomatch z) ?_).1
  rw [e]
theorem eqv_nums : ∀ {bs bs' : List Int}, PyData.eqvAll (bs.map PyData.int) (bs'.map PyData.int) = true → bs = bs'
  | [], [], _ => rfl
  | [], _ :: _, h => by cases h
  | _ :: _, [], h => by cases h
  | b :: r, b' :: r', h => by
    rw [List.map_cons, List.map_cons] at h
    have h2 : ((b == b') && PyData.eqvAll (r.map PyData.int) (r'.map PyData.int)) = true := h
    rw [Bool.and_eq_true] at h2
    rw [beq_iff_eq.mp h2.1, eqv_nums h2.2]
mutual
theorem eqv_bd {B C B' C' : Nat} : ∀ {d d' : PyData}, Bd B C d → (d' = .none ∨ Bd B' C' d') → PyData.eqv d d' = true → d = d'
  | _, d', .mk (bs := bs) (ks := ks) e h1 h2 h3 h4, hd', h => by
    subst e
    rcases hd' with rfl | hb'
    · cases h
    · obtain ⟨bs', ks', rfl, l1, l2, l3, l4⟩ := id hb'.un
      have h5 : (PyData.eqvAll (bs.map PyData.int) (bs'.map PyData.int) && (PyData.eqvAll ks ks' && true)) = true := h
      rw [Bool.and_eq_true, Bool.and_true] at h5
      rw [eqv_nums h5.1, eqv_bdL h4 l4 h5.2]
theorem eqv_bdL {B C B' C' : Nat} : ∀ {ks ks' : List PyData}, BdL B C ks → BdL B' C' ks' → PyData.eqvAll ks ks' = true → ks = ks'
  | _, [], .nil, _, _ => rfl
  | _, _ :: _, .nil, _, h => by cases h
  | _, [], .non _, _, h => by cases h
  | _, [], .one _ _, _, h => by cases h
  | _, k' :: r', .non (ks := r) hr, hk', h => by
    have hr' : BdL B' C' r' := BdL.of fun z hz => hk'.at z (List.mem_cons_of_mem _ hz)
    have h2 : (PyData.eqv .none k' && PyData.eqvAll r r') = true := h
    rw [Bool.and_eq_true] at h2
    have e : k' = .none := by
      rcases hk'.at k' List.mem_cons_self with e | hb
      · exact e
      · obtain ⟨bs', ks', rfl, _⟩ := hb.un
        have := h2.1
        cases this
    rw [e, eqv_bdL hr hr' h2.2]
  | _, k' :: r', .one (k := k) (ks := r) hk hr, hk', h => by
    have hr' : BdL B' C' r' := BdL.of fun z hz => hk'.at z (List.mem_cons_of_mem _ hz)
    have h2 : (PyData.eqv k k' && PyData.eqvAll r r') = true := h
    rw [Bool.and_eq_true] at h2
    rw [eqv_bd hk (hk'.at k' List.mem_cons_self) h2.1, eqv_bdL hr hr' h2.2]
end
/-- == of trees and == of their spellings -/
theorem eq_both {B C B' C' : Nat} {d d' : PyData} (h : Bd B C d) (h' : Bd B' C' d') (hl : deep d ≤ 31) : PyData.eqv d d' = decide (V.str (spell d') = V.str (spell d)) := by
  by_cases e : d = d'
  · subst e
    rw [decide_eq_true rfl]
    exact eqv_same (shp_bd h hl)
  · rw [decide_eq_false fun z => e (spell_inj h h' (by injection z with z; exact z.symm))]
    cases q : PyData.eqv d d' with
    | false => rfl
    | true => exact absurd (eqv_bd h (.inr h') q) e
theorem keepN_rep {α : Type} {p : α → Bool} {x : α} (hx : p x = true) (l : List α) : ∀ n : Nat, keepN p (l ++ List.replicate n x) = keepN p l
  | 0 => by simp
  | n + 1 => by
    rw [List.replicate_succ', ← List.append_assoc, keepN_app, if_pos hx]
    exact keepN_rep hx l n
theorem short_rep {α : Type} {p : α → Bool} {x : α} (hx : p x = true) (l : List α) (n : Nat) : short p (l ++ List.replicate n x) = short p l := by
  unfold short
  rw [keepN_rep hx, List.take_append_of_le_length (keepN_le p l)]
/-! ### data made on the way -/
def rCat2 (K : PySem.W.Frag) : R2 := fun x y H Q => (∃ a b ys, x = .ref a ∧ y = .ref b ∧ SqT K H a [] ∧ SqT K H b ys ∧ Q (.ref b) H) ∨ rCatT K x y H Q
theorem op_cat2 {X : Cx} : OpR X (binaryOp .Add) (rCat2 X.K) := op_or op_catT0 op_catT
def EvD (K : PySem.W.Frag) (te : TE) (σ : L2.St) (H : Hp) (d : PyData) : Prop := ∀ H1, Ex H H1 → ∀ Q : VK, (∀ v H2, Ex H1 H2 → Dp K H2 v d → Q v H2) → te σ H1 Q
def EvDs (K : PySem.W.Frag) (ta : TA) (σ : L2.St) (H : Hp) (ds : List PyData) : Prop := ∀ H1, Ex H H1 → ∀ Q : List V → Hp → Prop, (∀ vs H2, Ex H1 H2 → DpAll K H2 vs ds → Q vs H2) → ta σ H1 Q
section
variable {K : PySem.W.Frag} {σ : L2.St} {H : Hp} {te ta tb ti : TE} {d : PyData} {ds xs ys : List PyData}
theorem ed_of {v : V} (h : Ev te σ H v) (hd : Dp K H v d) : EvD K te σ H d := fun H1 e Q q => h H1 e Q fun H2 e2 => q v H2 e2 (dpM (e.trans e2) _ _ hd)
theorem ed_var {i : Nat} {v : V} (h : σ[i]? = some (some v)) (hd : Dp K H v d) : EvD K (tVar i) σ H d := ed_of (ev_var h) hd
theorem ed_non : EvD K (tC .non) σ H .none := ed_of ev_c .non
theorem ed_int {i : Int} : EvD K (tC (.int i)) σ H (.int i) := ed_of ev_c (.int i)
theorem ed_str {z : Str} : EvD K (tC (.str z)) σ H (.str z) := ed_of ev_c (.str z)
theorem eds_nil : EvDs K tNil σ H [] := fun H1 e Q q => q [] H1 (Ex.refl _) .nil
theorem eds_cons {tr : TA} (h : EvD K te σ H d) (hr : EvDs K tr σ H ds) : EvDs K (tCons te tr) σ H (d :: ds) := fun H1 e Q q =>
  h H1 e _ fun v H2 e2 dv => hr H2 (e.trans e2) _ fun vs H3 e3 dvs => q (v :: vs) H3 (e2.trans e3) (.cons (dpM e3 _ _ dv) dvs)
theorem ed_tup {tt : TA} (h : EvDs K tt σ H ds) (hl : ds.length ≤ 1000) : EvD K (tTup tt) σ H (.tuple ds) := fun H1 e Q q =>
  h H1 e _ fun vs H2 e2 dvs => ⟨fits (by rw [dpAll_len dvs]; exact hl), fun p hp => q (.ref p) _ (e2.trans (Ex.new hp)) (.tup (st_of upd_same) (dpMs (Ex.new hp) _ _ dvs))⟩
theorem ed_cat (h1 : EvD K ta σ H (.tuple xs)) (h2 : EvD K tb σ H (.tuple ys)) (hl : xs.length + ys.length ≤ 1000) : EvD K (tOp (rCat2 K) ta tb) σ H (.tuple (xs ++ ys)) := fun H1 e Q q =>
  h1 H1 e _ fun v H2 e2 dv => h2 H2 (e.trans e2) _ fun u H3 e3 du => by
    cases dv with
    | @tup a vs _ ha hvs =>
      cases du with
      | @tup b us _ hb hus =>
        have lv := dpAll_len hvs
        have lu := dpAll_len hus
        have ha3 := ex_t e3 ha
        have hvs3 := dpMs e3 _ _ hvs
        cases vs with
        | nil =>
          cases xs with
          | nil => exact .inl ⟨a, b, us, rfl, rfl, ha3, hb, q (.ref b) H3 (e2.trans e3) (.tup hb hus)⟩
          | cons x r => cases lv
        | cons v r =>
          refine .inr ⟨a, b, v :: r, us, rfl, rfl, ha3, hb, (fun z => nomatch z), fits (by omega), (fun z => ?_), fun _ p hp => q (.ref p) _ ((e2.trans e3).trans (Ex.new hp)) (.tup (st_of upd_same) (dpMs (Ex.new hp) _ _ (dpAll_app hvs3 hus)))⟩
          subst z
          have e0 : ys = [] := by
            cases ys with
            | nil => rfl
            | cons y s => cases lu
          refine q (.ref a) H3 (e2.trans e3) ?_
          rw [e0, List.append_nil]
          exact .tup ha3 hvs3
theorem ed_take {i : Nat} (h1 : EvD K ta σ H (.tuple xs)) (h2 : Ev ti σ H (.int (i : Nat))) : EvD K (tSl (rSlA K) ta tNoPart (tPart ti)) σ H (.tuple (xs.take i)) := fun H1 e Q q =>
  h1 H1 e _ fun v H2 e2 dv => h2 H2 (e.trans e2) _ fun H3 e3 => ⟨(i : Nat), rfl, by
    cases dv with
    | @tup a vs _ ha hvs =>
      have lv := dpAll_len hvs
      have ha3 := ex_t e3 ha
      have hvs3 := dpMs e3 _ _ hvs
      refine ⟨a, vs, rfl, ha3, fun hw => ?_, fun hw r hr => ?_⟩
      · have w2 := hw.2
        rw [HT.sIx_nat] at w2
        refine q (.ref a) H3 (e2.trans e3) ?_
        rw [take_all (show xs.length ≤ i by omega)]
        exact .tup ha3 hvs3
      · refine q (.ref r) _ ((e2.trans e3).trans (Ex.new hr)) ?_
        refine .tup (st_of (by rw [upd_same, cut_take])) (dps_take _ (dpMs (Ex.new hr) _ _ hvs3))⟩
theorem dps_drop {K : PySem.W.Frag} {H : Hp} : ∀ {vs : List V} {ds : List PyData} (n : Nat), DpAll K H vs ds → DpAll K H (vs.drop n) (ds.drop n)
  | _, _, 0, h => h
  | _, _, n + 1, .nil => .nil
  | _, _, n + 1, .cons h r => dps_drop n r
theorem ed_drop {i : Nat} (h1 : EvD K ta σ H (.tuple xs)) (h2 : Ev ti σ H (.int (i : Nat))) : EvD K (tSl (rSlA K) ta (tPart ti) tNoPart) σ H (.tuple (xs.drop i)) := fun H1 e Q q =>
  h1 H1 e _ fun v H2 e2 dv => h2 H2 (e.trans e2) _ fun H3 e3 => ⟨(i : Nat), rfl, by
    cases dv with
    | @tup a vs _ ha hvs =>
      have lv := dpAll_len hvs
      have ha3 := ex_t e3 ha
      have hvs3 := dpMs e3 _ _ hvs
      refine ⟨a, vs, rfl, ha3, fun hw => ?_, fun hw r hr => ?_⟩
      · have w1 := hw.1
        rw [HT.sIx_nat] at w1
        refine q (.ref a) H3 (e2.trans e3) ?_
        have e0 : xs.drop i = xs := by
          rcases Nat.eq_zero_or_pos i with z | z
          · rw [z]
            rfl
          · have : xs.length = 0 := by omega
            rw [List.length_eq_zero_iff.mp this]
            simp
        rw [e0]
        exact .tup ha3 hvs3
      · refine q (.ref r) _ ((e2.trans e3).trans (Ex.new hr)) ?_
        refine .tup (st_of (by rw [upd_same, cut_drop])) (dps_drop _ (dpMs (Ex.new hr) _ _ hvs3))⟩
theorem ed_ix {i : Nat} (h1 : EvD K ta σ H (.tuple xs)) (h2 : Ev ti σ H (.int (i : Nat))) (hi : xs[i]? = some d) : EvD K (tOp (rIxT K) ta ti) σ H d := fun H1 e Q q =>
  h1 H1 e _ fun v H2 e2 dv => h2 H2 (e.trans e2) _ fun H3 e3 => by
    cases dv with
    | @tup a vs _ ha hvs =>
      have lv := dpAll_len hvs
      have h0 := (List.getElem?_eq_some_iff.mp hi).1
      have hx : vs[i]? = some (vs[i]'(by omega)) := List.getElem?_eq_getElem _
      obtain ⟨d', h3, h4⟩ := dpAll_at hvs hx
      rw [hi] at h3
      cases h3
      exact ⟨a, vs, (i : Nat), _, rfl, rfl, ex_t e3 ha, atI_nat hx, q _ H3 (e2.trans e3) (dpM e3 _ _ h4)⟩
theorem EvD.mono {H' : Hp} (e : Ex H H') (h : EvD K te σ H d) : EvD K te σ H' d := fun H1 a Q q => h H1 (e.trans a) Q q
theorem s_retD {D : Ends} (h : EvD K te σ H d) (k : ∀ v H1, Ex H H1 → Dp K H1 v d → D.rt v H1) : tRet te D σ H := h H (Ex.refl H) D.rt k
theorem q_asgED {D : Ends} {tz : TS} {i : Nat} (h : EvD K te σ H d) (k : ∀ v H1, Ex H H1 → Dp K H1 v d → tz D (σ.set i (some v)) H1) : tSeq (tAsg te (gName i)) tz D σ H := h H (Ex.refl H) _ k
/-- == and != of data -/
theorem ev_neD {e : PyData} (h1 : EvD K ta σ H d) (h2 : EvD K tb σ H e) (sd : SeqAt.shaped d = true) (se : SeqAt.shaped e = true) : Ev (tOp (rNeD K) ta tb) σ H (.bl (!PyData.eqv d e)) := fun H1 a Q q =>
  h1 H1 a _ fun v H2 e2 dv => h2 H2 (a.trans e2) _ fun u H3 e3 du => ⟨d, e, dpM e3 _ _ dv, du, sd, se, q H3 (e2.trans e3)⟩
theorem ev_eqD {e : PyData} (h1 : EvD K ta σ H d) (h2 : EvD K tb σ H e) (sd : SeqAt.shaped d = true) (se : SeqAt.shaped e = true) : Ev (tOp (rEqD K) ta tb) σ H (.bl (PyData.eqv d e)) := fun H1 a Q q =>
  h1 H1 a _ fun v H2 e2 dv => h2 H2 (a.trans e2) _ fun u H3 e3 du => ⟨d, e, dpM e3 _ _ dv, du, sd, se, q H3 (e2.trans e3)⟩
theorem ed_call {sp : Sp} {ta : TA} {vs : List V} (h : EvA ta σ H vs) (hs : ∀ H1, Ex H H1 → ∀ Q : VK, (∀ v H2, Ex H1 H2 → Dp K H2 v d → Q v H2) → sp (vs ++ []) H1 Q E0) : EvD K (tCall sp [] E0 ta) σ H d := fun H1 e Q q =>
  h H1 e _ fun H2 e2 => hs H2 (e.trans e2) Q fun v H3 e3 dv => q v H3 (e2.trans e3) dv
theorem ed_if {t : TT} {b : Bool} (h : EvT t σ H b) (h1 : b = true → EvD K ta σ H d) (h2 : b = false → EvD K tb σ H d) : EvD K (tIf t ta tb) σ H d := fun H1 e Q q => h H1 e _ fun H2 e2 => by
  cases b with
  | true =>
    show ta σ H2 Q
    exact h1 rfl H2 (e.trans e2) Q fun v H3 e3 dv => q v H3 (e2.trans e3) dv
  | false =>
    show tb σ H2 Q
    exact h2 rfl H2 (e.trans e2) Q fun v H3 e3 dv => q v H3 (e2.trans e3) dv
end
end PZ

set_option Elab.async false
set_option linter.all false
set_option maxRecDepth 100000
set_option maxHeartbeats 8000000
namespace XO
open PySem PySem.Spec PyProof.Rows L2 He XH XV XR PEN TR XQ PZ Evl
/-! order of data, tuples backwards, calls of methods -/
def rLtD (K : PySem.W.Frag) : R2 := fun x y H Q => ∃ d e, Dp K H x d ∧ Dp K H y e ∧ PySem.W.alike d e = true ∧ d ≠ .none ∧ d.depth ≤ 60 ∧ Q (.bl (PySem.W.dataLt d e)) H
theorem op_ltD {X : Cx} (hu : X.A.units + 64 < cLine) : OpR X (compareOp .Lt) (rLtD X.K) := by
  intro pins s σ H x y v u Q I rx ry h
  obtain ⟨d, e, hd, he, al, nn, dp, q⟩ := h
  obtain ⟨as, r1⟩ := Dp.reads I d x v hd rx
  obtain ⟨bs, r2⟩ := Dp.reads I e y u he ry
  exact PySem.W.lt_data r1 r2 al nn (by omega) ⟨.bl _, H, I, rfl, q⟩
theorem ev_ltD {K : PySem.W.Frag} {σ : L2.St} {H : Hp} {ta tb : TE} {d e : PyData} (h1 : EvD K ta σ H d) (h2 : EvD K tb σ H e) (al : PySem.W.alike d e = true) (nn : d ≠ .none) (dp : d.depth ≤ 60) : Ev (tOp (rLtD K) ta tb) σ H (.bl (PySem.W.dataLt d e)) := fun H1 a Q q =>
  h1 H1 a _ fun v H2 e2 dv => h2 H2 (a.trans e2) _ fun u H3 e3 du => ⟨d, e, dpM e3 _ _ dv, du, al, nn, dp, q H3 (e2.trans e3)⟩

theorem places_rev (n : Nat) : Builtin.Slice.slicePlaces ((n : Int) - 1) (-1) (-1) = n := by
  unfold Builtin.Slice.slicePlaces
  have h1 : ¬ ((-1 : Int) > 0) := by decide
  simp only [h1, if_false]
  by_cases h : (n : Int) - 1 > -1
  · rw [if_pos h]
    rw [show (- -1 : Int) = 1 by decide, Int.ediv_one]
    omega
  · rw [if_neg h]
    omega
theorem pick_rev (xs : Array Value) : ((List.range xs.size).filterMap fun (m : Nat) => xs[(((xs.size : Int) - 1) + (m : Int) * (-1)).toNat]?).toArray = xs.toList.reverse.toArray := by
  have e : ((List.range xs.size).filterMap fun (m : Nat) => xs[(((xs.size : Int) - 1) + (m : Int) * (-1)).toNat]?) = ((List.range xs.size).map fun k => xs.size - 1 - k).filterMap (xs[·]?) := by
    rw [List.filterMap_map]
    refine congrArg (fun f => List.filterMap f (List.range xs.size)) (funext fun m => ?_)
    show xs[(((xs.size : Int) - 1) + (m : Int) * (-1)).toNat]? = xs[xs.size - 1 - m]?
    rw [show (((xs.size : Int) - 1) + (m : Int) * (-1)).toNat = xs.size - 1 - m by omega]
  rw [e, PySem.W.krv_range, List.filterMap_reverse, PySem.W.krv_all]
section
variable {prog : Program} {w : World} {A : Around} {E : Value → Shared → Prop} {s : Shared}
theorem sliceApplied_rev {sl : Addr} {vl vu vs : Value} {n : Nat} {Q : Int × Int × Nat → Shared → Prop} (hs : s.heap.IsSliceOf sl vl vu vs) (pl : IsPart vl none) (pu : IsPart vu none) (ps : IsPart vs (some (-1)))
    (h : Q ((n : Int) - 1, -1, n) s) : wpAny (model prog w) A (Builtin.Slice.sliceApplied (.ref sl) (pure (n : Int))) Q E s := by
  obtain ⟨os, hos, hcs, hds⟩ := id hs
  unfold Builtin.Slice.sliceApplied Builtin.Slice.sliceFields
  refine wpAny_bind (wpAny_bind (wpAny_field hos hds (x := vl) rfl (wpAny_bind (wpAny_field hos hds (x := vu) rfl (wpAny_bind (wpAny_field hos hds (x := vs) rfl (wpAny_pure ?_)))))))
  refine wpAny_bind (HT.slicePart_ ps ?_)
  show wpAny _ _ (if ((-1 : Int) == 0) = true then _ else _) _ _ s
  rw [if_neg (by decide)]
  refine wpAny_bind (HT.slicePart_ pl (wpAny_bind (HT.slicePart_ pu (wpAny_bind (wpAny_pure ?_)))))
  show wpAny _ _ (pure ((n : Int) - 1, (-1 : Int), Builtin.Slice.slicePlaces ((n : Int) - 1) (-1) (-1))) _ _ s
  rw [places_rev]
  exact wpAny_pure h
theorem getItem_tuple_rev {t sl : Addr} {items : Array Value} {vl vu vs : Value} {Q : Value → Shared → Prop} (ht : IsTup s.heap t items) (hs : s.heap.IsSliceOf sl vl vu vs) (pl : IsPart vl none) (pu : IsPart vu none) (ps : IsPart vs (some (-1)))
    (h : Q (.ref s.heap.objs.size) { s with heap := s.heap.push { cls := .type "tuple", data := .seq items.toList.reverse.toArray } })
    (hsz : items.size ≤ sizeLine) : wpAny (model prog w) A (getItem (.ref t) (.ref sl)) Q E s := by
  have htake : sizeOk (.seq items.toList.reverse.toArray) := by
    show items.toList.reverse.toArray.size ≤ sizeLine
    rw [List.size_toArray, List.length_reverse, Array.length_toList]
    exact hsz
  obtain ⟨os, hos, hcs, hds⟩ := id hs
  have hTs : s.TypeIs (.ref sl) "slice" := ⟨os, hos, hcs⟩
  unfold getItem
  try with_reducible refine wpAny_holding ?_
  first | refine wpAny_bind (wpAny_pure ?_) | skip
  refine wpAny_bind (wpAny_sequenceKey ht.typeIs (by decide) ?_)
  refine wpAny_bind (wpAny_callSpecial?_slot (name := Str.ofString "__getitem__") ht.typeIs PyProof.Rows.slot_tuple_getitem
    (wpAny_call_entry PyProof.Rows.slot_tuple_getitem ht.typeIs entry_tuple_getitem ?_ (args_tuple_getitem _ _)))
  show wpAny _ _ (Builtin.Tuple.tupleItemsOf (.ref t) >>= _) _ _ s
  refine wpAny_bind (tupleItemsOf_ ht ?_)
  refine wpAny_bind (wpAny_typeOf hTs ?_)
  rw [if_pos (by decide)]
  refine wpAny_bind (sliceApplied_rev hs pl pu ps ?_)
  have hno : ¬ ((((items.size : Int) - 1) == 0 && (-1 : Int) == 1 && items.size == items.size) = true) := by
    rw [show ((-1 : Int) == 1) = false from rfl, Bool.and_false, Bool.false_and]
    exact Bool.false_ne_true
  show wpAny _ _ (if (((items.size : Int) - 1) == 0 && (-1 : Int) == 1 && items.size == items.size) = true then _ else _) _ _ s
  rw [if_neg hno, pick_rev]
  first
    | exact wpAny_bind (m := Builtin.Tuple.tupleExact _) (wpAny_newObj_type (wpAny_pure ⟨_, rfl, wpAny_pure h⟩) htake)
    | exact wpAny_bind (m := Builtin.Tuple.tupleExact _) (wpAny_newObj_type (wpAny_bind (wpAny_pure (wpAny_pure ⟨_, rfl, wpAny_pure h⟩))) htake)
    | exact wpAny_bind (wpAny_bind (m := Builtin.Tuple.tupleExact _) (wpAny_newObj_type (wpAny_pure (wpAny_pure ⟨_, rfl, wpAny_pure h⟩)) htake))
    | exact wpAny_bind (wpAny_bind (m := Builtin.Tuple.tupleExact _) (wpAny_newObj_type (wpAny_pure ⟨_, rfl, wpAny_pure h⟩) htake))
end
def tRevT (K : PySem.W.Frag) (te : TE) : TE := fun σ H Q => te σ H fun x H1 => ∃ a xs, x = .ref a ∧ SqT K H1 a xs ∧ ∀ p, H1 p = none → Q (.ref p) (upd H1 p (.tup xs.reverse))
theorem pe_revT {X : Cx} {e : Expr} {te : TE} {k : Nat} {p1 p2 p3 pos : Pos} (he : PE X e te) : PE X (.Subscript e (.Slice none none (some (.UnaryOp .USub (.Constant (.int 1) k p1) p2)) p3) pos) (tRevT X.K te) := by
  refine ⟨fun pins s σ H Q I h => ?_⟩
  refine Subscript_ (thn (he.run pins s σ H _ I h) fun v s1 ⟨x, H1, I1, r1, q1⟩ => ?_)
  obtain ⟨a, xs, ex, hx, q⟩ := q1
  subst ex
  cases r1
  have hst : PO X (some (.UnaryOp .USub (.Constant (.int 1) k p1) p2)) (tPart (tUn (rU fun i => .int (-i)) (tC (.int 1)))) := po_some (pe_un un_neg pe_int)
  refine wpAny_Slice (thn (po_none.run pins s1 σ H1 (fun o H2 => o = none ∧ H2 = H1) I1 ⟨rfl, rfl⟩) fun vl s2 ⟨l, H2, I2, pl, el, e2⟩ => ?_)
  subst el e2
  refine thn (po_none.run pins s2 σ H2 (fun o H3 => o = none ∧ H3 = H2) I2 ⟨rfl, rfl⟩) fun vu s3 ⟨u, H3, I3, pu, eu, e3⟩ => ?_
  subst eu e3
  refine thn (hst.run pins s3 σ H3 (fun o H4 => o = some (-1) ∧ H4 = H3) I3 ⟨1, rfl, -1, rfl, rfl, rfl⟩) fun vs s4 ⟨o, H4, I4, ps, eo, e4⟩ => ?_
  subst eo e4
  have I5 : Inv X pins σ H4 { s4 with heap := s4.heap.push { cls := .type "slice", data := .fields #[vl, vu, vs] } } := I4.kept (t' := s4.toks) fun b ob q => Heap.get?_push_of_some _ q
  obtain ⟨its, r, ht, hz⟩ := I5.tuple hx
  have hlen : its.toArray.size = xs.length := by rw [List.size_toArray]; exact r.length.symm
  show wpAny (model X.prog X.w) X.A (subscriptTail e (.Slice none none (some (.UnaryOp .USub (.Constant (.int 1) k p1) p2)) p3) (.ref a) (.ref s4.heap.objs.size)) (EP X pins σ Q) X.xe { s4 with heap := s4.heap.push { cls := .type "slice", data := .fields #[vl, vu, vs] } }
  refine tail_any (ops := [.ref a, .ref s4.heap.objs.size]) ht.typeIs PyProof.Rows.slot_tuple_getitem.lookup ?_ (by with_unfolding_all rfl)
  refine getItem_tuple_rev ht (Heap.IsSliceOf.new _ vl vu vs) pl pu ps ?_ (by rw [hlen]; exact hz)
  refine ⟨.ref _, _, I5.laid (t' := s4.toks) (o := .tup xs.reverse) (fun b ob q => Heap.get?_push_of_some _ q) (Nat.le_refl _) ?_, rfl, q _ (I5.hok.fresh (Nat.le_refl _))⟩
  exact ⟨by rw [List.length_reverse]; omega, _, r.reverse, IsTup.new _ _⟩
theorem dps_rev {K : PySem.W.Frag} {H : Hp} : ∀ {vs : List V} {ds : List PyData}, DpAll K H vs ds → DpAll K H vs.reverse ds.reverse
  | _, _, .nil => .nil
  | _, _, .cons h r => by
    rw [List.reverse_cons, List.reverse_cons]
    exact dpAll_app (dps_rev r) (.cons h .nil)
theorem ed_rev {K : PySem.W.Frag} {σ : L2.St} {H : Hp} {ta : TE} {xs : List PyData} (h : EvD K ta σ H (.tuple xs)) : EvD K (tRevT K ta) σ H (.tuple xs.reverse) := fun H1 a Q q =>
  h H1 a _ fun v H2 e2 dv => by
    cases dv with
    | @tup b vs _ hb hvs =>
      refine ⟨b, vs, rfl, hb, fun p hp => q (.ref p) _ (e2.trans (Ex.new hp)) ?_⟩
      exact .tup (st_of upd_same) (dps_rev (dpMs (Ex.new hp) _ _ hvs))
theorem ev_meth {σ : L2.St} {H : Hp} {ta : TE} {t : TA} {C a dx : Addr} {m : Str} {fs : List (Str × V)} {vs : List V} {v : V} {sp : Sp} {E : XK} (h : Ev ta σ H (.ref a)) (hi : H a = some (.ins C dx fs)) (l : fs.lookup m = none) (ht : EvA t σ H vs)
    (hs : ∀ H1, Ex H H1 → ∀ Q : VK, (∀ H2, Ex H1 H2 → Q v H2) → sp (.ref a :: (vs ++ [])) H1 Q E) : Ev (tMeth C m sp [] E ta t) σ H v := fun H1 e Q q =>
  h H1 e _ fun H2 e2 => ⟨a, dx, fs, rfl, (e.trans e2) _ _ hi, l, ht H2 (e.trans e2) _ fun H3 e3 => hs H3 ((e.trans e2).trans e3) Q fun H4 e4 => q H4 ((e2.trans e3).trans e4)⟩
/-! ### trees that are trimmed -/
theorem keepN_keep {α : Type} (p : α → Bool) (l : List α) : keepN p (l.take (keepN p l)) = keepN p l := by
  have key : ∀ n, n = l.length → keepN p (l.take (keepN p l)) = keepN p l := by
    intro n
    induction n generalizing l with
    | zero =>
      intro h
      rw [List.length_eq_zero_iff.mp h.symm]
      rfl
    | succ n ih =>
      intro h
      obtain ⟨r, x, rfl⟩ : ∃ r x, l = r ++ [x] := by
        rcases List.eq_nil_or_concat l with z | ⟨r, x, z⟩
        · rw [z] at h
          cases h
        · exact ⟨r, x, by rw [z]; simp⟩
      rw [keepN_app]
      cases q : p x with
      | true =>
        rw [if_pos rfl, List.take_append_of_le_length (keepN_le p r)]
        exact ih r (by rw [List.length_append] at h; simpa using h)
      | false =>
        rw [if_neg Bool.false_ne_true, List.take_of_length_le (by rw [List.length_append]; exact Nat.le_refl _), keepN_app, q, if_neg Bool.false_ne_true]
  exact key _ rfl
theorem short_short {α : Type} (p : α → Bool) (l : List α) : short p (short p l) = short p l := by
  unfold short
  rw [keepN_keep, List.take_take, Nat.min_self]
mutual
theorem trim_trim {B C : Nat} : ∀ {d : PyData}, Bd B C d → trim (trim d) = trim d
  | _, .mk (bs := bs) (ks := ks) rfl _ _ _ hk => by
    rw [trim_nd, trim_nd, short_short]
    have e1 : trimL (short isN (trimL ks)) = short isN (trimL ks) := by
      unfold short
      rw [trimL_map (List.take _ _), List.map_take, ← trimL_map (trimL ks), trimL_trimL hk]
    rw [e1, short_short]
theorem trimL_trimL {B C : Nat} : ∀ {ks : List PyData}, BdL B C ks → trimL (trimL ks) = trimL ks
  | _, .nil => by simp [trimL]
  | _, .non r => by simp [trimL, trim_non, trimL_trimL r]
  | _, .one h r => by simp [trimL, trim_trim h, trimL_trimL r]
end
end XO

set_option Elab.async false
set_option linter.all false
set_option maxRecDepth 100000
set_option maxHeartbeats 8000000

namespace K08
open PySem PySem.Spec PyProof.Rows L2 He XH XV XR PEN TR XQ PZ Evl
def top (i : Nat) : Stmt := PySem.Challenge.pw_tryback_k08_puzzles_refused.main.body.getD i (.Pass ⟨0, 0, 0, 0⟩)
abbrev s_wall : Stmt := top 0
theorem sc_wall : FnScope ["k"] ["k"] (defScope s_wall) := ⟨rfl, rfl, rfl, by decide +kernel, rfl, by decide +kernel, by decide +kernel⟩
abbrev s_NoSuch_init : Stmt := inClass (top 5) 0
theorem sc_NoSuch_init : FnScope ["self", "name"] ["self", "name"] (defScope s_NoSuch_init) := ⟨rfl, rfl, rfl, by decide +kernel, rfl, by decide +kernel, by decide +kernel⟩
abbrev s_Puzzle_init : Stmt := inClass (top 9) 0
theorem sc_Puzzle_init : FnScope ["self", "bits", "children", "all_bits", "all_children", "nodes", "child", "node"] ["self", "bits", "children"] (defScope s_Puzzle_init) := ⟨rfl, rfl, rfl, by decide +kernel, rfl, by decide +kernel, by decide +kernel⟩
abbrev s_Puzzle_paths : Stmt := inClass (top 9) 1
theorem sc_Puzzle_paths : FnScope ["self"] ["self"] (defScope s_Puzzle_paths) := ⟨rfl, rfl, rfl, by decide +kernel, rfl, by decide +kernel, by decide +kernel⟩
abbrev s_Puzzle_before : Stmt := inClass (top 9) 2
theorem sc_Puzzle_before : FnScope ["self", "other"] ["self", "other"] (defScope s_Puzzle_before) := ⟨rfl, rfl, rfl, by decide +kernel, rfl, by decide +kernel, by decide +kernel⟩
abbrev s_Puzzle_with_bits : Stmt := inClass (top 9) 3
theorem sc_Puzzle_with_bits : FnScope ["self", "path", "bits"] ["self", "path", "bits"] (defScope s_Puzzle_with_bits) := ⟨rfl, rfl, rfl, by decide +kernel, rfl, by decide +kernel, by decide +kernel⟩
abbrev s_Puzzle_with_child : Stmt := inClass (top 9) 4
theorem sc_Puzzle_with_child : FnScope ["self", "path", "number", "child"] ["self", "path", "number", "child"] (defScope s_Puzzle_with_child) := ⟨rfl, rfl, rfl, by decide +kernel, rfl, by decide +kernel, by decide +kernel⟩
abbrev s_Puzzle_rebuilt : Stmt := inClass (top 9) 5
theorem sc_Puzzle_rebuilt : FnScope ["self", "path", "node"] ["self", "path", "node"] (defScope s_Puzzle_rebuilt) := ⟨rfl, rfl, rfl, by decide +kernel, rfl, by decide +kernel, by decide +kernel⟩
abbrev s_Puzzle_node_at : Stmt := inClass (top 9) 6
theorem sc_Puzzle_node_at : FnScope ["self", "path", "node", "number"] ["self", "path"] (defScope s_Puzzle_node_at) := ⟨rfl, rfl, rfl, by decide +kernel, rfl, by decide +kernel, by decide +kernel⟩
abbrev s_Puzzle___contains__ : Stmt := inClass (top 9) 7
theorem sc_Puzzle___contains__ : FnScope ["self", "x"] ["self", "x"] (defScope s_Puzzle___contains__) := ⟨rfl, rfl, rfl, by decide +kernel, rfl, by decide +kernel, by decide +kernel⟩
abbrev s_Puzzle___getitem__ : Stmt := inClass (top 9) 8
theorem sc_Puzzle___getitem__ : FnScope ["self", "at", "node"] ["self", "at"] (defScope s_Puzzle___getitem__) := ⟨rfl, rfl, rfl, by decide +kernel, rfl, by decide +kernel, by decide +kernel⟩
abbrev s_Puzzle___iter__ : Stmt := inClass (top 9) 9
theorem sc_Puzzle___iter__ : FnScope ["self"] ["self"] (defScope s_Puzzle___iter__) := ⟨rfl, rfl, rfl, by decide +kernel, rfl, by decide +kernel, by decide +kernel⟩
abbrev s_Puzzle___eq__ : Stmt := inClass (top 9) 10
theorem sc_Puzzle___eq__ : FnScope ["self", "other"] ["self", "other"] (defScope s_Puzzle___eq__) := ⟨rfl, rfl, rfl, by decide +kernel, rfl, by decide +kernel, by decide +kernel⟩
abbrev s_check_entries : Stmt := top 10
theorem sc_check_entries : FnScope ["bits", "children", "bit", "child"] ["bits", "children"] (defScope s_check_entries) := ⟨rfl, rfl, rfl, by decide +kernel, rfl, by decide +kernel, by decide +kernel⟩
abbrev s_is_bit : Stmt := top 11
theorem sc_is_bit : FnScope ["bit"] ["bit"] (defScope s_is_bit) := ⟨rfl, rfl, rfl, by decide +kernel, rfl, by decide +kernel, by decide +kernel⟩
abbrev s_trimmed : Stmt := top 12
theorem sc_trimmed : FnScope ["entries", "empty", "many"] ["entries", "empty"] (defScope s_trimmed) := ⟨rfl, rfl, rfl, by decide +kernel, rfl, by decide +kernel, by decide +kernel⟩
abbrev s_spelled : Stmt := top 13
theorem sc_spelled : FnScope ["bits", "children", "digits", "inner", "bit", "child"] ["bits", "children"] (defScope s_spelled) := ⟨rfl, rfl, rfl, by decide +kernel, rfl, by decide +kernel, by decide +kernel⟩
abbrev s_law_draw : Stmt := top 15
theorem sc_law_draw : FnScope ["_law_pen", "_law_many", "_law_spot", "_law_at", "_law_cell", "_law_mixed"] ["_law_pen", "_law_many"] (defScope s_law_draw) := ⟨rfl, rfl, rfl, by decide +kernel, rfl, by decide +kernel, by decide +kernel⟩
abbrev s_law_pick : Stmt := top 16
theorem sc_law_pick : FnScope ["_law_pen", "_law_row"] ["_law_pen", "_law_row"] (defScope s_law_pick) := ⟨rfl, rfl, rfl, by decide +kernel, rfl, by decide +kernel, by decide +kernel⟩
abbrev s_law_told : Stmt := top 17
theorem sc_law_told : FnScope ["_law_bits", "_law_kids", "_law_puzzle", "_law_told_here", "e"] ["_law_bits", "_law_kids"] (defScope s_law_told) := ⟨rfl, rfl, rfl, by decide +kernel, rfl, by decide +kernel, by decide +kernel⟩
abbrev s_law_chain : Stmt := top 18
theorem sc_law_chain : FnScope ["_law_many", "_law_puzzle", "_law_k"] ["_law_many"] (defScope s_law_chain) := ⟨rfl, rfl, rfl, by decide +kernel, rfl, by decide +kernel, by decide +kernel⟩
abbrev s_law_due : Stmt := top 19
theorem sc_law_due : FnScope ["_law_bits", "_law_kids", "_law_bad", "_law_size", "_law_deep", "_law_bit", "_law_child"] ["_law_bits", "_law_kids", "_law_bad"] (defScope s_law_due) := ⟨rfl, rfl, rfl, by decide +kernel, rfl, by decide +kernel, by decide +kernel⟩
abbrev s_law : Stmt := top 20
theorem sc_law : FnScope ["_law_script", "_law_pen", "_law_leaf", "_law_wide", "_law_turn", "_law_bits", "_law_kids", "_law_kind", "_law_bad", "_law_due_here", "_law_k"] ["_law_script"] (defScope s_law) := ⟨rfl, rfl, rfl, by decide +kernel, rfl, by decide +kernel, by decide +kernel⟩
abbrev FnP (K : PySem.W.Frag) (x qn : Str) (st : Stmt) (f : Addr) (fd : FuncData) : Prop := FunD K x qn (defArgs st) (defBody st) (defScope st) [] [] f fd
def globs : List Str := [("BadPuzzle" : Str), ("NoSuch" : Str), ("Puzzle" : Str), ("TooGreat" : Str), ("TryError" : Str), ("_law_chain" : Str), ("_law_draw" : Str), ("_law_due" : Str), ("_law_pick" : Str), ("_law_told" : Str), ("_wall" : Str), ("check_entries" : Str), ("is_bit" : Str), ("law" : Str), ("spelled" : Str), ("trimmed" : Str)]
def frees : List Str := ["range", "len", "int", "str", "list", "tuple", "isinstance", "all", "sum", "max", "min", "bool"]
def Cl (P : Program) (w : World) (K : PySem.W.Frag) (mg : Str → Option Value) (base : Heap) (CX : CXT) (k : Nat) (f : Addr) (ps : List Str) (sp : Sp) : Prop := ∃ fd, FnOk P w K mg base CX k f fd ps sp ∧ Binds K fd ps [] ∧ PySem.W.keepIn K (.ref f) = true
structure Txt (K : PySem.W.Frag) (w : World) (mg : Str → Option Value) : Prop where
  gl : ∀ x ∈ globs, mg x = some (.ref (ga K x))
  fr : ∀ x ∈ frees, mg x = none
  c_MOST_NODES : ∃ t, mg "MOST_NODES" = some (.int 500 t)
  c_GREATEST_DEPTH : ∃ t, mg "GREATEST_DEPTH" = some (.int 30 t)

def pF : List String := ["bits", "children", "size", "depth", "spelling"]
structure Tx (K : PySem.W.Frag) (w : World) (mg : Str → Option Value) : Prop extends Txt K w mg where
  cp : Cls K (ga K "Puzzle")
  np : ∀ x ∈ pF, NoAttr K (ga K "Puzzle") x
  mp : Mk K (ga K "Puzzle") (ma K (ga K "Puzzle") "__init__")
  ef : PySem.W.findIn K (.ref (ga K "Puzzle")) "__eq__" = some (some (.ref (ma K (ga K "Puzzle") "__eq__")))
  en : PySem.W.isFn K (.ref (ma K (ga K "Puzzle") "__eq__")) = true
  ia : PySem.W.findIn K (.ref (ga K "Puzzle")) "__class__" = some (some (.builtin "object.__class__"))
  ig : PySem.W.specialIn K (.builtin "object.__class__") "__get__" = some (some (.builtin "getset_descriptor.__get__"))
  it : PySem.W.takesIn K (.builtin "object.__class__") = some true
  im : PySem.W.mroIn K (ga K "Puzzle") (.type "object") = some true
  nf : ∀ t ∈ ["NoneType", "tuple", "str", "int", "list"], PySem.W.notFirst K (ga K "Puzzle") (.type t) = true
  ki : PySem.W.kitOne K (.ref (ga K "Puzzle")) (.ref (ga K "Puzzle")) = some true
  kn : ∀ t ∈ ["NoneType", "tuple", "str", "int", "list"], PySem.W.kitOne K (.type t) (.ref (ga K "Puzzle")) = some false
theorem Tx.ty {K : PySem.W.Frag} {w : World} {mg : Str → Option Value} (T : Tx K w mg) {H : Hp} {a dx : Addr} {fs : List (Str × V)} (h : H a = some (.ins (ga K "Puzzle") dx fs)) : TyX K H (.ref a) (.ref (ga K "Puzzle")) := .base (.ins h T.cp T.ia T.ig T.it T.im)
theorem Tx.tz {K : PySem.W.Frag} {w : World} {mg : Str → Option Value} (T : Tx K w mg) {H : Hp} {a : Addr} {d : PyData} (h : Pz K H a d) : TyX K H (.ref a) (.ref (ga K "Puzzle")) := by
  cases h with
  | mk e b h hb hc hk => exact T.ty h
theorem self_first {K : PySem.W.Frag} {C : Addr} : PySem.W.notFirst K C (.ref C) = true := by
  unfold PySem.W.notFirst
  simp

end K08
set_option Elab.async false
set_option linter.all false
set_option maxRecDepth 100000
set_option maxHeartbeats 8000000
namespace K08
open PySem PySem.Spec PyProof.Rows L2 He XH XV XR PEN TR XQ PZ Evl


def bitB (i : Int) : Bool := inV (V.int i) [V.int 0, V.int 1]
theorem bitB_ok {i : Int} (h : i = 0 ∨ i = 1) : bitB i = true := by
  rcases h with rfl | rfl <;> decide
def spBit : Sp := fun vs H Q _ => ∃ i : Int, vs = [.int i] ∧ ∀ H', Ex H H' → Q (.bl (bitB i)) H'
def spChk (K : PySem.W.Frag) : Sp := fun vs H Q _ => ∃ (ba ca : Addr) (bs : List Int) (ws : List V) (ks : List PyData), vs = [.ref ba, .ref ca] ∧ SqT K H ba (bs.map V.int) ∧ (∀ b ∈ bs, b = 0 ∨ b = 1) ∧ bs.length ≤ 1000 ∧ SqT K H ca ws ∧ PzL K H ws ks ∧ ks.length ≤ 1000 ∧ ∀ H', Ex H H' → Q .non H'
/-- == of a puzzle and a puzzle, or a thing of another kind -/
def spEq (K : PySem.W.Frag) : Sp := fun vs H Q _ => ∃ a y d, vs = [.ref a, y] ∧ Pz K H a d ∧ ((∃ b d', y = .ref b ∧ Pz K H b d' ∧ ∀ H', Ex H H' → Q (.bl (decide (V.str (spell d) = V.str (spell d')))) H') ∨ (∃ t, TyX K H y (.type t) ∧ PySem.W.kitOne K (.type t) (.ref (ga K "Puzzle")) = some false ∧ ∀ H', Ex H H' → Q (.bl false) H'))
/-- what x == y reads as, by value or by the own __eq__ -/
def eqR (K : PySem.W.Frag) : R2 := orR rEq (rOwn K (ga K "Puzzle") (spEq K))
def spTrim (K : PySem.W.Frag) : Sp := fun vs H Q _ => ∃ (a : Addr) (e : V) (xs : List V) (p : V → Bool), vs = [.ref a, e] ∧ SqT K H a xs ∧ xs.length ≤ 1000 ∧ (∀ x ∈ xs, RV (eqR K) x e H (.bl (p x))) ∧ ∀ r H', Ex H H' → SqT K H' r (xs.take (keepN p xs)) → Q (.ref r) H'
theorem isi_of {K : PySem.W.Frag} {H : Hp} {x c : V} {t u : Value} {b : Bool} (hc : ClsV c u) (hx : ∀ H1, Ex H H1 → TyX K H1 x t) (k : PySem.W.kitOne K t u = some b) : RC (rIsi K) [x, c] H (.bl b) := fun H1 e Q q => ⟨x, c, t, u, b, rfl, hc, hx H1 e, k, q H1 (Ex.refl _)⟩
theorem tyx_mono {K : PySem.W.Frag} {H H' : Hp} {x : V} {t : Value} (h : TyX K H x t) (e : Ex H H') : TyX K H' x t := by
  cases h with
  | base h =>
    cases h with
    | non => exact .base .non
    | bl x => exact .base (.bl x)
    | int x => exact .base (.int x)
    | str x => exact .base (.str x)
    | flt x => exact .base (.flt x)
    | lst h => exact .base (.lst (e _ _ h))
    | frz h => exact .base (.frz (e _ _ h))
    | tup h => exact .base (.tup (e _ _ h))
    | dK h => exact .base (.dK (e _ _ h))
    | dT h => exact .base (.dT (e _ _ h))
    | ins h c a n t m => exact .base (.ins (e _ _ h) c a n t m)
  | byt b => exact .byt b
  | set h => exact .set (e _ _ h)
  | kList h c => exact .kList h c
  | kTuple h c => exact .kTuple h c
  | kDict h c => exact .kDict h c
  | fTuple h => exact .fTuple (e _ _ h)
  | fDict h => exact .fDict (e _ _ h)
theorem rep_more (i : Nat) : (List.replicate (i + 1) true).map V.bl = (List.replicate i true).map V.bl ++ [V.bl true] := by
  rw [List.replicate_succ', List.map_append]
  rfl
theorem rep_all (n : Nat) : (List.replicate n true).all id = true := by
  rw [List.all_eq_true]
  intro x hx
  rw [(List.mem_replicate.mp hx).2]
  rfl

section
variable {P : Program} {w : World} {K : PySem.W.Frag} {mg : Str → Option Value} {base : Heap}

theorem ok_is_bit {fd : FuncData} (F : FnP K "is_bit" "is_bit" s_is_bit (ga K "is_bit") fd) (T : Tx K w mg) : FnOk P w K mg base CX0 (0 + 1) (ga K "is_bit") fd ["bit"] spBit := by
  refine FunD.ok F sc_is_bit (fun vs H Q E h => ?_) (fun cdv A outer s H vs Q E hr h => ?_)
  · obtain ⟨i, rfl, _⟩ := h
    rfl
  · obtain ⟨i, rfl, kk⟩ := h
    have n_isinstance := T.fr "isinstance" (by decide +kernel)
    have n_int := T.fr "int" (by decide +kernel)
    have n_bool := T.fr "bool" (by decide +kernel)
    refine ⟨_, PSs.nox (pss_one (ps_ret (pe_and (pe_callB call_isi (by rfl) n_isinstance (by decide +kernel) (pa_cons (pv 0) (pa_cons (pe_bltn (v := .ty "int") (by rfl) n_int (by decide +kernel) rfl) pa_nil))) (pe_and (pe_not (pe_callB call_isi (by rfl) n_isinstance (by decide +kernel) (pa_cons (pv 0) (pa_cons (pe_bltn (v := .ty "bool") (by rfl) n_bool (by decide +kernel) rfl) pa_nil)))) (pe_one (pe_cmpR op_in_seq (pv 0) (pe_tup (pa_cons pe_int (pa_cons pe_int pa_nil))) (by rfl))))))), ?_⟩
    refine s_ret (v := .bl (bitB i)) (ev_is (ev_andV (a := true) (b := true && bitB i) (ev_cb (ea_cons (ev_var rfl) (ea_cons ev_c ea_nil)) (isi_of (.ty _) (fun _ _ => .base (.int i)) (kit_ty (by decide +kernel)))) fun _ => ev_andV (a := true) (b := bitB i) (ev_is (ev_notV (a := false) (ev_cb (ea_cons (ev_var rfl) (ea_cons ev_c ea_nil)) (isi_of (.ty _) (fun _ _ => .base (.int i)) (kit_ty (by decide +kernel))))) rfl) fun _ => ev_inU (ev_var rfl) (eu_tup (ea_cons ev_c (ea_cons ev_c ea_nil)) (by decide)) rfl rfl) ?_) fun H1 e1 => kk H1 e1
    rfl

theorem ok_check_entries {fd : FuncData} (F : FnP K "check_entries" "check_entries" s_check_entries (ga K "check_entries") fd) (T : Tx K w mg) (c_is_bit : Cl P w K mg base CX0 1 (ga K "is_bit") ["bit"] spBit) : FnOk P w K mg base CX0 (1 + 1) (ga K "check_entries") fd ["bits", "children"] (spChk K) := by
  obtain ⟨fd_is_bit, G_is_bit, b_is_bit, kp_is_bit⟩ := c_is_bit
  refine FunD.ok F sc_check_entries (fun vs H Q E h => ?_) (fun cdv A outer s H vs Q E hr h => ?_)
  · obtain ⟨ba, ca, bs, ws, ks, rfl, _⟩ := h
    rfl
  · obtain ⟨ba, ca, bs, ws, ks, rfl, hb, h01, lb, hc, hk, lk, kk⟩ := h
    have n_all := T.fr "all" (by decide +kernel)
    have g_is_bit := T.gl "is_bit" (by decide +kernel)
    have n_isinstance := T.fr "isinstance" (by decide +kernel)
    have g_Puzzle := T.gl "Puzzle" (by decide +kernel)
    refine ⟨_, PSs.nox (pss_cons (ps_if (pt_not (pt_val (pe_callB (cr_all rfl) (by rfl) n_all (by decide +kernel) (pa_cons (pe_lc (own := [("bit", 2)]) (g := gName 2) (by rfl) sc_check_entries.nd (pi_tup (pv 0)) (blkOk_by (own := [("bit", 2)]) (N := ["bits", "children", "bit", "child"]) (sc := defScope s_check_entries) (by decide +kernel)) (fun _ _ _ _ _ => (pg_name (i := 2) sc_check_entries.nd rfl (Or.inl rfl))) (fun _ _ _ _ _ => pts_nil) (fun _ _ _ _ _ => (pe_call G_is_bit (hr.mono (by decide)) (by rfl) g_is_bit kp_is_bit b_is_bit .nil pass0 (pa_cons (pv 2) pa_nil)))) pa_nil))))
      (pss_one ps_never)
      pss_nil)
      (pss_one (ps_if (pt_not (pt_val (pe_callB (cr_all rfl) (by rfl) n_all (by decide +kernel) (pa_cons (pe_lc (own := [("child", 3)]) (g := gName 3) (by rfl) sc_check_entries.nd (pi_tup (pv 1)) (blkOk_by (own := [("child", 3)]) (N := ["bits", "children", "bit", "child"]) (sc := defScope s_check_entries) (by decide +kernel)) (fun _ _ _ _ _ => (pg_name (i := 3) sc_check_entries.nd rfl (Or.inl rfl))) (fun _ _ _ _ _ => pts_nil) (fun _ _ _ _ _ => (pe_or (pe_cmpR op_isN (pv 3) pe_non (nomark _)) (pe_one (pe_callB (call_isi : CallR _ _ (rIsi K)) (by rfl) n_isinstance (by decide +kernel) (pa_cons (pv 3) (pa_cons (pe_glob (v := .ref _) (by rfl) g_Puzzle rfl) pa_nil))))))) pa_nil))))
      (pss_one ps_never)
      pss_nil))), ?_⟩
    have lw := hk.len
    refine q_when (b := false) (fun H1 e Q q => ?_) (fun hb => nomatch hb) (fun _ H1 e1 => ?_)
    · refine ⟨.ref ba, rfl, ba, rfl, ⟨_, ex_t e hb⟩, fun D hD => ?_⟩
      refine lc_tup (xs := bs.map V.int) (fun i H' => Ex H1 H' ∧ H' D = some (.lst ((List.replicate i true).map V.bl))) ⟨Ex.new hD, upd_same⟩ (fun i H' _ hI => ex_t (e.trans hI.1) hb) (fun i x H' hx hI => ?_) (fun H' hI => ?_)
      · obtain ⟨k1, k2⟩ := hI
        rw [List.getElem?_map] at hx
        cases q1 : bs[i]? with
        | none =>
          rw [q1] at hx
          cases hx
        | some b =>
          rw [q1] at hx
          cases hx
          have hi := (List.getElem?_eq_some_iff.mp q1).1
          refine ⟨rfl, yes_go ⟨.int b, rfl, b, rfl, fun H3 e3 => ⟨_, e3 _ _ k2, ?_, (k1.trans e3).mut hD, ?_⟩⟩⟩
          · rw [List.length_map, List.length_replicate]
            exact small1000 (by omega)
          · rw [upd_same, rep_more, bitB_ok (h01 b (List.mem_of_getElem? q1))]
      · obtain ⟨k1, k2⟩ := hI
        refine ⟨D, _, rfl, sq_of k2, _, rfl, ?_⟩
        rw [rep_all]
        exact q H' k1
    refine s_when (b := false) (fun H2 e Q q => ?_) (fun hb => nomatch hb) (fun _ H2 e2 => kk H2 (e1.trans e2))
    have e2 := e1.trans e
    refine ⟨.ref ca, rfl, ca, rfl, ⟨_, ex_t e2 hc⟩, fun D hD => ?_⟩
    refine lc_tup (xs := ws) (fun i H' => Ex H2 H' ∧ H' D = some (.lst ((List.replicate i true).map V.bl))) ⟨Ex.new hD, upd_same⟩ (fun i H' _ hI => ex_t (e2.trans hI.1) hc) (fun i x H' hx hI => ?_) (fun H' hI => ?_)
    · obtain ⟨k1, k2⟩ := hI
      have hi := (List.getElem?_eq_some_iff.mp hx).1
      obtain ⟨d, hd, cas⟩ := (hk.kp (Kp.of (e2.trans k1))).at hx
      refine ⟨rfl, yes_go ?_⟩
      have fin : ∀ H3, Ex H' H3 → ∃ acc, H3 D = some (.lst acc) ∧ acc.length < sizeLine ∧ Ex H2 (upd H3 D (.lst (acc ++ [V.bl true]))) ∧ upd H3 D (.lst (acc ++ [V.bl true])) D = some (.lst ((List.replicate (i + 1) true).map V.bl)) := fun H3 e3 => by
        refine ⟨_, e3 _ _ k2, ?_, (k1.trans e3).mut hD, ?_⟩
        · rw [List.length_map, List.length_replicate]
          exact small1000 (by omega)
        · rw [upd_same, rep_more]
      rcases cas with ⟨rfl, rfl⟩ | ⟨c, rfl, hp⟩
      · refine (ev_is (ev_orV (a := true) (b := true) (ev_op (ev_var rfl) ev_c (fun H5 e5 Q5 q5 => ⟨rfl, q5 H5 (Ex.refl _)⟩)) (fun z => nomatch z)) rfl) H' (Ex.refl _) _ fun H3 e3 => fin H3 e3
      · refine (ev_is (ev_orV (a := false) (b := true) (ev_op (ev_var rfl) ev_c (fun H5 e5 Q5 q5 => ⟨rfl, q5 H5 (Ex.refl _)⟩)) (fun _ => ev_cb (ea_cons (ev_var rfl) (ea_cons ev_c ea_nil)) (isi_of (.own _) (fun H5 e5 => tyx_mono (T.tz hp) e5) T.ki))) rfl) H' (Ex.refl _) _ fun H3 e3 => fin H3 e3
    · obtain ⟨k1, k2⟩ := hI
      refine ⟨D, _, rfl, sq_of k2, _, rfl, ?_⟩
      rw [rep_all]
      exact q H' k1

theorem ok_Puzzle___eq__ {fd : FuncData} {f : Addr} (F : FnP K "__eq__" "Puzzle.__eq__" s_Puzzle___eq__ f fd) (T : Tx K w mg) : FnOk P w K mg base CX0 (0 + 1) f fd ["self", "other"] (spEq K) := by
  refine FunD.ok F sc_Puzzle___eq__ (fun vs H Q E h => ?_) (fun cdv A outer s H vs Q E hr h => ?_)
  · obtain ⟨a, y, d, rfl, _⟩ := h
    rfl
  · obtain ⟨a, y, d, rfl, ha, cas⟩ := h
    have n_isinstance := T.fr "isinstance" (by decide +kernel)
    have g_Puzzle := T.gl "Puzzle" (by decide +kernel)
    refine ⟨_, PSs.nox (pss_one (ps_ret (pe_and (pe_callB call_isi (by rfl) n_isinstance (by decide +kernel) (pa_cons (pv 1) (pa_cons (pe_glob (v := .ref _) (by rfl) g_Puzzle rfl) pa_nil))) (pe_one (pe_cmpR op_eq (pe_fld (pv 0) rfl) (pe_fld (pv 1) rfl) (nomark _)))))), ?_⟩
    have ha0 := ha
    cases ha0 with
    | mk e b h hb hc hk =>
      rcases cas with ⟨b', d', rfl, hb', kk⟩ | ⟨t, ty, k, kk⟩
      · have hb0 := hb'
        cases hb0 with
        | mk e' b2 h' hb2 hc' hk' =>
          refine s_ret (ev_is (ev_andV (a := true) (b := decide (V.str (spell d) = V.str (spell d'))) (ev_cb (ea_cons (ev_var rfl) (ea_cons ev_c ea_nil)) (isi_of (.own _) (fun H5 e5 => tyx_mono (T.tz hb') e5) T.ki)) fun _ => ev_op (ev_fld (ev_var rfl) h T.cp (T.np "spelling" (by decide +kernel)) rfl) (ev_fld (ev_var rfl) h' T.cp (T.np "spelling" (by decide +kernel)) rfl) (rv_eq rfl)) rfl) fun H1 e1 => kk H1 e1
      · refine s_ret (ev_is (ev_andV (a := false) (b := true) (ev_cb (ea_cons (ev_var rfl) (ea_cons ev_c ea_nil)) (isi_of (.own _) (fun H5 e5 => tyx_mono ty e5) k)) (fun z => nomatch z)) rfl) fun H1 e1 => kk H1 e1

end
end K08
set_option Elab.async false
set_option linter.all false
set_option maxRecDepth 100000
set_option maxHeartbeats 8000000
namespace K08
open PySem PySem.Spec PyProof.Rows L2 He XH XV XR PEN TR XQ PZ Evl


theorem ev_ixT {K : PySem.W.Frag} {ta tb : TE} {σ : L2.St} {H : Hp} {p : Addr} {xs : List V} {i : Int} {v : V} (ha : Ev ta σ H (.ref p)) (hb : Ev tb σ H (.int i)) (h : SqT K H p xs) (hi : atI xs i = some v) : Ev (tOp (rIxT K) ta tb) σ H v := ev_op ha hb (rv_ixT h hi)
theorem RV.mono' {r : R2} {x y z : V} {H H' : Hp} (e : Ex H H') (h : RV r x y H z) : RV r x y H' z := fun H1 a Q q => h H1 (e.trans a) Q q
def spSpell (K : PySem.W.Frag) : Sp := fun vs H Q _ => ∃ (ba ca : Addr) (bs : List Int) (ws : List V) (ks : List PyData), vs = [.ref ba, .ref ca] ∧ SqT K H ba (bs.map V.int) ∧ (∀ b ∈ bs, b = 0 ∨ b = 1) ∧ bs.length ≤ 60 ∧ SqT K H ca ws ∧ PzL K H ws ks ∧ ks.length ≤ 600 ∧ sizeL ks ≤ 500 ∧ ∀ H', Ex H H' → Q (.str (spell (nd bs ks))) H'
theorem cut_take' (xs : List V) (i : Nat) : cutV xs none (some (i : Int)) = xs.take i := cut_take xs i
def szL (n : Nat) (h : n ≤ 1000000) : n ≤ sizeLine := by
  rw [sizeLine_eq]
  omega

section
variable {P : Program} {w : World} {K : PySem.W.Frag} {mg : Str → Option Value} {base : Heap}

theorem ok_trimmed {fd : FuncData} (F : FnP K "trimmed" "trimmed" s_trimmed (ga K "trimmed") fd) (T : Tx K w mg) (c_eq : Cl P w K mg base CX0 1 (ma K (ga K "Puzzle") "__eq__") ["self", "other"] (spEq K)) : FnOk P w K mg base CX0 (1 + 1) (ga K "trimmed") fd ["entries", "empty"] (spTrim K) := by
  obtain ⟨fd_eq, G_eq, b_eq, kp_eq⟩ := c_eq
  refine FunD.ok F sc_trimmed (fun vs H Q E h => ?_) (fun cdv A outer s H vs Q E hr h => ?_)
  · obtain ⟨a, e, xs, p, rfl, _⟩ := h
    rfl
  · obtain ⟨a, e, xs, p, rfl, ha, lx, heq, kk⟩ := h
    have n_len := T.fr "len" (by decide +kernel)
    refine ⟨_, PSs.nox (pss_cons (ps_set (i := 2) sc_trimmed.nd rfl (Or.inl rfl) (pe_callB call_len_seq (by rfl) n_len (by decide +kernel) (pa_cons (pv 0) pa_nil)))
      (pss_cons (ps_while PassesOwn.never (PW.pt (pw_and (pt_cmpR op_gt (pv 2) pe_int (nomark _)) (pw_and1 (pt_cmpR (op_or2 op_eq (op_own G_eq T.ef T.en b_eq (hr.mono (by decide)))) (pe_ix ix_tup (pv 0) (pe_op op_sub (pv 2) pe_int) (fun _ _ => rfl)) (pv 1) (nomark _)))))
      (pss_one (ps_aug (i := 2) sc_trimmed.nd rfl (Or.inl rfl) pe_int ip_sub)))
      (pss_one (ps_ret (pe_slice sl_tupA (pv 0) po_none (po_some (pv 2))))))), ?_⟩
    refine q_asg (v := .int (xs.length : Nat)) (ev_cb (ea_cons (ev_var rfl) ea_nil) fun H1 e1 Q1 q1 => ⟨a, xs, rfl, .inr (ex_t e1 ha), q1 H1 (Ex.refl _)⟩) fun H1 e1 => ?_
    dsimp only [gName, List.set]
    refine q_while (fun m σ' H' => ∃ many : Nat, m = many ∧ σ' = [some (.ref a), some e, some (.int (many : Nat))] ∧ Ex H H' ∧ many ≤ xs.length ∧ keepN p (xs.take many) = keepN p xs) xs.length ⟨xs.length, rfl, rfl, e1, Nat.le_refl _, by rw [List.take_length]⟩ (fun m σ' H' hW => ?_)
    obtain ⟨many, rfl, rfl, e2, lm, hk⟩ := hW
    have fin : keepN p (xs.take m) = m → ∀ H1, Ex H' H1 → tRet (tSl (rSlA K) (tVar 0) tNoPart (tPart (tVar 2))) { nx := fun _ H' => Q .non H', rt := Q } [some (.ref a), some e, some (.int (m : Nat))] H1 := fun hm H3 e3 => by
      have e23 := e2.trans e3
      have cc : cutV xs none (some (m : Int)) = xs.take (keepN p xs) := by rw [cut_take', ← hk, hm]
      refine ⟨.ref a, rfl, .int (m : Nat), rfl, (m : Nat), rfl, a, xs, rfl, ex_t e23 ha, fun hw => ?_, fun hw r hr => ?_⟩
      · have w2 := hw.2
        rw [HT.sIx_nat, Nat.min_eq_left lm] at w2
        refine kk a H3 e23 ?_
        have : xs.take (keepN p xs) = xs := by rw [← hk, hm, w2, List.take_length]
        rw [this]
        exact ex_t e23 ha
      · refine kk r _ (e23.trans (Ex.new hr)) ?_
        rw [cc]
        exact st_of upd_same
    cases m with
    | zero =>
      refine ⟨false, et_is (et_and (a := false) (b := false) (et_test (ev_op (ev_var rfl) ev_c rv_I0)) (fun z => nomatch z)) rfl, (fun z => nomatch z), fun _ H3 e3 => fin rfl H3 e3⟩
    | succ i =>
      have hi : i < xs.length := by omega
      have hx : xs[i]? = some xs[i] := List.getElem?_eq_getElem hi
      have hp := keepN_take (p := p) hx
      refine ⟨p xs[i], et_is (et_and (a := decide ((0 : Int) < ((i + 1 : Nat) : Int))) (b := p xs[i]) (et_test (ev_op (ev_var rfl) ev_c rv_I0)) (fun _ => et_test (ev_op (ev_ixT (i := ((i : Nat) : Int)) (ev_var rfl) (ev_is (ev_op (ev_var rfl) ev_c rv_I0) (by congr 1; omega)) (ex_t e2 ha) (atI_nat hx)) (ev_var rfl) (RV.mono' e2 (heq _ (List.getElem_mem hi)))))) ?_, fun hb H3 e3 => ?_, fun hb H3 e3 => ?_⟩
      · rw [decide_eq_true (show (0 : Int) < ((i + 1 : Nat) : Int) by omega)]
        rfl
      · refine ⟨fun σ2 H2 => σ2 = [some (.ref a), some e, some (.int ((i : Nat) : Int))] ∧ Ex H H2, fun σ2 H2 hN => ?_, s_aug (a := ((i + 1 : Nat) : Int)) (b := 1) rfl ev_c fun H4 e4 => ⟨?_, (e2.trans e3).trans e4⟩⟩
        · obtain ⟨rfl, e5⟩ := hN
          exact ⟨i, Nat.lt_succ_self _, i, rfl, rfl, e5, by omega, keepN_drop hx hb hk⟩
        · dsimp only [List.set]
          rw [show (((i + 1 : Nat) : Int) - 1) = ((i : Nat) : Int) by omega]
      · refine fin ?_ H3 e3
        rw [hp, hb]
        rfl

end
end K08
set_option Elab.async false
set_option linter.all false
set_option maxRecDepth 100000
set_option maxHeartbeats 8000000
namespace K08
open PySem PySem.Spec PyProof.Rows L2 He XH XV XR PEN TR XQ PZ Evl


def spInit (K : PySem.W.Frag) : Sp := fun vs H Q _ => ∃ (a ba ca dx : Addr) (bs : List Int) (ws : List V) (ks : List PyData), vs = [.ref a, .ref ba, .ref ca] ∧ H a = some (.ins (ga K "Puzzle") dx []) ∧ (SqL K H ba (bs.map V.int) ∨ SqT K H ba (bs.map V.int)) ∧ (∀ b ∈ bs, b = 0 ∨ b = 1) ∧ bs.length ≤ 60 ∧
  (SqL K H ca ws ∨ SqT K H ca ws) ∧ PzL K H ws ks ∧ ks.length ≤ 600 ∧ (sizeL ks < 500 ∧ deepL ks < 30) ∧ ∀ H', Xa a H H' → Pz K H' a (nd (short isZ bs) (short isN ks)) → Q .non H'

section
variable {P : Program} {w : World} {K : PySem.W.Frag} {mg : Str → Option Value} {base : Heap}

theorem ok_spelled {fd : FuncData} (F : FnP K "spelled" "spelled" s_spelled (ga K "spelled") fd) (T : Tx K w mg) : FnOk P w K mg base CX0 (0 + 1) (ga K "spelled") fd ["bits", "children"] (spSpell K) := by
  refine FunD.ok F sc_spelled (fun vs H Q E h => ?_) (fun cdv A outer s H vs Q E hr h => ?_)
  · obtain ⟨ba, ca, bs, ws, ks, rfl, _⟩ := h
    rfl
  · obtain ⟨ba, ca, bs, ws, ks, rfl, hb, h01, lb, hc, hk, lk, ls, kk⟩ := h
    have n_str := T.fr "str" (by decide +kernel)
    refine ⟨_, PSs.nox (pss_cons (ps_set (i := 2) sc_spelled.nd rfl (Or.inl rfl) (pe_orT (pe_join pe_str (pe_lc (own := [("bit", 4)]) (g := gName 4) (by rfl) sc_spelled.nd (pi_tup (pv 0)) (blkOk_by (own := [("bit", 4)]) (N := ["bits", "children", "digits", "inner", "bit", "child"]) (sc := defScope s_spelled) (by decide +kernel)) (fun _ _ _ _ _ => (pg_name (i := 4) sc_spelled.nd rfl (Or.inl rfl))) (fun _ _ _ _ _ => pts_nil) (fun _ _ _ _ _ => (pe_callTy call_str_int (by rfl) n_str (by decide +kernel) (pa_cons (pv 4) pa_nil))))) (pe_one pe_str)))
      (pss_cons (ps_if (pt_not (pt_truth (pv 1) (fun _ => rfl)))
      (pss_one (ps_ret (pv 2)))
      pss_nil)
      (pss_cons (ps_set (i := 3) sc_spelled.nd rfl (Or.inl rfl) (pe_join pe_str (pe_lc (own := [("child", 5)]) (g := gName 5) (by rfl) sc_spelled.nd (pi_tup (pv 1)) (blkOk_by (own := [("child", 5)]) (N := ["bits", "children", "digits", "inner", "bit", "child"]) (sc := defScope s_spelled) (by decide +kernel)) (fun _ _ _ _ _ => (pg_name (i := 5) sc_spelled.nd rfl (Or.inl rfl))) (fun _ _ _ _ _ => pts_nil) (fun _ _ _ _ _ => (pe_ifExp (pt_cmpR op_isN (pv 5) pe_non (nomark _)) pe_str (pe_fldc (K := K) rfl (pv 5) rfl))))))
      (pss_one (ps_ret (pe_joined (PJ.cons (pe_fmt (pv 2)) (PJ.cons pe_str (PJ.cons (pe_fmt (pv 3)) (PJ.cons pe_str PJ.nil)))))))))), ?_⟩
    have lw := hk.len
    obtain ⟨p1, p2, p3, p4⟩ := s1
    have ld := digS_len h01
    refine q_asg (v := .str (digS bs)) (fun H1 e Q1 q1 => ?_) fun H1 e1 => ?_
    · refine ⟨⟨_, rfl⟩, .ref ba, rfl, ba, rfl, ⟨_, ex_t e hb⟩, fun D hD => ?_⟩
      refine lc_tup (xs := bs.map V.int) (fun i H' => Ex H1 H' ∧ H' D = some (.lst (((bs.take i).map istr).map V.str))) ⟨Ex.new hD, upd_same⟩ (fun i H' _ hI => ex_t (e.trans hI.1) hb) (fun i x H' hx hI => ?_) (fun H' hI => ?_)
      · obtain ⟨k1, k2⟩ := hI
        rw [List.getElem?_map] at hx
        cases q2 : bs[i]? with
        | none =>
          rw [q2] at hx
          cases hx
        | some b =>
          rw [q2] at hx
          cases hx
          have hi := (List.getElem?_eq_some_iff.mp q2).1
          have hz : b.natAbs.log2 < 1920 := by
            rcases h01 b (List.mem_of_getElem? q2) with rfl | rfl <;> decide
          refine ⟨rfl, yes_go ⟨.int b, rfl, b, rfl, hz, _, k2, ?_, k1.mut hD, ?_⟩⟩
          · rw [List.length_map, List.length_map, List.length_take]
            exact small1000 (by omega)
          · rw [upd_same, take_more q2, List.map_append, List.map_append]
            rfl
      · obtain ⟨k1, k2⟩ := hI
        rw [List.length_map, List.take_length] at k2
        have bsum := bits_sum h01
        have z0 : ("" : Str).length = 0 := by decide +kernel
        have jl := join_len ("" : Str) (bs.map istr)
        rw [bsum, z0] at jl
        refine ⟨("" : Str), D, bs.map istr, rfl, rfl, .inl (sq_of k2), by rw [bsum, z0]; omega, ((Txt.join ("" : Str) (bs.map istr)).length : Int) != 0, ⟨fits (by omega), rfl⟩, ?_⟩
        have go : ∀ z, z = digS bs → Q1 (.str z) H' := fun z ez => by
          rw [ez]
          exact q1 H' k1
        refine ite2 (fun hk => go _ ?_) (fun hk => go _ ?_)
        · unfold digS
          rw [if_neg (by simpa using hk)]
        · unfold digS
          rw [if_pos (by simpa using hk)]
    dsimp only [gName, List.set]
    refine q_when (b := !(!ws.isEmpty)) (et_not fun H2 e Q2 q2 => ev_var rfl H2 e _ fun H3 e3 => ⟨!ws.isEmpty, (show TruV K (.ref ca) H3 (!ws.isEmpty) from Or.inr (Or.inl ⟨ws, ex_t (e1.trans (e.trans e3)) hc, rfl⟩)), q2 H3 e3⟩) (fun hb H2 e2 => ?_) (fun hb H2 e2 => ?_)
    · have e0 : ks = [] := by
        cases hk with
        | nil => rfl
        | non r => cases hb
        | one h r => cases hb
      have k := kk H2 (e1.trans e2)
      rw [spell_nd, if_pos e0] at k
      exact ⟨.str (digS bs), rfl, k⟩
    have ne : ks ≠ [] := by
      intro e
      rw [e] at hk
      cases hk
      cases hb
    have e12 := e1.trans e2
    have lsp := spellL_len (Nat.le_refl 60) (Nat.le_refl 600) hk.bd
    have lsl : (spellL ks).length = ks.length := by rw [spellL_map, List.length_map]
    have jl := join_len ("," : Str) (spellL ks)
    rw [p3, lsl] at jl
    refine q_asg (v := .str (Txt.join ("," : Str) (spellL ks))) (fun H3 e Q3 q3 => ?_) fun H3 e3 => ?_
    · have e13 := e12.trans e
      refine ⟨⟨_, rfl⟩, .ref ca, rfl, ca, rfl, ⟨_, ex_t e13 hc⟩, fun D hD => ?_⟩
      refine lc_tup (xs := ws) (fun i H' => Ex H3 H' ∧ H' D = some (.lst (((spellL ks).take i).map V.str))) ⟨Ex.new hD, upd_same⟩ (fun i H' _ hI => ex_t (e13.trans hI.1) hc) (fun i x H' hx hI => ?_) (fun H' hI => ?_)
      · obtain ⟨k1, k2⟩ := hI
        have hi := (List.getElem?_eq_some_iff.mp hx).1
        obtain ⟨d, hd, cas⟩ := (hk.kp (Kp.of (e13.trans k1))).at hx
        refine ⟨rfl, yes_go ?_⟩
        have fin : ∀ H4, Ex H' H4 → ∃ acc, H4 D = some (.lst acc) ∧ acc.length < sizeLine ∧ Ex H3 (upd H4 D (.lst (acc ++ [V.str (spell d)]))) ∧ upd H4 D (.lst (acc ++ [V.str (spell d)])) D = some (.lst (((spellL ks).take (i + 1)).map V.str)) := fun H4 e4 => by
          refine ⟨_, e4 _ _ k2, ?_, (k1.trans e4).mut hD, ?_⟩
          · rw [List.length_map, List.length_take]
            exact small1000 (by omega)
          · rw [upd_same, take_more (spellL_at hd), List.map_append]
            rfl
        rcases cas with ⟨rfl, rfl⟩ | ⟨c, rfl, hp⟩
        · exact (ev_is (ev_if (b := true) (et_test (ev_op (ev_var rfl) ev_c (fun H5 e5 Q5 q5 => ⟨rfl, q5 H5 (Ex.refl _)⟩))) (fun _ => ev_c) (fun z => nomatch z)) (by rw [spell_non])) H' (Ex.refl _) _ fun H4 e4 => fin H4 e4
        · have hp0 := hp
          cases hp0 with
          | mk e' b h' hb2 hc' hk' =>
            exact (ev_if (b := false) (et_test (ev_op (ev_var rfl) ev_c (fun H5 e5 Q5 q5 => ⟨rfl, q5 H5 (Ex.refl _)⟩))) (fun z => nomatch z) (fun _ => ev_fld (ev_var rfl) h' T.cp (T.np "spelling" (by decide +kernel)) rfl)) H' (Ex.refl _) _ fun H4 e4 => fin H4 e4
      · obtain ⟨k1, k2⟩ := hI
        rw [take_all (show (spellL ks).length ≤ ws.length by omega)] at k2
        exact ⟨("," : Str), D, spellL ks, rfl, rfl, .inl (sq_of k2), by rw [p3, lsl]; omega, q3 H' k1⟩
    have l1 := app_len (digS bs) ("(" : Str)
    have l2 := app_len (digS bs ++ ("(" : Str)) (Txt.join ("," : Str) (spellL ks))
    have l3 := app_len (digS bs ++ ("(" : Str) ++ Txt.join ("," : Str) (spellL ks)) (")" : Str)
    refine ⟨.str (digS bs), rfl, .inl ⟨digS bs, rfl, fits (by omega), digS bs, rfl, by rw [empty_app]; exact fits (by omega), ("(" : Str), rfl, by rw [empty_app, l1]; exact fits (by omega), .str (Txt.join ("," : Str) (spellL ks)), rfl, .inl ⟨Txt.join ("," : Str) (spellL ks), rfl, szL _ (by omega), Txt.join ("," : Str) (spellL ks), rfl, by rw [empty_app, l2]; exact szL _ (by omega), (")" : Str), rfl, by rw [empty_app, l3]; exact szL _ (by omega), ?_⟩⟩⟩
    rw [empty_app]
    have k := kk H3 (e12.trans e3)
    rw [spell_nd, if_neg ne] at k
    exact k

end
end K08
set_option Elab.async false
set_option linter.all false
set_option maxRecDepth 100000
set_option maxHeartbeats 8000000
namespace K08
open PySem PySem.Spec PyProof.Rows L2 He XH XV XR PEN TR XQ PZ Evl

section
variable {P : Program} {w : World} {K : PySem.W.Frag} {mg : Str → Option Value} {base : Heap}

theorem ok_Puzzle_init {fd : FuncData} {f : Addr} {dvs : List V} (F : FunD K "__init__" "Puzzle.__init__" (defArgs s_Puzzle_init) (defBody s_Puzzle_init) (defScope s_Puzzle_init) dvs [] f fd) (T : Tx K w mg) (c_check_entries : Cl P w K mg base CX0 2 (ga K "check_entries") ["bits", "children"] (spChk K)) (c_trimmed : Cl P w K mg base CX0 2 (ga K "trimmed") ["entries", "empty"] (spTrim K)) (c_spelled : Cl P w K mg base CX0 1 (ga K "spelled") ["bits", "children"] (spSpell K)) : FnOk P w K mg base CX0 (2 + 1) f fd ["self", "bits", "children"] (spInit K) := by
  obtain ⟨fd_check_entries, G_check_entries, b_check_entries, kp_check_entries⟩ := c_check_entries
  obtain ⟨fd_trimmed, G_trimmed, b_trimmed, kp_trimmed⟩ := c_trimmed
  obtain ⟨fd_spelled, G_spelled, b_spelled, kp_spelled⟩ := c_spelled
  refine FunD.ok F sc_Puzzle_init (fun vs H Q E h => ?_) (fun cdv A outer s H vs Q E hr h => ?_)
  · obtain ⟨a, ba, ca, dx, bs, ws, ks, rfl, _⟩ := h
    rfl
  · obtain ⟨a, ba, ca, dx, bs, ws, ks, rfl, ha, hb, h01, lb, hc, hk, lk, ⟨zs, zd⟩, kk⟩ := h
    have n_tuple := T.fr "tuple" (by decide +kernel)
    have g_check_entries := T.gl "check_entries" (by decide +kernel)
    have g_trimmed := T.gl "trimmed" (by decide +kernel)
    have n_sum := T.fr "sum" (by decide +kernel)
    have n_max := T.fr "max" (by decide +kernel)
    obtain ⟨tk_MOST_NODES, g_MOST_NODES⟩ := T.c_MOST_NODES
    obtain ⟨tk_GREATEST_DEPTH, g_GREATEST_DEPTH⟩ := T.c_GREATEST_DEPTH
    have g_spelled := T.gl "spelled" (by decide +kernel)
    refine ⟨_, PSs.nox (pss_cons (ps_set (i := 3) sc_Puzzle_init.nd rfl (Or.inl rfl) (pe_callTy call_tuple_of (by rfl) n_tuple (by decide +kernel) (pa_cons (pv 1) pa_nil)))
      (pss_cons (ps_set (i := 4) sc_Puzzle_init.nd rfl (Or.inl rfl) (pe_callTy call_tuple_of (by rfl) n_tuple (by decide +kernel) (pa_cons (pv 2) pa_nil)))
      (pss_cons (ps_expr (pe_call G_check_entries (hr.mono (by decide)) (by rfl) g_check_entries kp_check_entries b_check_entries .nil pass0 (pa_cons (pv 3) (pa_cons (pv 4) pa_nil))))
      (pss_cons (ps_fld (pv 0) (pe_call G_trimmed (hr.mono (by decide)) (by rfl) g_trimmed kp_trimmed b_trimmed .nil pass0 (pa_cons (pv 3) (pa_cons pe_int pa_nil))) rfl)
      (pss_cons (ps_fld (pv 0) (pe_call G_trimmed (hr.mono (by decide)) (by rfl) g_trimmed kp_trimmed b_trimmed .nil pass0 (pa_cons (pv 4) (pa_cons pe_non pa_nil))) rfl)
      (pss_cons (ps_setLc (i := 5) (own := [("child", 6)]) (g := gName 6) (by rfl) sc_Puzzle_init.nd rfl rfl (sw_true rfl rfl rfl (by decide +kernel)) (pi_tup (pe_fldc (K := K) rfl (pv 0) rfl)) (blkOk_by (own := [("child", 6)]) (N := ["self", "bits", "children", "all_bits", "all_children", "nodes", "child", "node"]) (sc := defScope s_Puzzle_init) (by decide +kernel)) (fun _ _ _ _ _ => (pg_name (i := 6) sc_Puzzle_init.nd rfl (Or.inl rfl))) (fun _ _ _ _ _ => (pts_one (pt_cmpR op_notN (pv 6) pe_non (nomark _)))) (fun _ _ _ _ _ => (pv 6)))
      (pss_cons (ps_fld (pv 0) (pe_op op_add pe_int (pe_callB (cr_sum rfl) (by rfl) n_sum (by decide +kernel) (pa_cons (pe_lc (own := [("node", 7)]) (g := gName 7) (by rfl) sc_Puzzle_init.nd (pi_list (pv 5)) (blkOk_by (own := [("node", 7)]) (N := ["self", "bits", "children", "all_bits", "all_children", "nodes", "child", "node"]) (sc := defScope s_Puzzle_init) (by decide +kernel)) (fun _ _ _ _ _ => (pg_name (i := 7) sc_Puzzle_init.nd rfl (Or.inl rfl))) (fun _ _ _ _ _ => pts_nil) (fun _ _ _ _ _ => (pe_fldc (K := K) rfl (pv 7) rfl))) pa_nil))) rfl)
      (pss_cons (ps_fld (pv 0) (pe_op op_add pe_int (pe_callBK (cr_maxDef rfl (units65 hr)) (by rfl) n_max (by decide +kernel) (pa_cons (pe_lc (own := [("node", 7)]) (g := gName 7) (by rfl) sc_Puzzle_init.nd (pi_list (pv 5)) (blkOk_by (own := [("node", 7)]) (N := ["self", "bits", "children", "all_bits", "all_children", "nodes", "child", "node"]) (sc := defScope s_Puzzle_init) (by decide +kernel)) (fun _ _ _ _ _ => (pg_name (i := 7) sc_Puzzle_init.nd rfl (Or.inl rfl))) (fun _ _ _ _ _ => pts_nil) (fun _ _ _ _ _ => (pe_fldc (K := K) rfl (pv 7) rfl))) pa_nil) (pk_cons pe_int pk_nil))) rfl)
      (pss_cons (ps_if (PW.pt (pw_or (pt_cmpR op_gt (pe_fldc (K := K) rfl (pv 0) rfl) (pe_glob (v := .int _) (by rfl) g_MOST_NODES ⟨_, rfl⟩) (nomark _)) (pw_or1 (pt_cmpR op_gt (pe_fldc (K := K) rfl (pv 0) rfl) (pe_glob (v := .int _) (by rfl) g_GREATEST_DEPTH ⟨_, rfl⟩) (nomark _)))))
      (pss_one ps_never)
      pss_nil)
      (pss_one (ps_fld (pv 0) (pe_call G_spelled (hr.mono (by decide)) (by rfl) g_spelled kp_spelled b_spelled .nil pass0 (pa_cons (pe_fldc (K := K) rfl (pv 0) rfl) (pa_cons (pe_fldc (K := K) rfl (pv 0) rfl) pa_nil))) rfl))))))))))), ?_⟩
    have lw := hk.len
    refine q_tup (K := K) (ev_var rfl) hb fun r3 H1 e1 g3 => ?_
    try dsimp only [gName, List.set]
    refine q_tup (K := K) (ev_var rfl) (hc.imp (ex_l e1) (ex_t e1)) fun r4 H2 e2 g4 => ?_
    try dsimp only [gName, List.set]
    have e12 := e1.trans e2
    refine ⟨.ref r3, rfl, .ref r4, rfl, r3, r4, bs, ws, ks, rfl, ex_t e2 g3, h01, by omega, g4, hk.kp (Kp.of e12), by omega, fun H3 e3 => ?_⟩
    have e13 := e12.trans e3
    -- the bits
    refine ⟨.ref r3, rfl, r3, .int 0, bs.map V.int, (fun v => decide (v = .int 0)), rfl, ex_t (e2.trans e3) g3, by rw [List.length_map]; omega, fun x hx => ?_, fun r5 H4 e4 g5 => ?_⟩
    · obtain ⟨b, _, rfl⟩ := List.mem_map.mp hx
      exact fun H5 e5 Q5 q5 => .inl ⟨rfl, q5 H5 (Ex.refl _)⟩
    rw [keep_bits, ← List.map_take] at g5
    have e14 := e13.trans e4
    refine ⟨.ref a, rfl, a, _, dx, [], rfl, e14 _ _ ha, T.cp, T.np "bits" (by decide +kernel), by decide, ?_⟩
    have a5 : upd H4 a (.ins (ga K "Puzzle") dx (putF "bits" (.ref r5) [])) a = some (.ins (ga K "Puzzle") dx [("bits", .ref r5)]) := upd_same
    generalize hH5 : upd H4 a (.ins (ga K "Puzzle") dx (putF "bits" (.ref r5) [])) = H5 at a5
    have x45 : Xa a H4 H5 := by rw [← hH5]; exact Xa.upd
    have x5 : Xa a H H5 := (Xa.of e14).trans x45
    have k5 := Kp.xa ha x5
    have k45 := Kp.xa (e14 _ _ ha) x45
    have p5 := hk.kp k5
    have g4' := k45.t (ex_t (e3.trans e4) g4)
    have g5' := k45.t g5
    -- the children
    refine ⟨.ref r4, rfl, r4, .non, ws, (fun v => decide (v = .non)), rfl, g4', by omega, fun x hx => ?_, fun r6 H6 e6 g6 => ?_⟩
    · obtain ⟨i, hi⟩ := List.mem_iff_getElem?.mp hx
      obtain ⟨d, hd, cas⟩ := p5.at hi
      rcases cas with ⟨rfl, rfl⟩ | ⟨c, rfl, hp⟩
      · exact fun H7 e7 Q7 q7 => .inl ⟨rfl, q7 H7 (Ex.refl _)⟩
      · intro H7 e7 Q7 q7
        have hp7 := hp.kp (Kp.of e7)
        have hp8 := hp7
        cases hp7 with
        | mk e' b h' hb' hc' hk' => exact .inr ⟨c, _, _, .type "NoneType", rfl, h', .base .non, T.nf "NoneType" (by simp), c, .non, d, rfl, hp8, .inr ⟨"NoneType", .base .non, T.kn "NoneType" (by simp), fun H9 e9 => ⟨⟨_, rfl⟩, q7 H9 e9⟩⟩⟩
    rw [keep_kids p5] at g6
    refine ⟨.ref a, rfl, a, _, dx, _, rfl, e6 _ _ a5, T.cp, T.np "children" (by decide +kernel), (show 1 < 1000 by decide), ?_⟩
    rw [putF_tail (by decide +kernel)]
    have a7 : upd H6 a (.ins (ga K "Puzzle") dx (("bits", .ref r5) :: putF "children" (.ref r6) [])) a = some (.ins (ga K "Puzzle") dx [("bits", .ref r5), ("children", .ref r6)]) := upd_same
    generalize hH7 : upd H6 a (.ins (ga K "Puzzle") dx (("bits", .ref r5) :: putF "children" (.ref r6) [])) = H7 at a7
    have x67 : Xa a H6 H7 := by rw [← hH7]; exact Xa.upd
    have x7 : Xa a H H7 := (x5.trans (Xa.of e6)).trans x67
    have tupx : ∀ {HA HB : Hp} {fs : List (Str × V)}, HA a = some (.ins (ga K "Puzzle") dx fs) → Xa a HA HB → ∀ {c : Addr} {xs : List V}, SqT K HA c xs → SqT K HB c xs := by
      intro HA HB fs hA hX c xs h
      rcases h with (h | ⟨o, h⟩) | h
      · exact .inl (.inl (hX c _ (fun e => by rw [e, hA] at h; cases h) h))
      · exact .inl (.inr ⟨o, hX c _ (fun e => by rw [e, hA] at h; cases h) h⟩)
      · exact .inr h
    have g5'' := tupx (e6 _ _ a5) x67 (ex_t e6 g5')
    have g6'' := tupx (e6 _ _ a5) x67 g6
    have k7 := Kp.xa ha x7
    have p7 : PzL K H7 (ws.take (keepN isN ks)) (ks.take (keepN isN ks)) := (hk.kp k7).take _
    have lks : (ks.take (keepN isN ks)).length ≤ 600 := by rw [List.length_take]; omega
    have szk := sizeL_take ks (keepN isN ks)
    have dpk := deepL_take ks (keepN isN ks)
    have lw7 := p7.len
    have pn := p7.nodes
    have lwn := pn.len
    have lwn2 : ((ws.take (keepN isN ks)).filter fun v => !decide (v = .non)).length ≤ 600 := Nat.le_trans (List.length_filter_le ..) (by omega)
    have nn : ∀ k ∈ (ks.take (keepN isN ks)).filter (fun k => !isN k), isN k = false := fun k hk => by simpa using (List.mem_filter.mp hk).2
    have snd := size_nodes (ks.take (keepN isN ks))
    have dnd := deep_nodes (ks.take (keepN isN ks))
    -- the nodes
    refine ⟨.ref a, rfl, a, _, dx, _, .ref r6, rfl, a7, T.cp, T.np "children" (by decide +kernel), rfl, r6, rfl, ⟨_, g6''⟩, fun N hN => ?_⟩
    refine lc_tup (xs := ws.take (keepN isN ks)) (fun i H' => Ex H7 H' ∧ H' N = some (.lst (((ws.take (keepN isN ks)).take i).filter fun v => !decide (v = .non)))) ⟨Ex.new hN, upd_same⟩ (fun i H' _ hI => ex_t hI.1 g6'') (fun i x H' hx hI => ?_) (fun H8 hI => ?_)
    · obtain ⟨k1, k2⟩ := hI
      have hi := (List.getElem?_eq_some_iff.mp hx).1
      refine ⟨rfl, go_test (b := !decide (x = .non)) (et_test (ev_op (ev_var rfl) ev_c (fun H9 e9 Q9 q9 => ⟨rfl, q9 H9 (Ex.refl _)⟩))) fun H9 e9 => ?_⟩
      rw [take_more hx, List.filter_append]
      refine ite2 (fun hq => ?_) (fun hq => ?_)
      · refine ⟨x, rfl, _, e9 _ _ k2, ?_, (k1.trans e9).mut hN, ?_⟩
        · have l1 := List.length_filter_le (fun v : V => !decide (v = .non)) ((ws.take (keepN isN ks)).take i)
          rw [List.length_take] at l1
          exact small1000 (by omega)
        · rw [upd_same, List.filter_cons, if_pos hq]
          rfl
      · refine ⟨k1.trans e9, ?_⟩
        rw [List.filter_cons, if_neg hq]
        show _ = some (HO.lst (_ ++ []))
        rw [List.append_nil]
        exact e9 _ _ k2
    obtain ⟨e8, h8⟩ := hI
    rw [List.take_length] at h8
    try dsimp only [gName, List.set]
    generalize hWN : (ws.take (keepN isN ks)).filter (fun v => !decide (v = .non)) = wn at *
    generalize hKN : (ks.take (keepN isN ks)).filter (fun k => !isN k) = kn at *
    have pn8 := pn.kp (Kp.of e8)
    -- size
    refine ⟨.ref N, rfl, N, rfl, ⟨_, sq_of h8⟩, fun D hD => ?_⟩
    refine lc_list (xs := wn) (fun i H' => Ex H8 H' ∧ H' D = some (.lst ((((kn.take i).map size).map fun n : Nat => (n : Int)).map V.int))) ⟨Ex.new hD, upd_same⟩ (fun i H' _ hI => sq_of (hI.1 _ _ h8)) (fun i x H' hx hI => ?_) (fun H9 hI => ?_)
    · obtain ⟨k1, k2⟩ := hI
      have hi := (List.getElem?_eq_some_iff.mp hx).1
      obtain ⟨c, k, rfl, hkn, hp⟩ := (pn8.kp (Kp.of k1)).ref nn hx
      cases hp with
      | mk e' b h' hb' hc' hk' =>
        refine ⟨rfl, yes_go ⟨.ref c, rfl, c, _, _, _, _, rfl, h', T.cp, T.np "size" (by decide +kernel), rfl, _, k2, ?_, k1.mut hD, ?_⟩⟩
        · rw [List.length_map, List.length_map, List.length_map, List.length_take]
          exact small1000 (by omega)
        · rw [upd_same, take_more hkn, List.map_append, List.map_append, List.map_append]
          rfl
    obtain ⟨e9, h9⟩ := hI
    rw [take_all (show kn.length ≤ wn.length by omega)] at h9
    refine ⟨D, _, rfl, sq_of h9, 1, _, rfl, rfl, .ref a, rfl, a, _, dx, _, rfl, e9 _ _ (e8 _ _ a7), T.cp, T.np "size" (by decide +kernel), (show 2 < 1000 by decide), ?_⟩
    have sumE : (1 : Int) + (((kn.map size).map fun n : Nat => (n : Int))).sum = (size (nd (short isZ bs) (short isN ks)) : Nat) := by
      have z : ∀ l : List Nat, (l.map fun n : Nat => (n : Int)).sum = ((l.sum : Nat) : Int) := fun l => by
        induction l with
        | nil => rfl
        | cons n r ih =>
          rw [List.map_cons, List.sum_cons, ih, List.sum_cons]
          omega
      rw [z, snd, size_nd]
      show _ = ((1 + sizeL (ks.take (keepN isN ks)) : Nat) : Int)
      omega
    dsimp only
    rw [putF_tail (by decide +kernel), putF_tail (by decide +kernel), sumE]
    have a10 : upd H9 a (.ins (ga K "Puzzle") dx (("bits", .ref r5) :: ("children", .ref r6) :: putF "size" (.int (size (nd (short isZ bs) (short isN ks)) : Nat)) [])) a = some (.ins (ga K "Puzzle") dx [("bits", .ref r5), ("children", .ref r6), ("size", .int (size (nd (short isZ bs) (short isN ks)) : Nat))]) := upd_same
    generalize hH10 : upd H9 a (.ins (ga K "Puzzle") dx (("bits", .ref r5) :: ("children", .ref r6) :: putF "size" (.int (size (nd (short isZ bs) (short isN ks)) : Nat)) [])) = H10 at a10
    have x910 : Xa a H9 H10 := by rw [← hH10]; exact Xa.upd
    have x10 : Xa a H H10 := (x7.trans (Xa.of (e8.trans e9))).trans x910
    have h8' := x910 N _ (fun e => by rw [e] at h8; rw [e8 _ _ a7] at h8; cases h8) (e9 _ _ h8)
    have pn10 : PzL K H10 wn kn := by
      have := (hk.kp (Kp.xa ha x10)).take (keepN isN ks)
      rw [← hWN, ← hKN]
      exact this.nodes
    -- depth
    refine ⟨.ref N, rfl, N, rfl, ⟨_, sq_of h8'⟩, fun D2 hD2 => ?_⟩
    refine lc_list (xs := wn) (fun i H' => Ex H10 H' ∧ H' D2 = some (.lst ((((kn.take i).map deep).map fun n : Nat => (n : Int)).map V.int))) ⟨Ex.new hD2, upd_same⟩ (fun i H' _ hI => sq_of (hI.1 _ _ h8')) (fun i x H' hx hI => ?_) (fun H11 hI => ?_)
    · obtain ⟨k1, k2⟩ := hI
      have hi := (List.getElem?_eq_some_iff.mp hx).1
      obtain ⟨c, k, rfl, hkn, hp⟩ := (pn10.kp (Kp.of k1)).ref nn hx
      cases hp with
      | mk e' b h' hb' hc' hk' =>
        refine ⟨rfl, yes_go ⟨.ref c, rfl, c, _, _, _, _, rfl, h', T.cp, T.np "depth" (by decide +kernel), rfl, _, k2, ?_, k1.mut hD2, ?_⟩⟩
        · rw [List.length_map, List.length_map, List.length_map, List.length_take]
          exact small1000 (by omega)
        · rw [upd_same, take_more hkn, List.map_append, List.map_append, List.map_append]
          rfl
    obtain ⟨e11, h11⟩ := hI
    rw [take_all (show kn.length ≤ wn.length by omega)] at h11
    refine ⟨D2, _, 0, rfl, rfl, sq_of h11, 1, _, rfl, rfl, .ref a, rfl, a, _, dx, _, rfl, e11 _ _ a10, T.cp, T.np "depth" (by decide +kernel), (show 3 < 1000 by decide), ?_⟩
    have depE : (1 : Int) + mxD 0 ((kn.map deep).map fun n : Nat => (n : Int)) = (deep (nd (short isZ bs) (short isN ks)) : Nat) := by
      rw [dnd, deep_nd]
      show _ = ((1 + deepL (ks.take (keepN isN ks)) : Nat) : Int)
      omega
    dsimp only
    rw [putF_tail (by decide +kernel), putF_tail (by decide +kernel), putF_tail (by decide +kernel), depE]
    have a12 : upd H11 a (.ins (ga K "Puzzle") dx (("bits", .ref r5) :: ("children", .ref r6) :: ("size", .int (size (nd (short isZ bs) (short isN ks)) : Nat)) :: putF "depth" (.int (deep (nd (short isZ bs) (short isN ks)) : Nat)) [])) a = some (.ins (ga K "Puzzle") dx [("bits", .ref r5), ("children", .ref r6), ("size", .int (size (nd (short isZ bs) (short isN ks)) : Nat)), ("depth", .int (deep (nd (short isZ bs) (short isN ks)) : Nat))]) := upd_same
    generalize hH12 : upd H11 a (.ins (ga K "Puzzle") dx (("bits", .ref r5) :: ("children", .ref r6) :: ("size", .int (size (nd (short isZ bs) (short isN ks)) : Nat)) :: putF "depth" (.int (deep (nd (short isZ bs) (short isN ks)) : Nat)) [])) = H12 at a12
    have x1112 : Xa a H11 H12 := by rw [← hH12]; exact Xa.upd
    have x12 : Xa a H H12 := (x10.trans (Xa.of e11)).trans x1112
    have g5a := tupx (e11 _ _ a10) x1112 (ex_t e11 (tupx (e9 _ _ (e8 _ _ a7)) x910 (ex_t (e8.trans e9) g5'')))
    have g6a := tupx (e11 _ _ a10) x1112 (ex_t e11 (tupx (e9 _ _ (e8 _ _ a7)) x910 (ex_t (e8.trans e9) g6'')))
    have p12 : PzL K H12 (ws.take (keepN isN ks)) (ks.take (keepN isN ks)) := (hk.kp (Kp.xa ha x12)).take _
    -- not too great
    have sn : size (nd (short isZ bs) (short isN ks)) = 1 + sizeL (ks.take (keepN isN ks)) := size_nd _ _
    have dn : deep (nd (short isZ bs) (short isN ks)) = 1 + deepL (ks.take (keepN isN ks)) := deep_nd _ _
    refine q_when (b := false) (et_is (et_or (a := false) (b := false) (et_is (a := decide ((500 : Int) < (size (nd (short isZ bs) (short isN ks)) : Nat))) (et_test (ev_op (ev_fld (ev_var rfl) a12 T.cp (T.np "size" (by decide +kernel)) rfl) ev_c rv_I0)) (decide_eq_false (by omega))) (fun _ => et_is (a := decide ((30 : Int) < (deep (nd (short isZ bs) (short isN ks)) : Nat))) (et_test (ev_op (ev_fld (ev_var rfl) a12 T.cp (T.np "depth" (by decide +kernel)) rfl) ev_c rv_I0)) (decide_eq_false (by omega)))) rfl) (fun hb => nomatch hb) (fun _ H13 e13b => ?_)
    -- the spelling
    have a13 := e13b _ _ a12
    have sb : ∀ b ∈ short isZ bs, b = 0 ∨ b = 1 := fun b hb => h01 b (List.mem_of_mem_take hb)
    have lsb : (short isZ bs).length ≤ 60 := by
      unfold short
      rw [List.length_take]
      omega
    refine ⟨.ref a, rfl, a, _, dx, _, .ref r5, rfl, a13, T.cp, T.np "bits" (by decide +kernel), rfl, .ref a, rfl, a, _, dx, _, .ref r6, rfl, a13, T.cp, T.np "children" (by decide +kernel), rfl, r5, r6, short isZ bs, ws.take (keepN isN ks), short isN ks, rfl, ex_t e13b g5a, sb, lsb, ex_t e13b g6a, p12.kp (Kp.of e13b), lks, (by show sizeL (ks.take (keepN isN ks)) ≤ 500; omega), fun H14 e14b => ?_⟩
    refine ⟨.ref a, rfl, a, _, dx, _, rfl, e14b _ _ a13, T.cp, T.np "spelling" (by decide +kernel), (show 4 < 1000 by decide), ?_⟩
    rw [putF_tail (by decide +kernel), putF_tail (by decide +kernel), putF_tail (by decide +kernel), putF_tail (by decide +kernel)]
    have x1415 : Xa a H14 (upd H14 a (.ins (ga K "Puzzle") dx (("bits", .ref r5) :: ("children", .ref r6) :: ("size", .int (size (nd (short isZ bs) (short isN ks)) : Nat)) :: ("depth", .int (deep (nd (short isZ bs) (short isN ks)) : Nat)) :: putF "spelling" (.str (spell (nd (short isZ bs) (short isN ks)))) []))) := Xa.upd
    have x15 := (x12.trans (Xa.of (e13b.trans e14b))).trans x1415
    have bdk : Bd 60 600 (nd (short isZ bs) (short isN ks)) := .mk rfl lsb sb lks (hk.bd.take _)
    exact kk _ x15 (.mk rfl bdk upd_same (tupx (e14b _ _ a13) x1415 (ex_t (e13b.trans e14b) g5a)) (tupx (e14b _ _ a13) x1415 (ex_t (e13b.trans e14b) g6a)) ((hk.kp (Kp.xa ha x15)).take _))

end
end K08
set_option Elab.async false
set_option linter.all false
set_option maxRecDepth 100000
set_option maxHeartbeats 8000000
namespace K08
open PySem PySem.Spec PyProof.Rows L2 He XH XV XR PEN TR XQ PZ Evl


def Tn : Nat → Nat
  | 0 => 10
  | n + 1 => 10 + 3 * (2 + Tn n)
def spTree (K : PySem.W.Frag) (n : Nat) : Sp := fun vs H Q _ => ∃ (p l : Addr) (room b : Nat), vs = [.ref p, .int (room : Nat), .int (n : Nat)] ∧ (1 ≤ room ∧ room ≤ 100) ∧ Pen p l (b + Tn n) H ∧ ∀ v d H', Px p l H H' → Pen p l b H' → Dp K H' v d → Bd 6 3 d → size d ≤ room → deep d ≤ n + 1 → Q v H'
def spSize (K : PySem.W.Frag) (n : Nat) : Sp := fun vs H Q _ => ∃ (v : V) (d : PyData) (B C : Nat), vs = [v] ∧ Dp K H v d ∧ Bd B C d ∧ C ≤ 600 ∧ deep d ≤ n ∧ ∀ H', Ex H H' → Q (.int (size d : Nat)) H'
theorem dpAll_none {K : PySem.W.Frag} {H : Hp} {v : V} {d : PyData} (h : Dp K H v d) (B C : Nat) (hd : d = .none ∨ Bd B C d) : decide (v = .non) = isN d := by
  rcases hd with rfl | hb
  · cases h
    rfl
  · rw [hb.notN]
    obtain ⟨bs, ks, rfl, _⟩ := hb.un
    obtain ⟨t, tb, tk, vs, rfl, _⟩ := dp_nd h
    exact decide_eq_false fun e => nomatch e
theorem int_sum : ∀ l : List Nat, (l.map fun n : Nat => (n : Int)).sum = ((l.sum : Nat) : Int)
  | [] => rfl
  | n :: r => by
    rw [List.map_cons, List.sum_cons, int_sum r, List.sum_cons]
    omega
theorem filt_more {α : Type} {l : List α} {i : Nat} {x : α} (f : α → Bool) (h : l[i]? = some x) : (l.take (i + 1)).filter f = (l.take i).filter f ++ (if f x = true then [x] else []) := by
  rw [take_more h, List.filter_append]
  cases q : f x <;> simp [q]


theorem rep_flat {α : Type} (x : α) (n : Nat) : (List.replicate n [x]).flatten = List.replicate n x := by
  induction n with
  | zero => rfl
  | succ n ih => rw [List.replicate_succ, List.flatten_cons, ih, List.replicate_succ]; rfl
theorem rv_own {K : PySem.W.Frag} {w : World} {mg : Str → Option Value} (T : Tx K w mg) {H : Hp} {a b : Addr} {d d' : PyData} (ha : Pz K H a d) (hb : Pz K H b d') : RV (rOwn K (ga K "Puzzle") (spEq K)) (.ref a) (.ref b) H (.bl (decide (V.str (spell d) = V.str (spell d')))) := fun H1 e Q q => by
  have ha1 := ha.kp (Kp.of e)
  have hb1 := hb.kp (Kp.of e)
  have ha2 := ha1
  cases ha2 with
  | mk e' b' h' hb' hc' hk' => exact ⟨a, _, _, .ref (ga K "Puzzle"), rfl, h', T.tz hb1, self_first, a, .ref b, d, rfl, ha1, .inl ⟨b, d', rfl, hb1, fun H2 e2 => ⟨⟨_, rfl⟩, q H2 e2⟩⟩⟩
theorem rv_ownO {K : PySem.W.Frag} {w : World} {mg : Str → Option Value} (T : Tx K w mg) {H : Hp} {a : Addr} {d : PyData} {y : V} {t : String} (ha : Pz K H a d) (hy : ∀ H1, Ex H H1 → TyX K H1 y (.type t)) (ht : t ∈ ["NoneType", "tuple", "str", "int", "list"]) : RV (rOwn K (ga K "Puzzle") (spEq K)) (.ref a) y H (.bl false) := fun H1 e Q q => by
  have ha1 := ha.kp (Kp.of e)
  have ha2 := ha1
  cases ha2 with
  | mk e' b' h' hb' hc' hk' => exact ⟨a, _, _, .type t, rfl, h', hy H1 e, T.nf t ht, a, y, d, rfl, ha1, .inr ⟨t, hy H1 e, T.kn t ht, fun H2 e2 => ⟨⟨_, rfl⟩, q H2 e2⟩⟩⟩
/-- Puzzle(..) of these -/
theorem make_go {K : PySem.W.Frag} {H : Hp} {ba ca : Addr} {bs : List Int} {ws : List V} {ks : List PyData} {R : Addr → Hp → Prop} (hb : SqL K H ba (bs.map V.int) ∨ SqT K H ba (bs.map V.int)) (h01 : ∀ b ∈ bs, b = 0 ∨ b = 1) (lb : bs.length ≤ 60) (hc : SqL K H ca ws ∨ SqT K H ca ws) (hk : PzL K H ws ks) (lk : ks.length ≤ 600) (hz : sizeL ks < 500 ∧ deepL ks < 30)
    (k : ∀ a H', H a = none → Ex H H' → Pz K H' a (nd (short isZ bs) (short isN ks)) → R a H') : ∀ x dx, H x = none → H dx = none → dx ≠ x → spInit K [.ref x, .ref ba, .ref ca] (upd (upd H dx (.own x)) x (.ins (ga K "Puzzle") dx [])) (fun v H2 => v = .non ∧ R x H2) E0 := fun x dx hx hdx hne => by
  have hx2 : upd H dx (.own x) x = none := (upd_ne (Ne.symm hne)).trans hx
  have e3 : Ex H (upd (upd H dx (.own x)) x (.ins (ga K "Puzzle") dx [])) := (Ex.new hdx).trans (Ex.new hx2)
  exact ⟨x, ba, ca, dx, bs, ws, ks, rfl, upd_same, hb.imp (ex_l e3) (ex_t e3), h01, lb, hc.imp (ex_l e3) (ex_t e3), hk.kp (Kp.of e3), lk, hz, fun H5 x5 p5 => ⟨rfl, k x H5 hx (Xa.new e3 hx x5) p5⟩⟩
theorem PzL.rep {K : PySem.W.Frag} {H : Hp} (n : Nat) : PzL K H (List.replicate n .non) (List.replicate n .none) := by
  induction n with
  | zero => exact .nil
  | succ n ih => exact .non ih
theorem sizeL_rep (n : Nat) : sizeL (List.replicate n PyData.none) = 0 := by
  induction n with
  | zero => simp [sizeL]
  | succ n ih => simp [List.replicate_succ, sizeL, ih, size_non]
theorem deepL_rep (n : Nat) : deepL (List.replicate n PyData.none) = 0 := by
  induction n with
  | zero => simp [deepL]
  | succ n ih => simp [List.replicate_succ, deepL, ih, deep_non]
/-- a puzzle made on the way -/
def EvP (K : PySem.W.Frag) (te : TE) (σ : L2.St) (H : Hp) (d : PyData) : Prop := ∀ H1, Ex H H1 → ∀ Q : VK, (∀ a H2, Ex H1 H2 → Pz K H2 a d → Q (.ref a) H2) → te σ H1 Q
section
variable {K : PySem.W.Frag} {w : World} {mg : Str → Option Value} {σ : L2.St} {H : Hp} {ta tb tl tm : TE} {d d' e : PyData}
theorem ev_ownPP (T : Tx K w mg) (h1 : EvP K ta σ H d) (h2 : EvP K tb σ H d') : Ev (tOp (rOwn K (ga K "Puzzle") (spEq K)) ta tb) σ H (.bl (decide (V.str (spell d) = V.str (spell d')))) := fun H1 a Q q =>
  h1 H1 a _ fun x H2 e2 p2 => h2 H2 (a.trans e2) _ fun y H3 e3 p3 => rv_own T (p2.kp (Kp.of e3)) p3 H3 (Ex.refl _) Q fun H4 e4 => q H4 ((e2.trans e3).trans e4)
theorem ev_callPD {sp : Sp} {r : V} (h1 : EvP K ta σ H d) (h2 : EvD K tb σ H e) (hs : ∀ a v H1, Ex H H1 → Pz K H1 a d → Dp K H1 v e → ∀ Q : VK, (∀ H2, Ex H1 H2 → Q r H2) → sp [.ref a, v] H1 Q E0) : Ev (tCall sp [] E0 (tCons ta (tCons tb tNil))) σ H r := fun H1 a Q q =>
  h1 H1 a _ fun x H2 e2 p2 => h2 H2 (a.trans e2) _ fun v H3 e3 d3 => hs x v H3 ((a.trans e2).trans e3) (p2.kp (Kp.of e3)) d3 Q fun H4 e4 => q H4 ((e2.trans e3).trans e4)
theorem evp_make {bs : List Int} {ws : List V} {ks : List PyData} (h1 : EvL tl σ H (bs.map V.int)) (h2 : EvL tm σ H ws) (h01 : ∀ b ∈ bs, b = 0 ∨ b = 1) (lb : bs.length ≤ 60) (hk : ∀ H1, Ex H H1 → PzL K H1 ws ks) (lk : ks.length ≤ 600) (hz : sizeL ks < 500 ∧ deepL ks < 30) : EvP K (tMake (ga K "Puzzle") (spInit K) [] E0 (tCons tl (tCons tm tNil))) σ H (nd (short isZ bs) (short isN ks)) := fun H1 a Q q =>
  h1 H1 a _ fun x H2 _ e2 g2 => h2 H2 (a.trans e2) _ fun y H3 _ e3 g3 => make_go (K := K) (.inl (sq_of (e3 _ _ g2))) h01 lb (.inl (sq_of g3)) (hk H3 ((a.trans e2).trans e3)) lk hz fun z H4 _ e4 p4 => q z H4 ((e2.trans e3).trans e4) p4
end
def spLaw (K : PySem.W.Frag) : Sp := fun vs H Q _ => ∃ (a : Addr) (ns : List Int), vs = [.ref a] ∧ SqL K H a (ns.map V.int) ∧ ns.length ≤ 63 ∧ ∀ H', Q (.bl true) H'


open XO
structure T08 (K : PySem.W.Frag) (w : World) (mg : Str → Option Value) : Prop extends Tx K w mg where
  tg : Bare K (ga K "TooGreat")
  ty : PySem.W.typeIn K (.ref (ga K "TooGreat")) = some (.type "type")
  bp : Bare K (ga K "BadPuzzle")
  by' : PySem.W.typeIn K (.ref (ga K "BadPuzzle")) = some (.type "type")
  m1 : PySem.W.exmOne K (.ref (ga K "BadPuzzle")) (.ref (ga K "BadPuzzle")) = some true
  m2 : PySem.W.exmOne K (.ref (ga K "TooGreat")) (.ref (ga K "BadPuzzle")) = some false
  m3 : PySem.W.exmOne K (.ref (ga K "TooGreat")) (.ref (ga K "TooGreat")) = some true
  i1 : PySem.W.kitOne K (.ref (ga K "BadPuzzle")) (.ref (ga K "TryError")) = some true
  i2 : PySem.W.kitOne K (.ref (ga K "BadPuzzle")) (.ref (ga K "TooGreat")) = some false
  i3 : PySem.W.kitOne K (.ref (ga K "TooGreat")) (.ref (ga K "TryError")) = some true
  i4 : PySem.W.kitOne K (.ref (ga K "TooGreat")) (.ref (ga K "BadPuzzle")) = some false
def kidB : V → Bool
  | .str _ => false
  | _ => true
def Kid (K : PySem.W.Frag) (H : Hp) (x : V) : Prop := x = .non ∨ (∃ c d, x = .ref c ∧ Pz K H c d) ∨ ∃ z, x = .str z
theorem Kid.kp {K : PySem.W.Frag} {H H' : Hp} {x : V} (e : Kp H H') (h : Kid K H x) : Kid K H' x := by
  rcases h with h | ⟨c, d, h1, h2⟩ | h
  · exact .inl h
  · exact .inr (.inl ⟨c, d, h1, h2.kp e⟩)
  · exact .inr (.inr h)
theorem kids_pz {K : PySem.W.Frag} {H : Hp} : ∀ {ws : List V}, (∀ x ∈ ws, Kid K H x) → ws.all kidB = true → ∃ ks, PzL K H ws ks
  | [], _, _ => ⟨[], .nil⟩
  | x :: r, h, ha => by
    rw [List.all_cons, Bool.and_eq_true] at ha
    obtain ⟨ks, hk⟩ := kids_pz (ws := r) (fun y hy => h y (List.mem_cons_of_mem _ hy)) ha.2
    rcases h x List.mem_cons_self with e | ⟨c, d, e, hp⟩ | ⟨z, e⟩
    · rw [e]
      exact ⟨_, .non hk⟩
    · rw [e]
      exact ⟨_, .one hp hk⟩
    · rw [e] at ha
      cases ha.1
theorem bitB_iff (i : Int) : bitB i = true ↔ i = 0 ∨ i = 1 := by
  constructor
  · intro h
    by_cases h0 : i = 0
    · exact .inl h0
    · by_cases h1 : i = 1
      · exact .inr h1
      · simp [bitB, inV, eqV] at h
        omega
  · exact bitB_ok
theorem bits_all {bs : List Int} (h : bs.all bitB = true) : ∀ b ∈ bs, b = 0 ∨ b = 1 := fun b hb => (bitB_iff b).mp (List.all_eq_true.mp h b hb)
def spChkX (K : PySem.W.Frag) : Sp := fun vs H Q E => ∃ (ba ca : Addr) (bs : List Int) (ws : List V), vs = [.ref ba, .ref ca] ∧ SqT K H ba (bs.map V.int) ∧ bs.length ≤ 1000 ∧ SqT K H ca ws ∧ ws.length ≤ 1000 ∧ (∀ x ∈ ws, Kid K H x) ∧
  ((bs.all bitB && ws.all kidB) = true → ∀ H', Ex H H' → Q .non H') ∧ ((bs.all bitB && ws.all kidB) = false → ∀ H', Ex H H' → E (.ref (ga K "BadPuzzle")) none H')
def spInitX (K : PySem.W.Frag) : Sp := fun vs H Q E => ∃ (a ba ca dx : Addr) (bs : List Int) (ws : List V), vs = [.ref a, .ref ba, .ref ca] ∧ H a = some (.ins (ga K "Puzzle") dx []) ∧ (SqL K H ba (bs.map V.int) ∨ SqT K H ba (bs.map V.int)) ∧ bs.length ≤ 60 ∧ (SqL K H ca ws ∨ SqT K H ca ws) ∧ ws.length ≤ 600 ∧ (∀ x ∈ ws, Kid K H x) ∧
  ((bs.all bitB && ws.all kidB) = false → ∀ H', Xa a H H' → E (.ref (ga K "BadPuzzle")) none H') ∧
  (∀ ks, (bs.all bitB && ws.all kidB) = true → PzL K H ws ks → ((500 < 1 + sizeL (short isN ks) ∨ 30 < 1 + deepL (short isN ks)) → ∀ H', Xa a H H' → E (.ref (ga K "TooGreat")) none H') ∧ (¬ (500 < 1 + sizeL (short isN ks) ∨ 30 < 1 + deepL (short isN ks)) → ∀ H', Xa a H H' → Pz K H' a (nd (short isZ bs) (short isN ks)) → Q .non H'))
theorem rep_app {α : Type} (f : α → Bool) {l : List α} {i : Nat} {x : α} (h : l[i]? = some x) : ((l.take (i + 1)).map f).map V.bl = ((l.take i).map f).map V.bl ++ [V.bl (f x)] := by
  rw [take_more h, List.map_append, List.map_append]
  rfl
theorem take_more' {α : Type} {l : List α} {i : Nat} {x : α} (h : l[i]? = some x) : l.take (i + 1) = l.take i ++ [x] := take_more h

section
variable {P : Program} {w : World} {K : PySem.W.Frag} {mg : Str → Option Value} {base : Heap}

theorem ok_law_draw {fd : FuncData} (F : FnP K "_law_draw" "_law_draw" s_law_draw (ga K "_law_draw") fd) (T : Txt K w mg) : FnOk P w K mg base CX0 (0 + 1) (ga K "_law_draw") fd ["_law_pen", "_law_many"] spDraw := by
  refine FunD.ok F sc_law_draw (fun vs H Q E h => ?_) (fun cdv A outer s H vs Q E hr h => ?_)
  · obtain ⟨p, l, m, b, rfl, _⟩ := h
    rfl
  · obtain ⟨p, l, m, b, rfl, ⟨m0, m1⟩, hP, kk⟩ := h
    have n_int := T.fr "int" (by decide +kernel)
    have n_len := T.fr "len" (by decide +kernel)
    refine ⟨_, PSs.nox (pss_cons (ps_set (i := 2) sc_law_draw.nd rfl (Or.inl rfl) (pe_ix ix_list (pv 0) pe_int (fun _ _ => rfl)))
      (pss_cons (ps_asg (pe_op op_add (pv 2) pe_int) (pg_sub (pv 0) pe_int set_list))
      (pss_cons (ps_set (i := 3) sc_law_draw.nd rfl (Or.inl rfl) (pe_op op_mod (pe_callTy call_int1 (by rfl) n_int (by decide +kernel) (pa_cons (pv 2) pa_nil)) (pe_callB call_len_seq (by rfl) n_len (by decide +kernel) (pa_cons (pe_ix ix_list (pv 0) pe_int (fun _ _ => rfl)) pa_nil))))
      (pss_cons (ps_set (i := 4) sc_law_draw.nd rfl (Or.inl rfl) (pe_callTy call_int1 (by rfl) n_int (by decide +kernel) (pa_cons (pe_ix ix_list (pe_ix ix_list (pv 0) pe_int (fun _ _ => rfl)) (pv 3) (fun _ _ => rfl)) pa_nil)))
      (pss_cons (ps_if (pt_cmpR op_ge (pv 4) (pe_op op_pow pe_int pe_int) (nomark _))
      (pss_cons (ps_asg (pe_op op_fdiv (pv 4) (pv 1)) (pg_sub (pe_ix ix_list (pv 0) pe_int (fun _ _ => rfl)) (pv 3) set_list))
      (pss_one (ps_ret (pe_op op_mod (pe_callTy call_int1 (by rfl) n_int (by decide +kernel) (pa_cons (pv 4) pa_nil)) (pv 1)))))
      pss_nil)
      (pss_cons (ps_set (i := 5) sc_law_draw.nd rfl (Or.inl rfl) (pe_op op_pow (pe_callTy call_int1 (by rfl) n_int (by decide +kernel) (pa_cons (pe_op op_add (pe_op op_add (pe_op op_mul (pe_op op_mod (pe_callTy call_int1 (by rfl) n_int (by decide +kernel) (pa_cons (pv 4) pa_nil)) pe_int) pe_int) (pe_op op_mul (pv 2) pe_int)) pe_int) pa_nil)) pe_int))
      (pss_one (ps_ret (pe_op op_mod (pe_op op_fdiv (pe_callTy call_int1 (by rfl) n_int (by decide +kernel) (pa_cons (pe_op op_mod (pe_callTy call_int1 (by rfl) n_int (by decide +kernel) (pa_cons (pv 5) pa_nil)) pe_int) pa_nil)) pe_int) (pv 1)))))))))), ?_⟩
    have npl := hP.ne
    obtain ⟨c, ns, hp, hl, hne, c0, c1⟩ := hP
    have hl' : 0 < ns.length := by
      cases ns with
      | nil => exact absurd rfl hne
      | cons x r => exact Nat.succ_pos _
    have h1 : upd H p (.lst [.ref l, .int (c + 1)]) p = some (.lst [.ref l, .int (c + 1)]) := upd_same
    have h2 : upd H p (.lst [.ref l, .int (c + 1)]) l = some (.lst (ns.map V.int)) := (upd_ne npl.symm).trans hl
    have px1 : Px p l H (upd H p (.lst [.ref l, .int (c + 1)])) := (Px.refl H).upd (.inl rfl)
    have pen1 : Pen p l b (upd H p (.lst [.ref l, .int (c + 1)])) := ⟨c + 1, ns, h1, h2, hne, by omega, by omega⟩
    refine ⟨.ref p, rfl, p, _, 1, .int c, rfl, rfl, SqL.of hp, atI_nat (j := 1) rfl, ?_⟩
    refine ⟨.int c, rfl, c, 1, rfl, rfl, .ref p, rfl, p, _, 1, 1, rfl, rfl, hp, rfl, ?_⟩
    have em := Int.emod_nonneg c (show ((ns.map V.int).length : Int) ≠ 0 by rw [List.length_map]; omega)
    have el := Int.emod_lt_of_pos c (show (0 : Int) < ((ns.map V.int).length : Int) by rw [List.length_map]; omega)
    refine ⟨.int c, rfl, .inl ⟨c, rfl, .ref p, rfl, p, _, 0, .ref l, rfl, rfl, SqL.of h1, atI_nat (j := 0) rfl, l, _, rfl, .inl (SqL.of h2), c, _, rfl, rfl, (by show (0 : Int) < ((ns.map V.int).length : Int); rw [List.length_map]; omega), ?_⟩⟩
    generalize hz : c % ((ns.map V.int).length : Int) = z at em el
    obtain ⟨j, rfl⟩ : ∃ j : Nat, z = (j : Int) := ⟨z.toNat, by omega⟩
    have hj : j < ns.length := by
      rw [List.length_map] at el
      omega
    have gj : (ns.map V.int)[j]? = some (.int ns[j]) := by
      rw [List.getElem?_map, List.getElem?_eq_getElem hj]
      rfl
    generalize ns[j] = x at gj
    refine ⟨.ref p, rfl, p, _, 0, .ref l, rfl, rfl, SqL.of h1, atI_nat (j := 0) rfl, .int (c % ((ns.map V.int).length : Int)), rfl, l, _, j, .int x, rfl, by rw [hz], SqL.of h2, atI_nat gj, .inl ⟨x, rfl, ?_⟩⟩
    refine ⟨.int x, rfl, 10, 18, rfl, rfl, ⟨by decide, by decide, by decide⟩, x, _, rfl, rfl, _, rfl, ite2 (fun _ => ?_) (fun _ => ?_)⟩
    · have h3 : upd (upd H p (.lst [.ref l, .int (c + 1)])) l (.lst ((ns.map V.int).set j (.int (x / m)))) p = some (.lst [.ref l, .int (c + 1)]) := (upd_ne npl).trans h1
      have e3 : (ns.map V.int).set j (.int (x / m)) = (ns.set j (x / m)).map V.int := List.map_set.symm
      refine ⟨.int x, rfl, .int m, rfl, x, m, rfl, rfl, ⟨m0, m1⟩, .ref p, rfl, p, _, 0, .ref l, rfl, rfl, SqL.of h1, atI_nat (j := 0) rfl, .int (c % ((ns.map V.int).length : Int)), rfl, l, _, j, j, rfl, by rw [hz], h2, ixN_nat (by rw [List.length_map]; exact hj), ?_⟩
      refine ⟨.int x, rfl, .inl ⟨x, rfl, .int m, rfl, x, m, rfl, rfl, m0, ?_⟩⟩
      refine kk _ _ ⟨Int.emod_nonneg _ (by omega), Int.emod_lt_of_pos _ m0⟩ (px1.upd (.inr (.inl rfl))) ⟨c + 1, ns.set j (x / m), h3, ?_, ?_, by omega, by omega⟩
      · rw [← e3]
        exact upd_same
      · intro q
        have q2 : (ns.set j (x / m)).length = 0 := by
          rw [q]
          rfl
        rw [List.length_set] at q2
        omega
    · refine ⟨.int x, rfl, .inl ⟨x, rfl, x, 1000000007, rfl, rfl, (show (0 : Int) < 1000000007 by decide), _, 48271, rfl, rfl, .inr ⟨by decide, by decide⟩, .int c, rfl, c, 7919, rfl, rfl, .inr ⟨by decide, by decide⟩, _, _, rfl, rfl, _, 104729, rfl, rfl, .inl ⟨_, rfl, _, 5, rfl, rfl, ?_, ?_⟩⟩⟩
      · have z0 := Int.emod_nonneg x (show (1000000007 : Int) ≠ 0 by decide)
        have z1 := Int.emod_lt_of_pos x (show (0 : Int) < 1000000007 by decide)
        refine ⟨by decide, by decide, ?_⟩
        generalize x % 1000000007 = u at *
        omega
      · refine ⟨_, rfl, .inl ⟨_, rfl, _, 2147483647, rfl, rfl, (show (0 : Int) < 2147483647 by decide), .inl ⟨_, rfl, _, 8, rfl, rfl, ⟨by decide, by decide⟩, .int m, rfl, _, m, rfl, rfl, m0, ?_⟩⟩⟩
        exact kk _ _ ⟨Int.emod_nonneg _ (by omega), Int.emod_lt_of_pos _ m0⟩ px1 pen1

theorem ok_law_pick {fd : FuncData} (F : FnP K "_law_pick" "_law_pick" s_law_pick (ga K "_law_pick") fd) (T : Txt K w mg) (c_law_draw : Cl P w K mg base CX0 1 (ga K "_law_draw") ["_law_pen", "_law_many"] spDraw) : FnOk P w K mg base CX0 (1 + 1) (ga K "_law_pick") fd ["_law_pen", "_law_row"] (spPick K) := by
  obtain ⟨fd_law_draw, G_law_draw, b_law_draw, kp_law_draw⟩ := c_law_draw
  refine FunD.ok F sc_law_pick (fun vs H Q E h => ?_) (fun cdv A outer s H vs Q E hr h => ?_)
  · obtain ⟨p, l, a, xs, b, rfl, _⟩ := h
    rfl
  · obtain ⟨p, l, a, xs, b, rfl, hS, ⟨x0, x1⟩, hP, kk⟩ := h
    have g_law_draw := T.gl "_law_draw" (by decide +kernel)
    have n_len := T.fr "len" (by decide +kernel)
    refine ⟨_, PSs.nox (pss_one (ps_ret (pe_ix ix_list (pv 1) (pe_call G_law_draw (hr.mono (by decide)) (by rfl) g_law_draw kp_law_draw b_law_draw .nil pass0 (pa_cons (pv 0) (pa_cons (pe_callB call_len_seq (by rfl) n_len (by decide +kernel) (pa_cons (pv 1) pa_nil)) pa_nil))) (fun _ _ => rfl)))), ?_⟩
    have hS' : SqL K H a xs := ex_l cut_ex hS
    have hl : 0 < xs.length := by
      cases xs with
      | nil => exact absurd rfl x0
      | cons x r => exact Nat.succ_pos _
    refine ⟨.ref a, rfl, .ref p, rfl, .ref a, rfl, a, xs, rfl, .inl hS', p, l, (xs.length : Int), b, rfl, ⟨by omega, by omega⟩, hP, fun r H' hr px pen => ?_⟩
    obtain ⟨j, rfl⟩ : ∃ j : Nat, r = (j : Int) := ⟨r.toNat, by omega⟩
    have hj : j < xs.length := by omega
    have gj : xs[j]? = some xs[j] := List.getElem?_eq_getElem hj
    exact ⟨a, xs, j, xs[j], rfl, rfl, ex_l cut_ex (ex_l px hS), atI_nat gj, kk _ _ (List.getElem_mem hj) px pen⟩

theorem ok_check_entriesX {fd : FuncData} (F : FnP K "check_entries" "check_entries" s_check_entries (ga K "check_entries") fd) (T : T08 K w mg) (c_is_bit : Cl P w K mg base CX0 1 (ga K "is_bit") ["bit"] spBit) : FnOk P w K mg base (L2.CX P w) (1 + 1) (ga K "check_entries") fd ["bits", "children"] (spChkX K) := by
  obtain ⟨fd_is_bit, G_is_bit, b_is_bit, kp_is_bit⟩ := c_is_bit
  refine FunD.ok F sc_check_entries (fun vs H Q E h => ?_) (fun cdv A outer s H vs Q E hr h => ?_)
  · obtain ⟨ba, ca, bs, ws, rfl, _⟩ := h
    rfl
  · obtain ⟨ba, ca, bs, ws, rfl, hb, lb, hc, lw, hk, kg, kb⟩ := h
    have n_all := T.fr "all" (by decide +kernel)
    have g_is_bit := T.gl "is_bit" (by decide +kernel)
    have g_BadPuzzle := T.gl "BadPuzzle" (by decide +kernel)
    have n_isinstance := T.fr "isinstance" (by decide +kernel)
    have g_Puzzle := T.gl "Puzzle" (by decide +kernel)
    refine ⟨_, (pss_cons (ps_if (pt_not (pt_val (pe_callB (cr_all rfl) (by rfl) n_all (by decide +kernel) (pa_cons (pe_lc (own := [("bit", 2)]) (g := gName 2) (by rfl) sc_check_entries.nd (pi_tup (pv 0)) (blkOk_by (own := [("bit", 2)]) (N := ["bits", "children", "bit", "child"]) (sc := defScope s_check_entries) (by decide +kernel)) (fun _ _ _ _ _ => (pg_name (i := 2) sc_check_entries.nd rfl (Or.inl rfl))) (fun _ _ _ _ _ => pts_nil) (fun _ _ _ _ _ => (pe_call G_is_bit (hr.mono (by decide)) (by rfl) g_is_bit kp_is_bit b_is_bit .nil pass0 (pa_cons (pv 2) pa_nil)))) pa_nil))))
      (pss_one (ps_raise rfl (takes_of rfl rfl rfl rfl) (pmk0 PySem.F.excBase_ValueError T.bp.ex g_BadPuzzle T.bp.kC (raises_own T.bp.ec.hs T.by') (by rfl))))
      pss_nil)
      (pss_one (ps_if (pt_not (pt_val (pe_callB (cr_all rfl) (by rfl) n_all (by decide +kernel) (pa_cons (pe_lc (own := [("child", 3)]) (g := gName 3) (by rfl) sc_check_entries.nd (pi_tup (pv 1)) (blkOk_by (own := [("child", 3)]) (N := ["bits", "children", "bit", "child"]) (sc := defScope s_check_entries) (by decide +kernel)) (fun _ _ _ _ _ => (pg_name (i := 3) sc_check_entries.nd rfl (Or.inl rfl))) (fun _ _ _ _ _ => pts_nil) (fun _ _ _ _ _ => (pe_or (pe_cmpR op_isN (pv 3) pe_non (nomark _)) (pe_one (pe_callB (call_isi : CallR _ _ (rIsi K)) (by rfl) n_isinstance (by decide +kernel) (pa_cons (pv 3) (pa_cons (pe_glob (v := .ref _) (by rfl) g_Puzzle rfl) pa_nil))))))) pa_nil))))
      (pss_one (ps_raise rfl (takes_of rfl rfl rfl rfl) (pmk0 PySem.F.excBase_ValueError T.bp.ex g_BadPuzzle T.bp.kC (raises_own T.bp.ec.hs T.by') (by rfl))))
      pss_nil))), ?_⟩
    refine q_when (b := !bs.all bitB) (et_not (et_B (fun H1 e Q q => ?_))) (fun hbad H1 e1 => ?_) (fun hgood H1 e1 => ?_)
    · refine ⟨.ref ba, rfl, ba, rfl, ⟨_, ex_t e hb⟩, fun D hD => ?_⟩
      refine lc_tup (xs := bs.map V.int) (fun i H' => Ex H1 H' ∧ H' D = some (.lst (((bs.take i).map bitB).map V.bl))) ⟨Ex.new hD, upd_same⟩ (fun i H' _ hI => ex_t (e.trans hI.1) hb) (fun i x H' hx hI => ?_) (fun H' hI => ?_)
      · obtain ⟨k1, k2⟩ := hI
        rw [List.getElem?_map] at hx
        cases q1 : bs[i]? with
        | none =>
          rw [q1] at hx
          cases hx
        | some b =>
          rw [q1] at hx
          cases hx
          have hi := (List.getElem?_eq_some_iff.mp q1).1
          refine ⟨rfl, yes_go ⟨.int b, rfl, b, rfl, fun H3 e3 => ⟨_, e3 _ _ k2, ?_, (k1.trans e3).mut hD, ?_⟩⟩⟩
          · rw [List.length_map, List.length_map, List.length_take]
            exact small1000 (by omega)
          · rw [upd_same, rep_app bitB q1]
      · obtain ⟨k1, k2⟩ := hI
        rw [take_all (by rw [List.length_map]; exact Nat.le_refl _)] at k2
        refine ⟨D, _, rfl, sq_of k2, ?_⟩
        rw [show (bs.map bitB).all id = bs.all bitB by rw [List.all_map]; rfl]
        exact q H' k1
    · refine kb ?_ H1 e1
      rw [show bs.all bitB = false by simpa using hbad]
      rfl
    have hgood' : bs.all bitB = true := by simpa using hgood
    refine s_when (b := !ws.all kidB) (et_not (et_B (fun H2 e Q q => ?_))) (fun hbad H2 e2 => ?_) (fun hg2 H2 e2 => ?_)
    · have e2 := e1.trans e
      refine ⟨.ref ca, rfl, ca, rfl, ⟨_, ex_t e2 hc⟩, fun D hD => ?_⟩
      refine lc_tup (xs := ws) (fun i H' => Ex H2 H' ∧ H' D = some (.lst (((ws.take i).map kidB).map V.bl))) ⟨Ex.new hD, upd_same⟩ (fun i H' _ hI => ex_t (e2.trans hI.1) hc) (fun i x H' hx hI => ?_) (fun H' hI => ?_)
      · obtain ⟨k1, k2⟩ := hI
        have hi := (List.getElem?_eq_some_iff.mp hx).1
        refine ⟨rfl, yes_go ?_⟩
        have fin : ∀ H3, Ex H' H3 → ∃ acc, H3 D = some (.lst acc) ∧ acc.length < sizeLine ∧ Ex H2 (upd H3 D (.lst (acc ++ [V.bl (kidB x)]))) ∧ upd H3 D (.lst (acc ++ [V.bl (kidB x)])) D = some (.lst (((ws.take (i + 1)).map kidB).map V.bl)) := fun H3 e3 => by
          refine ⟨_, e3 _ _ k2, ?_, (k1.trans e3).mut hD, ?_⟩
          · rw [List.length_map, List.length_map, List.length_take]
            exact small1000 (by omega)
          · rw [upd_same, rep_app kidB hx]
        rcases (hk x (List.mem_of_getElem? hx)).kp (Kp.of (e2.trans k1)) with rfl | ⟨c, d, rfl, hp⟩ | ⟨z, rfl⟩
        · refine (ev_is (ev_orV (a := true) (b := true) (ev_op (ev_var rfl) ev_c (fun H5 e5 Q5 q5 => ⟨rfl, q5 H5 (Ex.refl _)⟩)) (fun z => nomatch z)) rfl) H' (Ex.refl _) _ fun H3 e3 => fin H3 e3
        · refine (ev_is (ev_orV (a := false) (b := true) (ev_op (ev_var rfl) ev_c (fun H5 e5 Q5 q5 => ⟨rfl, q5 H5 (Ex.refl _)⟩)) (fun _ => ev_cb (ea_cons (ev_var rfl) (ea_cons ev_c ea_nil)) (isi_of (.own _) (fun H5 e5 => tyx_mono (T.toTx.tz hp) e5) T.ki))) rfl) H' (Ex.refl _) _ fun H3 e3 => fin H3 e3
        · refine (ev_is (ev_orV (a := false) (b := false) (ev_op (ev_var rfl) ev_c (fun H5 e5 Q5 q5 => ⟨rfl, q5 H5 (Ex.refl _)⟩)) (fun _ => ev_cb (ea_cons (ev_var rfl) (ea_cons ev_c ea_nil)) (isi_of (.own _) (fun H5 e5 => .base (.str z)) (T.kn "str" (by simp))))) rfl) H' (Ex.refl _) _ fun H3 e3 => fin H3 e3
      · obtain ⟨k1, k2⟩ := hI
        rw [take_all (Nat.le_refl _)] at k2
        refine ⟨D, _, rfl, sq_of k2, ?_⟩
        rw [show (ws.map kidB).all id = ws.all kidB by rw [List.all_map]; rfl]
        exact q H' k1
    · refine kb ?_ H2 (e1.trans e2)
      rw [show ws.all kidB = false by simpa using hbad, Bool.and_false]
    · refine kg ?_ H2 (e1.trans e2)
      rw [hgood', show ws.all kidB = true by simpa using hg2]
      rfl

theorem ok_initX {fd : FuncData} {f : Addr} {dvs : List V} (F : FunD K "__init__" "Puzzle.__init__" (defArgs s_Puzzle_init) (defBody s_Puzzle_init) (defScope s_Puzzle_init) dvs [] f fd) (T : T08 K w mg) (c_check_entries : Cl P w K mg base (L2.CX P w) 2 (ga K "check_entries") ["bits", "children"] (spChkX K)) (c_trimmed : Cl P w K mg base CX0 2 (ga K "trimmed") ["entries", "empty"] (spTrim K)) (c_spelled : Cl P w K mg base CX0 1 (ga K "spelled") ["bits", "children"] (spSpell K)) : FnOk P w K mg base (L2.CX P w) (2 + 1) f fd ["self", "bits", "children"] (spInitX K) := by
  obtain ⟨fd_check_entries, G_check_entries, b_check_entries, kp_check_entries⟩ := c_check_entries
  obtain ⟨fd_trimmed, G_trimmed, b_trimmed, kp_trimmed⟩ := c_trimmed
  obtain ⟨fd_spelled, G_spelled, b_spelled, kp_spelled⟩ := c_spelled
  refine FunD.ok F sc_Puzzle_init (fun vs H Q E h => ?_) (fun cdv A outer s H vs Q E hr h => ?_)
  · obtain ⟨a, ba, ca, dx, bs, ws, rfl, _⟩ := h
    rfl
  · obtain ⟨a, ba, ca, dx, bs, ws, rfl, ha, hb, lb, hc, lkw, hkk, kb, kg⟩ := h
    have n_tuple := T.fr "tuple" (by decide +kernel)
    have g_check_entries := T.gl "check_entries" (by decide +kernel)
    have g_trimmed := T.gl "trimmed" (by decide +kernel)
    have n_sum := T.fr "sum" (by decide +kernel)
    have n_max := T.fr "max" (by decide +kernel)
    obtain ⟨tk_MOST_NODES, g_MOST_NODES⟩ := T.c_MOST_NODES
    obtain ⟨tk_GREATEST_DEPTH, g_GREATEST_DEPTH⟩ := T.c_GREATEST_DEPTH
    have g_TooGreat := T.gl "TooGreat" (by decide +kernel)
    have g_spelled := T.gl "spelled" (by decide +kernel)
    refine ⟨_, (pss_cons (ps_set (i := 3) sc_Puzzle_init.nd rfl (Or.inl rfl) (pe_callTy call_tuple_of (by rfl) n_tuple (by decide +kernel) (pa_cons (pv 1) pa_nil)))
      (pss_cons (ps_set (i := 4) sc_Puzzle_init.nd rfl (Or.inl rfl) (pe_callTy call_tuple_of (by rfl) n_tuple (by decide +kernel) (pa_cons (pv 2) pa_nil)))
      (pss_cons (ps_expr (pe_call G_check_entries (hr.mono (by decide)) (by rfl) g_check_entries kp_check_entries b_check_entries .nil (passes_call (takes_of rfl rfl rfl rfl) (fun _ _ _ _ h => h)) (pa_cons (pv 3) (pa_cons (pv 4) pa_nil))))
      (pss_cons (ps_fld (pv 0) (pe_call G_trimmed (hr.mono (by decide)) (by rfl) g_trimmed kp_trimmed b_trimmed .nil pass0 (pa_cons (pv 3) (pa_cons pe_int pa_nil))) rfl)
      (pss_cons (ps_fld (pv 0) (pe_call G_trimmed (hr.mono (by decide)) (by rfl) g_trimmed kp_trimmed b_trimmed .nil pass0 (pa_cons (pv 4) (pa_cons pe_non pa_nil))) rfl)
      (pss_cons (ps_setLc (i := 5) (own := [("child", 6)]) (g := gName 6) (by rfl) sc_Puzzle_init.nd rfl rfl (sw_true rfl rfl rfl (by decide +kernel)) (pi_tup (pe_fldc (K := K) rfl (pv 0) rfl)) (blkOk_by (own := [("child", 6)]) (N := ["self", "bits", "children", "all_bits", "all_children", "nodes", "child", "node"]) (sc := defScope s_Puzzle_init) (by decide +kernel)) (fun _ _ _ _ _ => (pg_name (i := 6) sc_Puzzle_init.nd rfl (Or.inl rfl))) (fun _ _ _ _ _ => (pts_one (pt_cmpR op_notN (pv 6) pe_non (nomark _)))) (fun _ _ _ _ _ => (pv 6)))
      (pss_cons (ps_fld (pv 0) (pe_op op_add pe_int (pe_callB (cr_sum rfl) (by rfl) n_sum (by decide +kernel) (pa_cons (pe_lc (own := [("node", 7)]) (g := gName 7) (by rfl) sc_Puzzle_init.nd (pi_list (pv 5)) (blkOk_by (own := [("node", 7)]) (N := ["self", "bits", "children", "all_bits", "all_children", "nodes", "child", "node"]) (sc := defScope s_Puzzle_init) (by decide +kernel)) (fun _ _ _ _ _ => (pg_name (i := 7) sc_Puzzle_init.nd rfl (Or.inl rfl))) (fun _ _ _ _ _ => pts_nil) (fun _ _ _ _ _ => (pe_fldc (K := K) rfl (pv 7) rfl))) pa_nil))) rfl)
      (pss_cons (ps_fld (pv 0) (pe_op op_add pe_int (pe_callBK (cr_maxDef rfl (units65 hr)) (by rfl) n_max (by decide +kernel) (pa_cons (pe_lc (own := [("node", 7)]) (g := gName 7) (by rfl) sc_Puzzle_init.nd (pi_list (pv 5)) (blkOk_by (own := [("node", 7)]) (N := ["self", "bits", "children", "all_bits", "all_children", "nodes", "child", "node"]) (sc := defScope s_Puzzle_init) (by decide +kernel)) (fun _ _ _ _ _ => (pg_name (i := 7) sc_Puzzle_init.nd rfl (Or.inl rfl))) (fun _ _ _ _ _ => pts_nil) (fun _ _ _ _ _ => (pe_fldc (K := K) rfl (pv 7) rfl))) pa_nil) (pk_cons pe_int pk_nil))) rfl)
      (pss_cons (ps_if (PW.pt (pw_or (pt_cmpR op_gt (pe_fldc (K := K) rfl (pv 0) rfl) (pe_glob (v := .int _) (by rfl) g_MOST_NODES ⟨_, rfl⟩) (nomark _)) (pw_or1 (pt_cmpR op_gt (pe_fldc (K := K) rfl (pv 0) rfl) (pe_glob (v := .int _) (by rfl) g_GREATEST_DEPTH ⟨_, rfl⟩) (nomark _)))))
      (pss_one (ps_raise rfl (takes_of rfl rfl rfl rfl) (pmk0 PySem.F.excBase_ValueError T.tg.ex g_TooGreat T.tg.kC (raises_own T.tg.ec.hs T.ty) (by rfl))))
      pss_nil)
      (pss_one (ps_fld (pv 0) (pe_call G_spelled (hr.mono (by decide)) (by rfl) g_spelled kp_spelled b_spelled .nil pass0 (pa_cons (pe_fldc (K := K) rfl (pv 0) rfl) (pa_cons (pe_fldc (K := K) rfl (pv 0) rfl) pa_nil))) rfl))))))))))), ?_⟩
    refine q_tup (K := K) (ev_var rfl) hb fun r3 H1 e1 g3 => ?_
    try dsimp only [gName, List.set]
    refine q_tup (K := K) (ev_var rfl) (hc.imp (ex_l e1) (ex_t e1)) fun r4 H2 e2 g4 => ?_
    try dsimp only [gName, List.set]
    have e12 := e1.trans e2
    refine ⟨.ref r3, rfl, .ref r4, rfl, r3, r4, bs, ws, rfl, ex_t e2 g3, by omega, g4, by omega, (fun x hx => (hkk x hx).kp (Kp.of e12)), fun hgood H3 e3 => ?_, fun hbad H3 e3 => kb hbad H3 (Xa.of (e12.trans e3))⟩
    have hg := Bool.and_eq_true_iff.mp hgood
    have h01 := bits_all hg.1
    obtain ⟨ks, hk⟩ := kids_pz hkk hg.2
    obtain ⟨kgr, kk⟩ := kg ks hgood hk
    have lw := hk.len
    have lk : ks.length ≤ 600 := by omega
    have e13 := e12.trans e3
    -- the bits
    refine ⟨.ref r3, rfl, r3, .int 0, bs.map V.int, (fun v => decide (v = .int 0)), rfl, ex_t (e2.trans e3) g3, by rw [List.length_map]; omega, fun x hx => ?_, fun r5 H4 e4 g5 => ?_⟩
    · obtain ⟨b, _, rfl⟩ := List.mem_map.mp hx
      exact fun H5 e5 Q5 q5 => .inl ⟨rfl, q5 H5 (Ex.refl _)⟩
    rw [keep_bits, ← List.map_take] at g5
    have e14 := e13.trans e4
    refine ⟨.ref a, rfl, a, _, dx, [], rfl, e14 _ _ ha, T.cp, T.np "bits" (by decide +kernel), by decide, ?_⟩
    have a5 : upd H4 a (.ins (ga K "Puzzle") dx (putF "bits" (.ref r5) [])) a = some (.ins (ga K "Puzzle") dx [("bits", .ref r5)]) := upd_same
    generalize hH5 : upd H4 a (.ins (ga K "Puzzle") dx (putF "bits" (.ref r5) [])) = H5 at a5
    have x45 : Xa a H4 H5 := by rw [← hH5]; exact Xa.upd
    have x5 : Xa a H H5 := (Xa.of e14).trans x45
    have k5 := Kp.xa ha x5
    have k45 := Kp.xa (e14 _ _ ha) x45
    have p5 := hk.kp k5
    have g4' := k45.t (ex_t (e3.trans e4) g4)
    have g5' := k45.t g5
    -- the children
    refine ⟨.ref r4, rfl, r4, .non, ws, (fun v => decide (v = .non)), rfl, g4', by omega, fun x hx => ?_, fun r6 H6 e6 g6 => ?_⟩
    · obtain ⟨i, hi⟩ := List.mem_iff_getElem?.mp hx
      obtain ⟨d, hd, cas⟩ := p5.at hi
      rcases cas with ⟨rfl, rfl⟩ | ⟨c, rfl, hp⟩
      · exact fun H7 e7 Q7 q7 => .inl ⟨rfl, q7 H7 (Ex.refl _)⟩
      · intro H7 e7 Q7 q7
        have hp7 := hp.kp (Kp.of e7)
        have hp8 := hp7
        cases hp7 with
        | mk e' b h' hb' hc' hk' => exact .inr ⟨c, _, _, .type "NoneType", rfl, h', .base .non, T.nf "NoneType" (by simp), c, .non, d, rfl, hp8, .inr ⟨"NoneType", .base .non, T.kn "NoneType" (by simp), fun H9 e9 => ⟨⟨_, rfl⟩, q7 H9 e9⟩⟩⟩
    rw [keep_kids p5] at g6
    refine ⟨.ref a, rfl, a, _, dx, _, rfl, e6 _ _ a5, T.cp, T.np "children" (by decide +kernel), (show 1 < 1000 by decide), ?_⟩
    rw [putF_tail (by decide +kernel)]
    have a7 : upd H6 a (.ins (ga K "Puzzle") dx (("bits", .ref r5) :: putF "children" (.ref r6) [])) a = some (.ins (ga K "Puzzle") dx [("bits", .ref r5), ("children", .ref r6)]) := upd_same
    generalize hH7 : upd H6 a (.ins (ga K "Puzzle") dx (("bits", .ref r5) :: putF "children" (.ref r6) [])) = H7 at a7
    have x67 : Xa a H6 H7 := by rw [← hH7]; exact Xa.upd
    have x7 : Xa a H H7 := (x5.trans (Xa.of e6)).trans x67
    have tupx : ∀ {HA HB : Hp} {fs : List (Str × V)}, HA a = some (.ins (ga K "Puzzle") dx fs) → Xa a HA HB → ∀ {c : Addr} {xs : List V}, SqT K HA c xs → SqT K HB c xs := by
      intro HA HB fs hA hX c xs h
      rcases h with (h | ⟨o, h⟩) | h
      · exact .inl (.inl (hX c _ (fun e => by rw [e, hA] at h; cases h) h))
      · exact .inl (.inr ⟨o, hX c _ (fun e => by rw [e, hA] at h; cases h) h⟩)
      · exact .inr h
    have g5'' := tupx (e6 _ _ a5) x67 (ex_t e6 g5')
    have g6'' := tupx (e6 _ _ a5) x67 g6
    have k7 := Kp.xa ha x7
    have p7 : PzL K H7 (ws.take (keepN isN ks)) (ks.take (keepN isN ks)) := (hk.kp k7).take _
    have lks : (ks.take (keepN isN ks)).length ≤ 600 := by rw [List.length_take]; omega
    have szk := sizeL_take ks (keepN isN ks)
    have dpk := deepL_take ks (keepN isN ks)
    have lw7 := p7.len
    have pn := p7.nodes
    have lwn := pn.len
    have lwn2 : ((ws.take (keepN isN ks)).filter fun v => !decide (v = .non)).length ≤ 600 := Nat.le_trans (List.length_filter_le ..) (by omega)
    have nn : ∀ k ∈ (ks.take (keepN isN ks)).filter (fun k => !isN k), isN k = false := fun k hk => by simpa using (List.mem_filter.mp hk).2
    have snd := size_nodes (ks.take (keepN isN ks))
    have dnd := deep_nodes (ks.take (keepN isN ks))
    -- the nodes
    refine ⟨.ref a, rfl, a, _, dx, _, .ref r6, rfl, a7, T.cp, T.np "children" (by decide +kernel), rfl, r6, rfl, ⟨_, g6''⟩, fun N hN => ?_⟩
    refine lc_tup (xs := ws.take (keepN isN ks)) (fun i H' => Ex H7 H' ∧ H' N = some (.lst (((ws.take (keepN isN ks)).take i).filter fun v => !decide (v = .non)))) ⟨Ex.new hN, upd_same⟩ (fun i H' _ hI => ex_t hI.1 g6'') (fun i x H' hx hI => ?_) (fun H8 hI => ?_)
    · obtain ⟨k1, k2⟩ := hI
      have hi := (List.getElem?_eq_some_iff.mp hx).1
      refine ⟨rfl, go_test (b := !decide (x = .non)) (et_test (ev_op (ev_var rfl) ev_c (fun H9 e9 Q9 q9 => ⟨rfl, q9 H9 (Ex.refl _)⟩))) fun H9 e9 => ?_⟩
      rw [take_more hx, List.filter_append]
      refine ite2 (fun hq => ?_) (fun hq => ?_)
      · refine ⟨x, rfl, _, e9 _ _ k2, ?_, (k1.trans e9).mut hN, ?_⟩
        · have l1 := List.length_filter_le (fun v : V => !decide (v = .non)) ((ws.take (keepN isN ks)).take i)
          rw [List.length_take] at l1
          exact small1000 (by omega)
        · rw [upd_same, List.filter_cons, if_pos hq]
          rfl
      · refine ⟨k1.trans e9, ?_⟩
        rw [List.filter_cons, if_neg hq]
        show _ = some (HO.lst (_ ++ []))
        rw [List.append_nil]
        exact e9 _ _ k2
    obtain ⟨e8, h8⟩ := hI
    rw [List.take_length] at h8
    try dsimp only [gName, List.set]
    generalize hWN : (ws.take (keepN isN ks)).filter (fun v => !decide (v = .non)) = wn at *
    generalize hKN : (ks.take (keepN isN ks)).filter (fun k => !isN k) = kn at *
    have pn8 := pn.kp (Kp.of e8)
    -- size
    refine ⟨.ref N, rfl, N, rfl, ⟨_, sq_of h8⟩, fun D hD => ?_⟩
    refine lc_list (xs := wn) (fun i H' => Ex H8 H' ∧ H' D = some (.lst ((((kn.take i).map size).map fun n : Nat => (n : Int)).map V.int))) ⟨Ex.new hD, upd_same⟩ (fun i H' _ hI => sq_of (hI.1 _ _ h8)) (fun i x H' hx hI => ?_) (fun H9 hI => ?_)
    · obtain ⟨k1, k2⟩ := hI
      have hi := (List.getElem?_eq_some_iff.mp hx).1
      obtain ⟨c, k, rfl, hkn, hp⟩ := (pn8.kp (Kp.of k1)).ref nn hx
      cases hp with
      | mk e' b h' hb' hc' hk' =>
        refine ⟨rfl, yes_go ⟨.ref c, rfl, c, _, _, _, _, rfl, h', T.cp, T.np "size" (by decide +kernel), rfl, _, k2, ?_, k1.mut hD, ?_⟩⟩
        · rw [List.length_map, List.length_map, List.length_map, List.length_take]
          exact small1000 (by omega)
        · rw [upd_same, take_more hkn, List.map_append, List.map_append, List.map_append]
          rfl
    obtain ⟨e9, h9⟩ := hI
    rw [take_all (show kn.length ≤ wn.length by omega)] at h9
    refine ⟨D, _, rfl, sq_of h9, 1, _, rfl, rfl, .ref a, rfl, a, _, dx, _, rfl, e9 _ _ (e8 _ _ a7), T.cp, T.np "size" (by decide +kernel), (show 2 < 1000 by decide), ?_⟩
    have sumE : (1 : Int) + (((kn.map size).map fun n : Nat => (n : Int))).sum = (size (nd (short isZ bs) (short isN ks)) : Nat) := by
      have z : ∀ l : List Nat, (l.map fun n : Nat => (n : Int)).sum = ((l.sum : Nat) : Int) := fun l => by
        induction l with
        | nil => rfl
        | cons n r ih =>
          rw [List.map_cons, List.sum_cons, ih, List.sum_cons]
          omega
      rw [z, snd, size_nd]
      show _ = ((1 + sizeL (ks.take (keepN isN ks)) : Nat) : Int)
      omega
    dsimp only
    rw [putF_tail (by decide +kernel), putF_tail (by decide +kernel), sumE]
    have a10 : upd H9 a (.ins (ga K "Puzzle") dx (("bits", .ref r5) :: ("children", .ref r6) :: putF "size" (.int (size (nd (short isZ bs) (short isN ks)) : Nat)) [])) a = some (.ins (ga K "Puzzle") dx [("bits", .ref r5), ("children", .ref r6), ("size", .int (size (nd (short isZ bs) (short isN ks)) : Nat))]) := upd_same
    generalize hH10 : upd H9 a (.ins (ga K "Puzzle") dx (("bits", .ref r5) :: ("children", .ref r6) :: putF "size" (.int (size (nd (short isZ bs) (short isN ks)) : Nat)) [])) = H10 at a10
    have x910 : Xa a H9 H10 := by rw [← hH10]; exact Xa.upd
    have x10 : Xa a H H10 := (x7.trans (Xa.of (e8.trans e9))).trans x910
    have h8' := x910 N _ (fun e => by rw [e] at h8; rw [e8 _ _ a7] at h8; cases h8) (e9 _ _ h8)
    have pn10 : PzL K H10 wn kn := by
      have := (hk.kp (Kp.xa ha x10)).take (keepN isN ks)
      rw [← hWN, ← hKN]
      exact this.nodes
    -- depth
    refine ⟨.ref N, rfl, N, rfl, ⟨_, sq_of h8'⟩, fun D2 hD2 => ?_⟩
    refine lc_list (xs := wn) (fun i H' => Ex H10 H' ∧ H' D2 = some (.lst ((((kn.take i).map deep).map fun n : Nat => (n : Int)).map V.int))) ⟨Ex.new hD2, upd_same⟩ (fun i H' _ hI => sq_of (hI.1 _ _ h8')) (fun i x H' hx hI => ?_) (fun H11 hI => ?_)
    · obtain ⟨k1, k2⟩ := hI
      have hi := (List.getElem?_eq_some_iff.mp hx).1
      obtain ⟨c, k, rfl, hkn, hp⟩ := (pn10.kp (Kp.of k1)).ref nn hx
      cases hp with
      | mk e' b h' hb' hc' hk' =>
        refine ⟨rfl, yes_go ⟨.ref c, rfl, c, _, _, _, _, rfl, h', T.cp, T.np "depth" (by decide +kernel), rfl, _, k2, ?_, k1.mut hD2, ?_⟩⟩
        · rw [List.length_map, List.length_map, List.length_map, List.length_take]
          exact small1000 (by omega)
        · rw [upd_same, take_more hkn, List.map_append, List.map_append, List.map_append]
          rfl
    obtain ⟨e11, h11⟩ := hI
    rw [take_all (show kn.length ≤ wn.length by omega)] at h11
    refine ⟨D2, _, 0, rfl, rfl, sq_of h11, 1, _, rfl, rfl, .ref a, rfl, a, _, dx, _, rfl, e11 _ _ a10, T.cp, T.np "depth" (by decide +kernel), (show 3 < 1000 by decide), ?_⟩
    have depE : (1 : Int) + mxD 0 ((kn.map deep).map fun n : Nat => (n : Int)) = (deep (nd (short isZ bs) (short isN ks)) : Nat) := by
      rw [dnd, deep_nd]
      show _ = ((1 + deepL (ks.take (keepN isN ks)) : Nat) : Int)
      omega
    dsimp only
    rw [putF_tail (by decide +kernel), putF_tail (by decide +kernel), putF_tail (by decide +kernel), depE]
    have a12 : upd H11 a (.ins (ga K "Puzzle") dx (("bits", .ref r5) :: ("children", .ref r6) :: ("size", .int (size (nd (short isZ bs) (short isN ks)) : Nat)) :: putF "depth" (.int (deep (nd (short isZ bs) (short isN ks)) : Nat)) [])) a = some (.ins (ga K "Puzzle") dx [("bits", .ref r5), ("children", .ref r6), ("size", .int (size (nd (short isZ bs) (short isN ks)) : Nat)), ("depth", .int (deep (nd (short isZ bs) (short isN ks)) : Nat))]) := upd_same
    generalize hH12 : upd H11 a (.ins (ga K "Puzzle") dx (("bits", .ref r5) :: ("children", .ref r6) :: ("size", .int (size (nd (short isZ bs) (short isN ks)) : Nat)) :: putF "depth" (.int (deep (nd (short isZ bs) (short isN ks)) : Nat)) [])) = H12 at a12
    have x1112 : Xa a H11 H12 := by rw [← hH12]; exact Xa.upd
    have x12 : Xa a H H12 := (x10.trans (Xa.of e11)).trans x1112
    have g5a := tupx (e11 _ _ a10) x1112 (ex_t e11 (tupx (e9 _ _ (e8 _ _ a7)) x910 (ex_t (e8.trans e9) g5'')))
    have g6a := tupx (e11 _ _ a10) x1112 (ex_t e11 (tupx (e9 _ _ (e8 _ _ a7)) x910 (ex_t (e8.trans e9) g6'')))
    have p12 : PzL K H12 (ws.take (keepN isN ks)) (ks.take (keepN isN ks)) := (hk.kp (Kp.xa ha x12)).take _
    -- not too great
    have sn : size (nd (short isZ bs) (short isN ks)) = 1 + sizeL (ks.take (keepN isN ks)) := size_nd _ _
    have dn : deep (nd (short isZ bs) (short isN ks)) = 1 + deepL (ks.take (keepN isN ks)) := deep_nd _ _
    have hsh : short isN ks = ks.take (keepN isN ks) := rfl
    by_cases hgr : 500 < 1 + sizeL (short isN ks) ∨ 30 < 1 + deepL (short isN ks)
    · refine q_when (b := true) (et_is (et_or (a := decide ((500 : Int) < (size (nd (short isZ bs) (short isN ks)) : Nat))) (b := decide ((30 : Int) < (deep (nd (short isZ bs) (short isN ks)) : Nat))) (et_test (ev_op (ev_fld (ev_var rfl) a12 T.cp (T.np "size" (by decide +kernel)) rfl) ev_c rv_I0)) (fun _ => et_test (ev_op (ev_fld (ev_var rfl) a12 T.cp (T.np "depth" (by decide +kernel)) rfl) ev_c rv_I0))) ?_) (fun _ H13 e13b => kgr hgr H13 (x12.trans (Xa.of e13b))) (fun hb => nomatch hb)
      rw [Bool.or_eq_true, decide_eq_true_eq, decide_eq_true_eq, sn, dn, ← hsh]
      omega
    replace kk := kk hgr
    have zs : 1 + sizeL (ks.take (keepN isN ks)) ≤ 500 := by rw [← hsh]; omega
    have zd : 1 + deepL (ks.take (keepN isN ks)) ≤ 30 := by rw [← hsh]; omega
    refine q_when (b := false) (et_is (et_or (a := false) (b := false) (et_is (a := decide ((500 : Int) < (size (nd (short isZ bs) (short isN ks)) : Nat))) (et_test (ev_op (ev_fld (ev_var rfl) a12 T.cp (T.np "size" (by decide +kernel)) rfl) ev_c rv_I0)) (decide_eq_false (by omega))) (fun _ => et_is (a := decide ((30 : Int) < (deep (nd (short isZ bs) (short isN ks)) : Nat))) (et_test (ev_op (ev_fld (ev_var rfl) a12 T.cp (T.np "depth" (by decide +kernel)) rfl) ev_c rv_I0)) (decide_eq_false (by omega)))) rfl) (fun hb => nomatch hb) (fun _ H13 e13b => ?_)
    -- the spelling
    have a13 := e13b _ _ a12
    have sb : ∀ b ∈ short isZ bs, b = 0 ∨ b = 1 := fun b hb => h01 b (List.mem_of_mem_take hb)
    have lsb : (short isZ bs).length ≤ 60 := by
      unfold short
      rw [List.length_take]
      omega
    refine ⟨.ref a, rfl, a, _, dx, _, .ref r5, rfl, a13, T.cp, T.np "bits" (by decide +kernel), rfl, .ref a, rfl, a, _, dx, _, .ref r6, rfl, a13, T.cp, T.np "children" (by decide +kernel), rfl, r5, r6, short isZ bs, ws.take (keepN isN ks), short isN ks, rfl, ex_t e13b g5a, sb, lsb, ex_t e13b g6a, p12.kp (Kp.of e13b), lks, (by show sizeL (ks.take (keepN isN ks)) ≤ 500; omega), fun H14 e14b => ?_⟩
    refine ⟨.ref a, rfl, a, _, dx, _, rfl, e14b _ _ a13, T.cp, T.np "spelling" (by decide +kernel), (show 4 < 1000 by decide), ?_⟩
    rw [putF_tail (by decide +kernel), putF_tail (by decide +kernel), putF_tail (by decide +kernel), putF_tail (by decide +kernel)]
    have x1415 : Xa a H14 (upd H14 a (.ins (ga K "Puzzle") dx (("bits", .ref r5) :: ("children", .ref r6) :: ("size", .int (size (nd (short isZ bs) (short isN ks)) : Nat)) :: ("depth", .int (deep (nd (short isZ bs) (short isN ks)) : Nat)) :: putF "spelling" (.str (spell (nd (short isZ bs) (short isN ks)))) []))) := Xa.upd
    have x15 := (x12.trans (Xa.of (e13b.trans e14b))).trans x1415
    have bdk : Bd 60 600 (nd (short isZ bs) (short isN ks)) := .mk rfl lsb sb lks (hk.bd.take _)
    exact kk _ x15 (.mk rfl bdk upd_same (tupx (e14b _ _ a13) x1415 (ex_t (e13b.trans e14b) g5a)) (tupx (e14b _ _ a13) x1415 (ex_t (e13b.trans e14b) g6a)) ((hk.kp (Kp.xa ha x15)).take _))

end
end K08
set_option Elab.async false
set_option linter.all false
set_option maxRecDepth 100000
set_option maxHeartbeats 8000000
namespace K08
open PySem PySem.Spec PyProof.Rows L2 He XH XV XR PEN TR XQ PZ Evl

/-- C(e, ..) in the body of a try: what its __init__ raises is met by the wish -/
theorem pe_mkS {X : Cx} {CX : CXT} {k : Nat} {f C : Addr} {fd : FuncData} {ps : List Str} {sp : Sp} {E : L2.St → XK} {x : Str} {p pos : Pos} {e : Expr} {es : List Expr} {t : TA} (M : Mk X.K C f) (F : FnOk X.prog X.w X.K X.mg X.base CX k f fd ps sp) (hr : Room (k + 1) X.A) (hg : Gl X x) (hm : X.mg x = some (.ref C))
    (hb : Binds X.K fd ps []) (hx : ∀ σ, PassesAt CX X σ (E σ)) (ha : PA X (e :: es) t) (hdb : (x == ("__debug__" : Str)) = false := by decide) (he : starEach (e :: es) X.env = (false, eval e X.env) :: starEach es X.env := by rfl) (hpl : (backTo pos (starEach es X.env)).any (·.1) = false := by rfl) :
    PE X (.Call (.Name x p) (e :: es) [] pos) (fun σ H Q => tMake C sp [] (E σ) t σ H Q) := by
  refine ⟨fun pins s σ H Q I h => ?_⟩
  refine wpAny_Call_Name_kw (ld_glob I hg hm ?_ hdb)
  refine PySem.W.callWith_K (h₀ := X.base) I.ok.mod.kin M.kp (thn (ha.run pos pins s σ H _ I h) fun us s1 ⟨vs, H1, I1, r1, q1⟩ => ⟨I1.kIn, ?_⟩) he hpl
  have w0 := q1 (s1.heap.objs.size + 1) s1.heap.objs.size (I1.hok.fresh (Nat.le_succ _)) (I1.hok.fresh (Nat.le_refl _)) (Nat.ne_of_lt (Nat.lt_succ_self _))
  have J := Inv.made (C := C) I1
  rw [List.append_nil] at w0
  have rv : Vals (V.ref (s1.heap.objs.size + 1) :: vs) (Value.ref (s1.heap.objs.size + 1) :: us) := .cons rfl r1
  have ln : (Value.ref (s1.heap.objs.size + 1) :: us ++ []).length = ps.length := by
    have z := rv.length
    rw [F.len _ _ _ _ w0] at z
    rw [List.append_nil]
    exact z.symm
  have bd := hb _ (Value.ref (s1.heap.objs.size + 1) :: us) J.kIn ln
  rw [List.append_nil] at bd
  refine wpAny_call (make_map (f := f) I1.kIn M.makes M.init (beq_iff_eq.mp M.fn) (codeAny_mono (F.run _ X.stack _ _ ⟨Value.ref (s1.heap.objs.size + 1) :: us, []⟩ (Value.ref (s1.heap.objs.size + 1) :: us) _ _ (E σ) (hr.make C us []) (J.env0.make C us []) bd rv w0) fun res s' hq => ?_))
  cases res with
  | error er => exact hx σ pins _ _ er s' J hq
  | ok fl =>
    cases fl with
    | ret u =>
      obtain ⟨v, H2, I2, r2, ev, q2⟩ := J.after hq
      subst ev
      exact ⟨r2, ⟨V.ref (s1.heap.objs.size + 1), H2, I2, rfl, q2⟩⟩
    | next => exact False.elim hq
    | brk => exact False.elim hq
    | cont => exact False.elim hq

theorem sizeL_short_eq : ∀ ks : List PyData, sizeL (short isN ks) = sizeL ks ∧ deepL (short isN ks) = deepL ks := by
  intro ks
  have key : ∀ n, ∀ ks : List PyData, n = ks.length → sizeL (short isN ks) = sizeL ks ∧ deepL (short isN ks) = deepL ks := by
    intro n
    induction n with
    | zero =>
      intro ks h
      rw [List.length_eq_zero_iff.mp h.symm]
      exact ⟨rfl, rfl⟩
    | succ n ih =>
      intro ks h
      rcases List.eq_nil_or_concat ks with z | ⟨r, x, z⟩
      · rw [z] at h
        cases h
      · have e : ks = r ++ [x] := by rw [z]; simp
        subst e
        have hr : n = r.length := by
          rw [List.length_append] at h
          simpa using h
        unfold short
        rw [keepN_app]
        cases q : isN x with
        | true =>
          have e0 : x = .none := by cases x <;> first | rfl | cases q
          rw [if_pos rfl, List.take_append_of_le_length (keepN_le _ r)]
          obtain ⟨h1, h2⟩ := ih r hr
          unfold short at h1 h2
          rw [h1, h2, sizeL_app, deepL_app, e0]
          simp [sizeL, deepL, size_non, deep_non]
        | false =>
          rw [if_neg Bool.false_ne_true, List.take_of_length_le (by rw [List.length_append]; exact Nat.le_refl _)]
          exact ⟨rfl, rfl⟩
  exact key _ ks rfl
def dBad : PyData := .tuple [.str "bad", .bool true, .bool false]
def dGreat : PyData := .tuple [.str "great", .bool true, .bool false]
def dMade (s d : Nat) : PyData := .tuple [.str "made", .int (s : Nat), .int (d : Nat)]
def dGood (ks : List PyData) : PyData := if 500 < 1 + sizeL ks ∨ 30 < 1 + deepL ks then dGreat else dMade (1 + sizeL ks) (1 + deepL ks)
def spTold (K : PySem.W.Frag) : Sp := fun vs H Q _ => ∃ (b c : Addr) (bs : List Int) (ws : List V), vs = [.ref b, .ref c] ∧ H b = some (.lst (bs.map V.int)) ∧ H c = some (.lst ws) ∧ bs.length ≤ 60 ∧ ws.length ≤ 600 ∧ (∀ x ∈ ws, Kid K H x) ∧
  ((bs.all bitB && ws.all kidB) = false → ∀ q H', Ex H H' → Dp K H' (.ref q) dBad → Q (.ref q) H') ∧ (∀ ks, (bs.all bitB && ws.all kidB) = true → PzL K H ws ks → ∀ q H', Ex H H' → Dp K H' (.ref q) (dGood ks) → Q (.ref q) H')
def spChain (K : PySem.W.Frag) : Sp := fun vs H Q _ => ∃ m : Nat, vs = [.int (m : Nat)] ∧ (1 ≤ m ∧ m ≤ 30) ∧ ∀ a d H', Ex H H' → Pz K H' a d → size d = m → deep d = m → Q (.ref a) H'
def spDue (K : PySem.W.Frag) : Sp := fun vs H Q _ => ∃ (b c : Addr) (bs : List Int) (ws : List V) (ks : List PyData) (bad : Bool), vs = [.ref b, .ref c, .bl bad] ∧ H b = some (.lst (bs.map V.int)) ∧ H c = some (.lst ws) ∧ PzL K H ws ks ∧ bs.length ≤ 60 ∧ ws.length ≤ 600 ∧ ∀ q H', Ex H H' → Dp K H' (.ref q) (if (bad || !bs.all bitB) = true then dBad else dGood ks) → Q (.ref q) H'
theorem dp_three {K : PySem.W.Frag} {H : Hp} {q : Addr} {z : Str} {a b : Bool} (h : SqT K H q [.str z, .bl a, .bl b]) : Dp K H (.ref q) (.tuple [.str z, .bool a, .bool b]) := .tup h (.cons (.str _) (.cons (.bl _) (.cons (.bl _) .nil)))


theorem pz_uniq {K : PySem.W.Frag} {H : Hp} {a : Addr} {d d' : PyData} (h : Pz K H a d) (h' : Pz K H a d') : d = d' := by
  have b1 := h.bd
  have b2 := h'.bd
  cases h with
  | mk e b h hb hc hk =>
    cases h' with
    | mk e' b' h' hb' hc' hk' =>
      rw [h] at h'
      simp only [Option.some.injEq, HO.ins.injEq, List.cons.injEq, Prod.mk.injEq, V.str.injEq] at h'
      exact spell_inj b1 b2 (by
        obtain ⟨_, _, h2⟩ := h'
        simp_all)
theorem PzL.uniq {K : PySem.W.Frag} {H : Hp} : ∀ {ws : List V} {ks ks' : List PyData}, PzL K H ws ks → PzL K H ws ks' → ks = ks'
  | _, _, _, .nil, .nil => rfl
  | _, _, _, .non r, .non r' => by rw [PzL.uniq r r']
  | _, _, _, .one h r, .one h' r' => by rw [pz_uniq h h', PzL.uniq r r']

section
variable {P : Program} {w : World} {K : PySem.W.Frag} {mg : Str → Option Value} {base : Heap}

theorem ok_law_told {fd : FuncData} (F : FnP K "_law_told" "_law_told" s_law_told (ga K "_law_told") fd) (T : T08 K w mg) (c_init : Cl P w K mg base (L2.CX P w) 3 (ma K (ga K "Puzzle") "__init__") ["self", "bits", "children"] (spInitX K)) : FnOk P w K mg base CX0 (4 + 1) (ga K "_law_told") fd ["_law_bits", "_law_kids"] (spTold K) := by
  obtain ⟨fd_init, G_init, b_init, kp_init⟩ := c_init
  refine FunD.ok F sc_law_told (fun vs H Q E h => ?_) (fun cdv A outer s H vs Q E hr h => ?_)
  · obtain ⟨b, c, bs, ws, rfl, _⟩ := h
    rfl
  · obtain ⟨b, c, bs, ws, rfl, hb, hc, lb, lw, hk, kb, kg⟩ := h
    have g_Puzzle := T.gl "Puzzle" (by decide +kernel)
    have g_BadPuzzle := T.gl "BadPuzzle" (by decide +kernel)
    have n_isinstance := T.fr "isinstance" (by decide +kernel)
    have g_TryError := T.gl "TryError" (by decide +kernel)
    have g_TooGreat := T.gl "TooGreat" (by decide +kernel)
    refine ⟨_, PSs.nox (pss_cons (ps_try_mas (l := [(.ref (ga K "BadPuzzle"), 4, _), (.ref (ga K "TooGreat"), 4, _)]) rfl rfl sc_law_told.nd takes_none5 (fun W pn xe tk _ => (pss_cons (ps_set (i := 2) sc_law_told.nd rfl (Or.inl rfl) (pe_mkS T.mp G_init (hr.mono (by decide)) (by rfl) g_Puzzle b_init (fun σ => passAt tk σ) (pa_cons (pv 0) (pa_cons (pv 1) pa_nil)))) (pss_one (ps_set (i := 3) sc_law_told.nd rfl (Or.inl rfl) (pe_tup (pa_cons pe_str (pa_cons (pe_fldc (K := K) rfl (pv 2) rfl) (pa_cons (pe_fldc (K := K) rfl (pv 2) rfl) pa_nil))))))))
      (HdsA.cons ⟨by rfl, by decide, .inl g_BadPuzzle⟩ rfl rfl (fun a oe cls d pn hz hf => (pss_one (ps_set (i := 3) sc_law_told.nd rfl (Or.inl rfl) (pe_tup (pa_cons pe_str (pa_cons (pe_callB (call_isS hz hf) (by rfl) n_isinstance (by decide +kernel) (pa_cons (pv 4) (pa_cons (pe_glob (v := .ref _) (by rfl) g_TryError rfl) pa_nil))) (pa_cons (pe_callB (call_isS hz hf) (by rfl) n_isinstance (by decide +kernel) (pa_cons (pv 4) (pa_cons (pe_glob (v := .ref _) (by rfl) g_TooGreat rfl) pa_nil))) pa_nil))))))) (HdsA.cons ⟨by rfl, by decide, .inl g_TooGreat⟩ rfl rfl (fun a oe cls d pn hz hf => (pss_one (ps_set (i := 3) sc_law_told.nd rfl (Or.inl rfl) (pe_tup (pa_cons pe_str (pa_cons (pe_callB (call_isS hz hf) (by rfl) n_isinstance (by decide +kernel) (pa_cons (pv 4) (pa_cons (pe_glob (v := .ref _) (by rfl) g_TryError rfl) pa_nil))) (pa_cons (pe_callB (call_isS hz hf) (by rfl) n_isinstance (by decide +kernel) (pa_cons (pv 4) (pa_cons (pe_glob (v := .ref _) (by rfl) g_BadPuzzle rfl) pa_nil))) pa_nil))))))) HdsA.nil)))
      (pss_one (ps_ret (pv 3)))), ?_⟩
    refine ⟨.ref b, rfl, .ref c, rfl, fun x dx hx hdx hne => ?_⟩
    have hx2 : upd H dx (.own x) x = none := (upd_ne (Ne.symm hne)).trans hx
    have e0 : Ex H (upd (upd H dx (.own x)) x (.ins (ga K "Puzzle") dx [])) := (Ex.new hdx).trans (Ex.new hx2)
    refine ⟨x, b, c, dx, bs, ws, rfl, upd_same, .inl (sq_of (e0 _ _ hb)), lb, .inl (sq_of (e0 _ _ hc)), lw, (fun y hy => (hk y hy).kp (Kp.of e0)), fun hbad H1 x1 => ?_, fun ks hgood hks => ⟨fun hgr H1 x1 => ?_, fun hgr H1 x1 hp => ?_⟩⟩
    · have e1 : Ex H H1 := Xa.new e0 hx x1
      refine ⟨true, T.m1, fun _ a ha => ?_, (fun z => nomatch z)⟩
      refine ⟨.ref a, rfl, _, .ref (ga K "TryError"), .ref (ga K "TryError"), true, rfl, rfl, T.bp.ec, (fun dd z => nomatch z), .own _, T.i1, ?_⟩
      refine ⟨.ref a, rfl, _, .ref (ga K "TooGreat"), .ref (ga K "TooGreat"), false, rfl, rfl, T.bp.ec, (fun dd z => nomatch z), .own _, T.i2, (show 3 ≤ sizeLine by decide), fun q hq => ⟨.ref q, rfl, kb hbad q _ (e1.trans (Ex.new hq)) (dp_three (st_of upd_same))⟩⟩
    · have e1 : Ex H H1 := Xa.new e0 hx x1
      obtain ⟨ks0, hk0⟩ := kids_pz hk (Bool.and_eq_true_iff.mp hgood).2
      have := PzL.uniq hks (hk0.kp (Kp.of e0))
      subst this
      obtain ⟨s1, s2⟩ := sizeL_short_eq ks
      refine ⟨false, T.m2, (fun z => nomatch z), fun _ => ⟨true, T.m3, fun _ a ha => ?_, (fun z => nomatch z)⟩⟩
      refine ⟨.ref a, rfl, _, .ref (ga K "TryError"), .ref (ga K "TryError"), true, rfl, rfl, T.tg.ec, (fun dd z => nomatch z), .own _, T.i3, ?_⟩
      refine ⟨.ref a, rfl, _, .ref (ga K "BadPuzzle"), .ref (ga K "BadPuzzle"), false, rfl, rfl, T.tg.ec, (fun dd z => nomatch z), .own _, T.i4, (show 3 ≤ sizeLine by decide), fun q hq => ⟨.ref q, rfl, kg ks hgood hk0 q _ (e1.trans (Ex.new hq)) ?_⟩⟩
      unfold dGood
      rw [if_pos (by rw [s1, s2] at hgr; exact hgr)]
      exact dp_three (st_of upd_same)
    · have e1 : Ex H H1 := Xa.new e0 hx x1
      obtain ⟨ks0, hk0⟩ := kids_pz hk (Bool.and_eq_true_iff.mp hgood).2
      have := PzL.uniq hks (hk0.kp (Kp.of e0))
      subst this
      obtain ⟨s1, s2⟩ := sizeL_short_eq ks
      have hp0 := hp
      cases hp0 with
      | @mk _ dx2 _ _ _ _ _ _ ed _ h _ _ _ =>
      refine ⟨rfl, ?_⟩
      refine ⟨.ref x, rfl, x, _, dx2, _, _, rfl, h, T.cp, T.np "size" (by decide +kernel), rfl, .ref x, rfl, x, _, dx2, _, _, rfl, h, T.cp, T.np "depth" (by decide +kernel), rfl, (show 3 ≤ sizeLine by decide), fun q hq => ⟨.ref q, rfl, kg ks hgood hk0 q _ (e1.trans (Ex.new hq)) ?_⟩⟩
      unfold dGood
      rw [if_neg (by rw [s1, s2] at hgr; exact hgr)]
      refine .tup (st_of upd_same) (.cons (.str _) (.cons ?_ (.cons ?_ .nil)))
      · rw [size_nd, s1]
        exact .int _
      · rw [deep_nd, s2]
        exact .int _

theorem ok_law_chain {fd : FuncData} (F : FnP K "_law_chain" "_law_chain" s_law_chain (ga K "_law_chain") fd) (T : T08 K w mg) (c_init : Cl P w K mg base CX0 3 (ma K (ga K "Puzzle") "__init__") ["self", "bits", "children"] (spInit K)) (hdef : ∃ (fd0 : FuncData) (e0 e1 : Addr) (ds : List Value), FnOk P w K mg base CX0 3 (ma K (ga K "Puzzle") "__init__") fd0 ["self", "bits", "children"] (spInit K) ∧ L2.Binds K fd0 ["self", "bits", "children"] ds ∧ Vals [V.ref e0, V.ref e1] ds ∧ (∀ H, SqT K H e0 []) ∧ ∀ H, SqT K H e1 []) : FnOk P w K mg base CX0 (8 + 1) (ga K "_law_chain") fd ["_law_many"] (spChain K) := by
  obtain ⟨fd_init, G_init, b_init, kp_init⟩ := c_init
  refine FunD.ok F sc_law_chain (fun vs H Q E h => ?_) (fun cdv A outer s H vs Q E hr h => ?_)
  · obtain ⟨m, rfl, _⟩ := h
    rfl
  · obtain ⟨m, rfl, ⟨m1, m2⟩, kk⟩ := h
    have g_Puzzle := T.gl "Puzzle" (by decide +kernel)
    have n_range := T.fr "range" (by decide +kernel)
    obtain ⟨fd_init0, e0, e1, ds0, G_init0, b_init0, v_init0, t0, t1⟩ := hdef
    refine ⟨_, PSs.nox (pss_cons (ps_set (i := 1) sc_law_chain.nd rfl (Or.inl rfl) (pe_make0 T.mp G_init0 (hr.mono (by omega)) (by rfl) g_Puzzle b_init0 v_init0 pass0))
      (pss_cons (ps_for PassesOwn.never rfl (pi_range1 (by rfl) n_range (pa_cons (pe_op op_sub (pv 0) pe_int) pa_nil)) (pg_name (i := 2) sc_law_chain.nd rfl (Or.inl rfl))
      (pss_one (ps_set (i := 1) sc_law_chain.nd rfl (Or.inl rfl) (pe_make T.mp G_init (hr.mono (by omega)) (by rfl) g_Puzzle b_init .nil pass0 (pa_cons (pe_lst (pa_cons pe_int pa_nil)) (pa_cons (pe_lst (pa_cons pe_non (pa_cons (pv 1) pa_nil))) pa_nil))))))
      (pss_one (ps_ret (pv 1))))), ?_⟩
    refine make_go (K := K) (bs := []) (ws := []) (ks := []) (.inr (t0 H)) (fun b hb => nomatch hb) (by decide) (.inr (t1 H)) .nil (by decide) ⟨by simp [sizeL], by simp [deepL]⟩ fun a0 H1 _ e1 p1 => ?_
    try dsimp only [gName, List.set]
    refine q_forR1 (n := ((m - 1 : Nat) : Int)) (ea_cons (ev_is (ev_op (ev_var rfl) ev_c (fun H6 e6 Q6 q6 => ⟨_, _, rfl, rfl, q6 H6 (Ex.refl _)⟩)) (by rw [show ((m - 1 : Nat) : Int) = (m : Int) - 1 by omega])) ea_nil) ⟨by omega, by omega⟩ (fun i σ' H' => ∃ a d v2, σ' = [some (.int (m : Nat)), some (.ref a), v2] ∧ Ex H H' ∧ Pz K H' a d ∧ size d = i + 1 ∧ deep d = i + 1) (fun H2 e2 => ⟨a0, _, _, rfl, e1.trans e2, p1.kp (Kp.of e2), by show size (nd [] []) = 1; rw [size_nd]; rfl, by show deep (nd [] []) = 1; rw [deep_nd]; rfl⟩) (fun i σ' H2 hi hI => ?_) (fun σ' H2 hI => ?_)
    · obtain ⟨a, d, v2, rfl, e2, hp, sd, dd⟩ := hI
      have hi2 : i < m - 1 := by omega
      try dsimp only [gName, List.set]
      refine ⟨(show 1 ≤ sizeLine by decide), fun l1 hl1 => ?_⟩
      have e3 := Ex.new (o := .lst [.int 1]) hl1
      refine ⟨.ref a, rfl, (show 2 ≤ sizeLine by decide), fun l2 hl2 => ?_⟩
      have e4 := e3.trans (Ex.new (o := .lst [.non, .ref a]) hl2)
      refine make_go (K := K) (bs := [1]) (ws := [.non, .ref a]) (ks := [.none, d]) (.inl (sq_of (Ex.new hl2 _ _ upd_same))) (fun b hb => .inr (List.mem_singleton.mp hb)) (by decide) (.inl (sq_of upd_same)) (.non (.one (hp.kp (Kp.of e4)) .nil)) (show 2 ≤ 600 by decide) ⟨by simp only [sizeL, size_non]; omega, by simp only [deepL, deep_non]; omega⟩ fun a2 H5 _ e5 p5 => ⟨a2, _, _, rfl, (e2.trans e4).trans e5, p5, ?_, ?_⟩
      · rw [size_nd, (sizeL_short_eq _).1]
        simp only [sizeL, size_non]
        omega
      · rw [deep_nd, (sizeL_short_eq _).2]
        simp only [deepL, deep_non]
        omega
    · obtain ⟨a, d, v2, rfl, e2, hp, sd, dd⟩ := hI
      exact s_ret (ev_var rfl) fun H3 e3 => kk a d H3 (e2.trans e3) (hp.kp (Kp.of e3)) (by omega) (by omega)

end
end K08
set_option Elab.async false
set_option linter.all false
set_option maxRecDepth 100000
set_option maxHeartbeats 8000000
namespace K08
open PySem PySem.Spec PyProof.Rows L2 He XH XV XR PEN TR XQ PZ Evl

open XO

theorem shp_ints (l : List Int) : SeqAt.shaped (.list (l.map PyData.int)) = true := by
  have k := depth_nums l
  unfold SeqAt.shaped
  rw [Bool.and_eq_true]
  refine ⟨by simp [PyData.canLay0, layNums], decide_eq_true ?_⟩
  simp only [PyData.depth]
  omega
theorem eqv_list0 (ks : List PyData) : PyData.eqv (.list ks) (.list []) = ks.isEmpty := by
  cases ks <;> rfl
theorem filt_all (bs : List Int) : ((bs.filter fun b => !bitB b).map PyData.int).isEmpty = bs.all bitB := by
  induction bs with
  | nil => rfl
  | cons b r ih =>
    rw [List.filter_cons, List.all_cons]
    cases q : bitB b with
    | true => simpa using ih
    | false => rfl
def spDue2 (K : PySem.W.Frag) : Sp := fun vs H Q _ => ∃ (b c : Addr) (bs : List Int) (ws : List V) (ks : List PyData) (bad : Bool), vs = [.ref b, .ref c, .bl bad] ∧ H b = some (.lst (bs.map V.int)) ∧ H c = some (.lst ws) ∧ PzL K H ws ks ∧ bs.length ≤ 60 ∧ ws.length ≤ 600 ∧ ∀ v H', Ex H H' → Dp K H' v (if (bad || !bs.all bitB) = true then dBad else dGood ks) → Q v H'

section
variable {P : Program} {w : World} {K : PySem.W.Frag} {mg : Str → Option Value} {base : Heap}

theorem ok_law_due {fd : FuncData} (F : FnP K "_law_due" "_law_due" s_law_due (ga K "_law_due") fd) (T : T08 K w mg) : FnOk P w K mg base CX0 (0 + 1) (ga K "_law_due") fd ["_law_bits", "_law_kids", "_law_bad"] (spDue2 K) := by
  refine FunD.ok F sc_law_due (fun vs H Q E h => ?_) (fun cdv A outer s H vs Q E hr h => ?_)
  · obtain ⟨b, c, bs, ws, ks, bad, rfl, _⟩ := h
    rfl
  · obtain ⟨b, c, bs, ws, ks, bad, rfl, hb, hc, hk, lb, lw, kk⟩ := h
    have n_sum := T.fr "sum" (by decide +kernel)
    have n_max := T.fr "max" (by decide +kernel)
    refine ⟨_, PSs.nox (pss_cons (ps_if (PW.pt (pw_or (pt_val (pv 2)) (pw_or1 (pt_cmpR (op_neD hr.units) (pe_lc (own := [("_law_bit", 5)]) (g := gName 5) (by rfl) sc_law_due.nd (pi_list (pv 0)) (blkOk_by (own := [("_law_bit", 5)]) (N := ["_law_bits", "_law_kids", "_law_bad", "_law_size", "_law_deep", "_law_bit", "_law_child"]) (sc := defScope s_law_due) (by decide +kernel)) (fun _ _ _ _ _ => (pg_name (i := 5) sc_law_due.nd rfl (Or.inl rfl))) (fun _ _ _ _ _ => (pts_one (pt_cmpR (op_notIn_seq : OpR _ _ (rIn K true)) (pv 5) (pe_tup (pa_cons pe_int (pa_cons pe_int pa_nil))) (by rfl)))) (fun _ _ _ _ _ => (pv 5))) (pe_lst pa_nil) (nomark _)))))
      (pss_one (ps_ret (pe_tup (pa_cons pe_str (pa_cons pe_bl (pa_cons pe_bl pa_nil))))))
      pss_nil)
      (pss_cons (ps_set (i := 3) sc_law_due.nd rfl (Or.inl rfl) (pe_op op_add pe_int (pe_callB (cr_sum rfl) (by rfl) n_sum (by decide +kernel) (pa_cons (pe_lc (own := [("_law_child", 6)]) (g := gName 6) (by rfl) sc_law_due.nd (pi_list (pv 1)) (blkOk_by (own := [("_law_child", 6)]) (N := ["_law_bits", "_law_kids", "_law_bad", "_law_size", "_law_deep", "_law_bit", "_law_child"]) (sc := defScope s_law_due) (by decide +kernel)) (fun _ _ _ _ _ => (pg_name (i := 6) sc_law_due.nd rfl (Or.inl rfl))) (fun _ _ _ _ _ => (pts_one (pt_cmpR op_notN (pv 6) pe_non (nomark _)))) (fun _ _ _ _ _ => (pe_fldc (K := K) rfl (pv 6) rfl))) pa_nil))))
      (pss_cons (ps_set (i := 4) sc_law_due.nd rfl (Or.inl rfl) (pe_op op_add pe_int (pe_callB (cr_max rfl) (by rfl) n_max (by decide +kernel) (pa_cons (pe_op op_cat (pe_lc (own := [("_law_child", 6)]) (g := gName 6) (by rfl) sc_law_due.nd (pi_list (pv 1)) (blkOk_by (own := [("_law_child", 6)]) (N := ["_law_bits", "_law_kids", "_law_bad", "_law_size", "_law_deep", "_law_bit", "_law_child"]) (sc := defScope s_law_due) (by decide +kernel)) (fun _ _ _ _ _ => (pg_name (i := 6) sc_law_due.nd rfl (Or.inl rfl))) (fun _ _ _ _ _ => (pts_one (pt_cmpR op_notN (pv 6) pe_non (nomark _)))) (fun _ _ _ _ _ => (pe_fldc (K := K) rfl (pv 6) rfl))) (pe_lst (pa_cons pe_int pa_nil))) pa_nil))))
      (pss_one (ps_ret (pe_ifExp (PW.pt (pw_or (pt_cmpR op_gt (pv 3) pe_int (nomark _)) (pw_or1 (pt_cmpR op_gt (pv 4) pe_int (nomark _))))) (pe_tup (pa_cons pe_str (pa_cons pe_bl (pa_cons pe_bl pa_nil)))) (pe_tup (pa_cons pe_str (pa_cons (pv 3) (pa_cons (pv 4) pa_nil)))))))))), ?_⟩
    have lwk := hk.len
    refine q_when (b := bad || !bs.all bitB) (et_or (et_B (ev_var rfl)) fun _ => et_is (et_test (ev_neD (d := .list ((bs.filter fun b => !bitB b).map PyData.int)) (e := .list []) (fun H1 e Q q => ?_) (fun H1 e Q q => ?_) (shp_ints _) (by rfl))) (by rw [eqv_list0, filt_all])) (fun hbad H1 e1 => ?_) (fun hgood H1 e1 => ?_)
    · refine ⟨.ref b, rfl, b, rfl, ⟨_, sq_of (e _ _ hb)⟩, fun D hD => ?_⟩
      refine lc_list (xs := bs.map V.int) (fun i H' => Ex H1 H' ∧ H' D = some (.lst (((bs.take i).filter fun b => !bitB b).map V.int))) ⟨Ex.new hD, upd_same⟩ (fun i H' _ hI => sq_of ((e.trans hI.1) _ _ hb)) (fun i x H' hx hI => ?_) (fun H' hI => ?_)
      · obtain ⟨k1, k2⟩ := hI
        rw [List.getElem?_map] at hx
        cases q1 : bs[i]? with
        | none =>
          rw [q1] at hx
          cases hx
        | some b1 =>
          rw [q1] at hx
          cases hx
          have hi := (List.getElem?_eq_some_iff.mp q1).1
          have lf : ((bs.take i).filter fun b => !bitB b).length ≤ i := Nat.le_trans (List.length_filter_le ..) (by rw [List.length_take]; omega)
          refine ⟨rfl, go_test (b := !bitB b1) (et_test (ev_niU (ev_var rfl) (eu_tup (ea_cons ev_c (ea_cons ev_c ea_nil)) (by decide)) rfl rfl)) fun H9 e9 => ?_⟩
          rw [filt_more _ q1]
          refine ite2 (fun hq => ?_) (fun hq => ?_)
          · refine ⟨.int b1, rfl, _, e9 _ _ k2, ?_, (k1.trans e9).mut hD, ?_⟩
            · rw [List.length_map]
              exact small1000 (by omega)
            · rw [upd_same, if_pos hq, List.map_append]
              rfl
          · refine ⟨k1.trans e9, ?_⟩
            rw [if_neg hq, List.append_nil]
            exact e9 _ _ k2
      · obtain ⟨k1, k2⟩ := hI
        rw [take_all (by rw [List.length_map]; exact Nat.le_refl _)] at k2
        exact q (.ref D) H' k1 (.lst (sq_of k2) (dp_nums _))
    · exact ⟨(show 0 ≤ sizeLine by decide), fun l hl => q (.ref l) _ (Ex.new hl) (.lst (sq_of upd_same) .nil)⟩
    · refine s_retD (K := K) (d := dBad) (ed_tup (eds_cons ed_str (eds_cons (ed_of ev_c (.bl _)) (eds_cons (ed_of ev_c (.bl _)) eds_nil))) (show 3 ≤ 1000 by decide)) fun v H2 e2 dv => kk v H2 (e1.trans e2) ?_
      rw [if_pos hbad]
      exact dv
    have hk1 := hk.kp (Kp.of e1)
    have gc1 := e1 _ _ hc
    refine ⟨.ref c, rfl, c, rfl, ⟨_, sq_of gc1⟩, fun D hD => ?_⟩
    refine lc_list (xs := ws) (fun i H' => Ex H1 H' ∧ H' D = some (.lst (((((ks.take i).filter fun k => !isN k).map size).map fun n : Nat => (n : Int)).map V.int))) ⟨Ex.new hD, upd_same⟩ (fun i H' _ hI => sq_of (hI.1 _ _ gc1)) (fun i x H' hx hI => ?_) (fun H2 hI => ?_)
    · obtain ⟨k1, k2⟩ := hI
      obtain ⟨d, hd1, cas⟩ := (hk1.kp (Kp.of k1)).at hx
      have hi := (List.getElem?_eq_some_iff.mp hd1).1
      have lf : ((ks.take i).filter fun k => !isN k).length ≤ i := Nat.le_trans (List.length_filter_le ..) (by rw [List.length_take]; omega)
      have en : decide (x = .non) = isN d := by
        rcases cas with ⟨rfl, rfl⟩ | ⟨c2, rfl, hp⟩
        · rfl
        · rw [hp.bd.notN]
          exact decide_eq_false fun e => nomatch e
      refine ⟨rfl, go_test (b := !decide (x = .non)) (et_test (ev_op (ev_var rfl) ev_c rv_notNo)) fun H9 e9 => ?_⟩
      rw [filt_more _ hd1, en]
      refine ite2 (fun hq => ?_) (fun hq => ?_)
      · rcases cas with ⟨rfl, rfl⟩ | ⟨c2, rfl, hp⟩
        · cases hq
        · have hp9 := hp.kp (Kp.of e9)
          cases hp9 with
          | mk e' b' h' hb' hc' hk' =>
          refine ⟨.ref c2, rfl, c2, _, _, _, _, rfl, h', T.cp, T.np "size" (by decide +kernel), rfl, _, e9 _ _ k2, ?_, (k1.trans e9).mut hD, ?_⟩
          · rw [List.length_map, List.length_map, List.length_map]
            exact small1000 (by omega)
          · rw [upd_same, if_pos hq, List.map_append, List.map_append, List.map_append]
            rfl
      · refine ⟨k1.trans e9, ?_⟩
        rw [if_neg hq, List.append_nil]
        exact e9 _ _ k2
    obtain ⟨k1, k2⟩ := hI
    rw [take_all (show ks.length ≤ ws.length by omega)] at k2
    refine ⟨D, _, rfl, sq_of k2, 1, _, rfl, rfl, ?_⟩
    have es : (1 : Int) + ((((ks.filter fun k => !isN k).map size).map fun n : Nat => (n : Int))).sum = ((1 + sizeL ks : Nat) : Int) := by
      rw [int_sum, size_nodes]
      omega
    dsimp only
    rw [es]
    have e2 := e1.trans k1
    have hk2 := hk.kp (Kp.of e2)
    have gc2 := e2 _ _ hc
    clear hk1 gc1 hD k2
    try dsimp only [gName, List.set]
    refine ⟨.ref c, rfl, c, rfl, ⟨_, sq_of gc2⟩, fun D hD => ?_⟩
    refine lc_list (xs := ws) (fun i H' => Ex H2 H' ∧ H' D = some (.lst (((((ks.take i).filter fun k => !isN k).map deep).map fun n : Nat => (n : Int)).map V.int))) ⟨Ex.new hD, upd_same⟩ (fun i H' _ hI => sq_of (hI.1 _ _ gc2)) (fun i x H' hx hI => ?_) (fun H3 hI => ?_)
    · obtain ⟨k1, k2⟩ := hI
      obtain ⟨d, hd1, cas⟩ := (hk2.kp (Kp.of k1)).at hx
      have hi := (List.getElem?_eq_some_iff.mp hd1).1
      have lf : ((ks.take i).filter fun k => !isN k).length ≤ i := Nat.le_trans (List.length_filter_le ..) (by rw [List.length_take]; omega)
      have en : decide (x = .non) = isN d := by
        rcases cas with ⟨rfl, rfl⟩ | ⟨c2, rfl, hp⟩
        · rfl
        · rw [hp.bd.notN]
          exact decide_eq_false fun e => nomatch e
      refine ⟨rfl, go_test (b := !decide (x = .non)) (et_test (ev_op (ev_var rfl) ev_c rv_notNo)) fun H9 e9 => ?_⟩
      rw [filt_more _ hd1, en]
      refine ite2 (fun hq => ?_) (fun hq => ?_)
      · rcases cas with ⟨rfl, rfl⟩ | ⟨c2, rfl, hp⟩
        · cases hq
        · have hp9 := hp.kp (Kp.of e9)
          cases hp9 with
          | mk e' b' h' hb' hc' hk' =>
          refine ⟨.ref c2, rfl, c2, _, _, _, _, rfl, h', T.cp, T.np "depth" (by decide +kernel), rfl, _, e9 _ _ k2, ?_, (k1.trans e9).mut hD, ?_⟩
          · rw [List.length_map, List.length_map, List.length_map]
            exact small1000 (by omega)
          · rw [upd_same, if_pos hq, List.map_append, List.map_append, List.map_append]
            rfl
      · refine ⟨k1.trans e9, ?_⟩
        rw [if_neg hq, List.append_nil]
        exact e9 _ _ k2
    obtain ⟨k1', k2⟩ := hI
    rw [take_all (show ks.length ≤ ws.length by omega)] at k2
    have lf : (ks.filter fun k => !isN k).length ≤ ks.length := List.length_filter_le ..
    refine ⟨(show 1 ≤ sizeLine by decide), fun z hz => ?_⟩
    have e3 := Ex.new (o := .lst [.int 0]) hz
    refine ⟨D, z, _, _, rfl, rfl, e3 _ _ k2, upd_same, fits (by rw [List.length_map, List.length_map, List.length_map]; show _ + 1 ≤ 1000; omega), fun r hr => ?_⟩
    have e4 := e3.trans (Ex.new (o := .lst (((((ks.filter fun k => !isN k).map deep).map fun n : Nat => (n : Int)).map V.int) ++ [.int 0])) hr)
    refine ⟨r, (((ks.filter fun k => !isN k).map deep).map fun n : Nat => (n : Int)) ++ [0], rfl, sq_of (by rw [upd_same, List.map_append]; rfl), by rw [List.length_append]; simp, fun m hm hmax => ⟨1, m, rfl, rfl, ?_⟩⟩
    have em : m = (deepL ks : Nat) := by
      have up : m ≤ (deepL ks : Nat) := by
        rcases List.mem_append.mp hm with h | h
        · obtain ⟨j, hj, rfl⟩ := List.mem_map.mp h
          obtain ⟨k, hk, rfl⟩ := List.mem_map.mp hj
          have := deepL_at (List.mem_filter.mp hk).1
          omega
        · rw [List.mem_singleton.mp h]
          omega
      have low : ((deepL ks : Nat) : Int) ≤ m := by
        rcases deepL_mem ks with e | ⟨k, hk, e⟩
        · rw [e]
          exact hmax 0 (List.mem_append_right _ (List.mem_singleton.mpr rfl))
        · cases hn : isN k with
          | true =>
            have e0 : k = .none := by
              cases k <;> first | rfl | cases hn
            rw [e0, deep_non] at e
            rw [← e]
            exact hmax 0 (List.mem_append_right _ (List.mem_singleton.mpr rfl))
          | false =>
            rw [← e]
            exact hmax _ (List.mem_append_left _ (List.mem_map.mpr ⟨deep k, List.mem_map.mpr ⟨k, List.mem_filter.mpr ⟨hk, by rw [hn]; rfl⟩, rfl⟩, rfl⟩))
      omega
    have e5 := (e2.trans k1').trans e4
    dsimp only
    rw [em, show (1 : Int) + ((deepL ks : Nat) : Int) = ((1 + deepL ks : Nat) : Int) by omega]
    generalize upd (upd H3 z (.lst [.int 0])) r (.lst (((((ks.filter fun k => !isN k).map deep).map fun n : Nat => (n : Int)).map V.int) ++ [.int 0])) = H5 at e5
    try dsimp only [gName, List.set]
    have KEY : (if (bad || !bs.all bitB) = true then dBad else dGood ks) = dGood ks := by rw [if_neg (by rw [hgood]; exact Bool.false_ne_true)]
    refine s_retD (K := K) (d := dGood ks) (ed_if (b := decide ((500 : Int) < ((1 + sizeL ks : Nat) : Int)) || decide ((30 : Int) < ((1 + deepL ks : Nat) : Int))) (et_or (et_test (ev_op (ev_var rfl) ev_c rv_I0)) fun _ => et_test (ev_op (ev_var rfl) ev_c rv_I0)) (fun hb => ?_) (fun hb => ?_)) fun v H6 e6 dv => kk v H6 (e5.trans e6) (by rw [KEY]; exact dv)
    · rw [Bool.or_eq_true, decide_eq_true_eq, decide_eq_true_eq] at hb
      unfold dGood
      rw [if_pos (by omega)]
      exact ed_tup (eds_cons ed_str (eds_cons (ed_of ev_c (.bl _)) (eds_cons (ed_of ev_c (.bl _)) eds_nil))) (show 3 ≤ 1000 by decide)
    · rw [Bool.or_eq_false_iff, decide_eq_false_iff_not, decide_eq_false_iff_not] at hb
      unfold dGood
      rw [if_neg (by omega)]
      exact ed_tup (eds_cons ed_str (eds_cons (ed_var rfl (.int _)) (eds_cons (ed_var rfl (.int _)) eds_nil))) (show 3 ≤ 1000 by decide)

end
end K08
set_option Elab.async false
set_option linter.all false
set_option maxRecDepth 100000
set_option maxHeartbeats 8000000
namespace K08
open PySem PySem.Spec PyProof.Rows L2 He XH XV XR PEN TR XQ PZ Evl

open XO
section

structure St8 (K : PySem.W.Frag) (p l lf wd B KD : Addr) (bs : List Int) (ws : List V) (dl dw : PyData) (n : Nat) (H : Hp) : Prop where
  b : H B = some (.lst (bs.map V.int))
  k : H KD = some (.lst ws)
  kid : ∀ x ∈ ws, Kid K H x
  lf : Pz K H lf dl
  wd : Pz K H wd dw
  pen : Pen p l n H
  nb : B ≠ p ∧ B ≠ l
  nk : KD ≠ p ∧ KD ≠ l
  ne : B ≠ KD
variable {K : PySem.W.Frag} {p l lf wd B KD : Addr} {bs : List Int} {ws : List V} {dl dw : PyData} {n m : Nat} {H H' : Hp}
theorem St8.ex (s : St8 K p l lf wd B KD bs ws dl dw n H) (e : Ex H H') : St8 K p l lf wd B KD bs ws dl dw n H' := ⟨e _ _ s.b, e _ _ s.k, fun x hx => (s.kid x hx).kp (Kp.of e), s.lf.kp (Kp.of e), s.wd.kp (Kp.of e), s.pen.ex e, s.nb, s.nk, s.ne⟩
theorem St8.px (s : St8 K p l lf wd B KD bs ws dl dw n H) (e : Px p l H H') (pen : Pen p l m H') : St8 K p l lf wd B KD bs ws dl dw m H' := ⟨e.get s.nb.1 s.nb.2 s.b, e.get s.nk.1 s.nk.2 s.k, fun x hx => (s.kid x hx).kp (Kp.px s.pen e), s.lf.kp (Kp.px s.pen e), s.wd.kp (Kp.px s.pen e), pen, s.nb, s.nk, s.ne⟩
theorem St8.less (s : St8 K p l lf wd B KD bs ws dl dw n H) (h : m ≤ n) : St8 K p l lf wd B KD bs ws dl dw m H := ⟨s.b, s.k, s.kid, s.lf, s.wd, s.pen.less h, s.nb, s.nk, s.ne⟩
theorem pz_kid {ks : List PyData} (h : PzL K H ws ks) : ∀ x ∈ ws, Kid K H x := fun x hx => by
  obtain ⟨i, hi⟩ := List.mem_iff_getElem?.mp hx
  obtain ⟨d, _, cas⟩ := h.at hi
  rcases cas with ⟨e, _⟩ | ⟨c, e, hp⟩
  · exact .inl e
  · exact .inr (.inl ⟨c, d, e, hp⟩)
theorem St8.kids {ws' : List V} {KD' : Addr} (s : St8 K p l lf wd B KD bs ws dl dw n H) (e : Ex H H') (hn : H KD' = none) (g : H' KD' = some (.lst ws')) (hk : ∀ x ∈ ws', Kid K H' x) : St8 K p l lf wd B KD' bs ws' dl dw n H' := by
  have s' := s.ex e
  exact ⟨s'.b, g, hk, s'.lf, s'.wd, s'.pen, s.nb, s.pen.new hn, ne_of_none s.b hn⟩
theorem St8.setK {ws' : List V} (s : St8 K p l lf wd B KD bs ws dl dw n H) (hk : ∀ x ∈ ws', Kid K H x) : St8 K p l lf wd B KD bs ws' dl dw n (upd H KD (.lst ws')) := by
  have kL := Kp.lst (o := .lst ws') s.k
  exact ⟨(upd_ne s.ne).trans s.b, upd_same, fun x hx => (hk x hx).kp kL, s.lf.kp kL, s.wd.kp kL, s.pen.upd s.nk.1 s.nk.2, s.nb, s.nk, s.ne⟩
theorem St8.setB {bs' : List Int} (s : St8 K p l lf wd B KD bs ws dl dw n H) : St8 K p l lf wd B KD bs' ws dl dw n (upd H B (.lst (bs'.map V.int))) := by
  have kL := Kp.lst (o := .lst (bs'.map V.int)) s.b
  exact ⟨upd_same, (upd_ne (Ne.symm s.ne)).trans s.k, fun x hx => (s.kid x hx).kp kL, s.lf.kp kL, s.wd.kp kL, s.pen.upd s.nb.1 s.nb.2, s.nb, s.nk, s.ne⟩
theorem PzL.ref_rep {a : Addr} {d : PyData} (h : Pz K H a d) (n : Nat) : PzL K H (List.replicate n (.ref a)) (List.replicate n d) := by
  induction n with
  | zero => exact .nil
  | succ n ih => exact .one h ih
theorem sizeL_repd (d : PyData) (n : Nat) : sizeL (List.replicate n d) = n * size d ∧ deepL (List.replicate n d) ≤ deep d := by
  induction n with
  | zero => simp [sizeL, deepL]
  | succ n ih =>
    rw [List.replicate_succ]
    simp only [sizeL, deepL]
    rw [Nat.succ_mul]
    omega

end
end K08
set_option Elab.async false
set_option linter.all false
set_option maxRecDepth 100000
set_option maxHeartbeats 8000000
namespace K08
open PySem PySem.Spec PyProof.Rows L2 He XH XV XR PEN TR XQ PZ Evl

open XO

theorem shp_due (c : Bool) (ks : List PyData) : SeqAt.shaped (if c = true then dBad else dGood ks) = true := by
  have a1 : SeqAt.shaped dBad = true := by decide +kernel
  have a2 : SeqAt.shaped dGreat = true := by decide +kernel
  have a3 : ∀ s d, SeqAt.shaped (dMade s d) = true := fun s d => by
    have : PyData.strOk "made" = true := by decide +kernel
    simp [SeqAt.shaped, dMade, PyData.canLay0, PyData.canLayAll0, PyData.depth, PyData.depthAll, this]
  unfold dGood
  split
  · exact a1
  · split
    · exact a2
    · exact a3 _ _
theorem tup_due (c : Bool) (ks : List PyData) : tupD (if c = true then dBad else dGood ks) = true := by
  unfold dGood
  split
  · rfl
  · split <;> rfl

end K08
set_option Elab.async false
set_option linter.all false
set_option maxRecDepth 100000
set_option maxHeartbeats 8000000
namespace K08
open PySem PySem.Spec PyProof.Rows L2 He XH XV XR PEN TR XQ PZ Evl

open XO

theorem kids_all {K : PySem.W.Frag} {H : Hp} : ∀ {ws : List V} {ks : List PyData}, PzL K H ws ks → ws.all kidB = true
  | _, _, .nil => rfl
  | _, _, .non r => by
    rw [List.all_cons, kids_all r]
    rfl
  | _, _, .one h r => by
    rw [List.all_cons, kids_all r]
    rfl

section
variable {P : Program} {w : World} {K : PySem.W.Frag} {mg : Str → Option Value} {base : Heap}

theorem ok_law {fd : FuncData} (F : FnP K "law" "law" s_law (ga K "law") fd) (T : T08 K w mg) (c_init : Cl P w K mg base CX0 3 (ma K (ga K "Puzzle") "__init__") ["self", "bits", "children"] (spInit K)) (c_law_draw : Cl P w K mg base CX0 1 (ga K "_law_draw") ["_law_pen", "_law_many"] spDraw) (c_law_pick : Cl P w K mg base CX0 2 (ga K "_law_pick") ["_law_pen", "_law_row"] (spPick K)) (c_law_told : Cl P w K mg base CX0 5 (ga K "_law_told") ["_law_bits", "_law_kids"] (spTold K)) (c_law_chain : Cl P w K mg base CX0 9 (ga K "_law_chain") ["_law_many"] (spChain K)) (c_law_due : Cl P w K mg base CX0 1 (ga K "_law_due") ["_law_bits", "_law_kids", "_law_bad"] (spDue2 K)) (hdef1 : ∃ (fd1 : FuncData) (e1 : Addr) (ds1 : List Value), FnOk P w K mg base CX0 3 (ma K (ga K "Puzzle") "__init__") fd1 ["self", "bits", "children"] (spInit K) ∧ L2.Binds K fd1 ["self", "bits", "children"] ds1 ∧ Vals [V.ref e1] ds1 ∧ ∀ H, SqT K H e1 []) : FnOk P w K mg base CX0 (12 + 1) (ga K "law") fd ["_law_script"] (spLaw K) := by
  obtain ⟨fd_init, G_init, b_init, kp_init⟩ := c_init
  obtain ⟨fd_law_draw, G_law_draw, b_law_draw, kp_law_draw⟩ := c_law_draw
  obtain ⟨fd_law_pick, G_law_pick, b_law_pick, kp_law_pick⟩ := c_law_pick
  obtain ⟨fd_law_told, G_law_told, b_law_told, kp_law_told⟩ := c_law_told
  obtain ⟨fd_law_chain, G_law_chain, b_law_chain, kp_law_chain⟩ := c_law_chain
  obtain ⟨fd_law_due, G_law_due, b_law_due, kp_law_due⟩ := c_law_due
  refine FunD.ok F sc_law (fun vs H Q E h => ?_) (fun cdv A outer s H vs Q E hr h => ?_)
  · obtain ⟨a, ns, rfl, _⟩ := h
    rfl
  · obtain ⟨a, ns, rfl, hS, hl, kk⟩ := h
    have n_list := T.fr "list" (by decide +kernel)
    have g_Puzzle := T.gl "Puzzle" (by decide +kernel)
    have g_law_draw := T.gl "_law_draw" (by decide +kernel)
    have n_range := T.fr "range" (by decide +kernel)
    have g_law_pick := T.gl "_law_pick" (by decide +kernel)
    have g_law_chain := T.gl "_law_chain" (by decide +kernel)
    have n_len := T.fr "len" (by decide +kernel)
    have g_law_due := T.gl "_law_due" (by decide +kernel)
    have g_law_told := T.gl "_law_told" (by decide +kernel)
    obtain ⟨fd_init1, e1, ds1, G_init1, b_init1, v_init1, t1⟩ := hdef1
    refine ⟨_, PSs.nox (pss_cut (ps_set (i := 1) sc_law.nd rfl (Or.inr rfl) (pe_lst (pa_cons (pe_orT (pe_callTy call_list_of (by rfl) n_list (by decide +kernel) (pa_cons (pv 0) pa_nil)) (pe_one (pe_lst (pa_cons pe_int pa_nil)))) (pa_cons pe_int pa_nil))))
      (pss_cons (ps_set (i := 2) sc_law.nd rfl (Or.inr rfl) (pe_make T.mp G_init1 (hr.mono (by omega)) (by rfl) g_Puzzle b_init1 v_init1 pass0 (pa_cons (pe_lst (pa_cons pe_int (pa_cons pe_int pa_nil))) pa_nil)))
      (pss_cons (ps_set (i := 3) sc_law.nd rfl (Or.inl rfl) (pe_make T.mp G_init (hr.mono (by omega)) (by rfl) g_Puzzle b_init .nil pass0 (pa_cons (pe_lst pa_nil) (pa_cons (pe_op op_rep (pe_lst (pa_cons (pv 2) pa_nil)) (pe_op op_add pe_int (pe_call G_law_draw (hr.mono (by decide)) (by rfl) g_law_draw kp_law_draw b_law_draw .nil pass0 (pa_cons (pv 1) (pa_cons pe_int pa_nil))))) pa_nil))))
      (pss_cons (ps_for PassesOwn.never rfl (pi_range1 (by rfl) n_range (pa_cons pe_int pa_nil)) (pg_name (i := 4) sc_law.nd rfl (Or.inl rfl))
      (pss_cons (ps_setLc (i := 5) (own := [("_law_k", 10)]) (g := gName 10) (by rfl) sc_law.nd rfl rfl (sw_true rfl rfl rfl (by decide +kernel)) (pi_range1 (by rfl) n_range (pa_cons (pe_call G_law_draw (hr.mono (by decide)) (by rfl) g_law_draw kp_law_draw b_law_draw .nil pass0 (pa_cons (pv 1) (pa_cons pe_int pa_nil))) pa_nil)) (blkOk_by (own := [("_law_k", 10)]) (N := ["_law_script", "_law_pen", "_law_leaf", "_law_wide", "_law_turn", "_law_bits", "_law_kids", "_law_kind", "_law_bad", "_law_due_here", "_law_k"]) (sc := defScope s_law) (by decide +kernel)) (fun _ _ _ _ _ => (pg_name (i := 10) sc_law.nd rfl (Or.inl rfl))) (fun _ _ _ _ _ => pts_nil) (fun _ _ _ _ _ => (pe_call G_law_draw (hr.mono (by decide)) (by rfl) g_law_draw kp_law_draw b_law_draw .nil pass0 (pa_cons (pv 1) (pa_cons pe_int pa_nil)))))
      (pss_cons (ps_setLc (i := 6) (own := [("_law_k", 10)]) (g := gName 10) (by rfl) sc_law.nd rfl rfl (sw_true rfl rfl rfl (by decide +kernel)) (pi_range1 (by rfl) n_range (pa_cons (pe_call G_law_draw (hr.mono (by decide)) (by rfl) g_law_draw kp_law_draw b_law_draw .nil pass0 (pa_cons (pv 1) (pa_cons pe_int pa_nil))) pa_nil)) (blkOk_by (own := [("_law_k", 10)]) (N := ["_law_script", "_law_pen", "_law_leaf", "_law_wide", "_law_turn", "_law_bits", "_law_kids", "_law_kind", "_law_bad", "_law_due_here", "_law_k"]) (sc := defScope s_law) (by decide +kernel)) (fun _ _ _ _ _ => (pg_name (i := 10) sc_law.nd rfl (Or.inl rfl))) (fun _ _ _ _ _ => pts_nil) (fun _ _ _ _ _ => (pe_call G_law_pick (hr.mono (by decide)) (by rfl) g_law_pick kp_law_pick b_law_pick .nil pass0 (pa_cons (pv 1) (pa_cons (pe_lst (pa_cons (pv 2) (pa_cons pe_non pa_nil))) pa_nil)))))
      (pss_cons (ps_set (i := 7) sc_law.nd rfl (Or.inl rfl) (pe_call G_law_draw (hr.mono (by decide)) (by rfl) g_law_draw kp_law_draw b_law_draw .nil pass0 (pa_cons (pv 1) (pa_cons pe_int pa_nil))))
      (pss_cut (ps_if (pt_cmpR op_eq (pv 7) pe_int (nomark _))
      (pss_one (ps_set (i := 6) sc_law.nd rfl (Or.inl rfl) (pe_op op_cat (pe_op op_rep (pe_lst (pa_cons (pv 2) pa_nil)) (pe_op op_add pe_int (pe_call G_law_draw (hr.mono (by decide)) (by rfl) g_law_draw kp_law_draw b_law_draw .nil pass0 (pa_cons (pv 1) (pa_cons pe_int pa_nil))))) (pe_lst (pa_cons pe_non pa_nil)))))
      pss_nil)
      (pss_cut (ps_if (pt_cmpR op_eq (pv 7) pe_int (nomark _))
      (pss_one (ps_set (i := 6) sc_law.nd rfl (Or.inl rfl) (pe_op op_cat (pv 6) (pe_lst (pa_cons (pe_call G_law_chain (hr.mono (by decide)) (by rfl) g_law_chain kp_law_chain b_law_chain .nil pass0 (pa_cons (pe_op op_add pe_int (pe_call G_law_draw (hr.mono (by decide)) (by rfl) g_law_draw kp_law_draw b_law_draw .nil pass0 (pa_cons (pv 1) (pa_cons pe_int pa_nil)))) pa_nil)) pa_nil)))))
      pss_nil)
      (pss_cut (ps_if (pt_cmpR op_eq (pv 7) pe_int (nomark _))
      (pss_one (ps_set (i := 6) sc_law.nd rfl (Or.inl rfl) (pe_op op_cat (pv 6) (pe_lst (pa_cons (pv 3) (pa_cons (pv 3) (pa_cons (pv 3) (pa_cons (pe_make T.mp G_init (hr.mono (by omega)) (by rfl) g_Puzzle b_init .nil pass0 (pa_cons (pe_lst pa_nil) (pa_cons (pe_op op_rep (pe_lst (pa_cons (pv 2) pa_nil)) (pe_op op_add pe_int (pe_call G_law_draw (hr.mono (by decide)) (by rfl) g_law_draw kp_law_draw b_law_draw .nil pass0 (pa_cons (pv 1) (pa_cons pe_int pa_nil))))) pa_nil))) pa_nil))))))))
      pss_nil)
      (pss_cut (ps_if (pt_cmpR op_eq (pe_call G_law_draw (hr.mono (by decide)) (by rfl) g_law_draw kp_law_draw b_law_draw .nil pass0 (pa_cons (pv 1) (pa_cons pe_int pa_nil))) pe_int (nomark _))
      (pss_one (ps_expr (pe_bm PySem.F.plainAttrs_list PySem.F.slot_list_insert PySem.F.type_list_insert mt_insert (pv 5) (pa_cons (pe_call G_law_draw (hr.mono (by decide)) (by rfl) g_law_draw kp_law_draw b_law_draw .nil pass0 (pa_cons (pv 1) (pa_cons (pe_op op_add (pe_callB call_len_seq (by rfl) n_len (by decide +kernel) (pa_cons (pv 5) pa_nil)) pe_int) pa_nil))) (pa_cons (pe_call G_law_pick (hr.mono (by decide)) (by rfl) g_law_pick kp_law_pick b_law_pick .nil pass0 (pa_cons (pv 1) (pa_cons (pe_lst (pa_cons pe_int (pa_cons (pe_un un_neg pe_int) (pa_cons pe_int (pa_cons pe_int (pa_cons (pe_op op_pow pe_int pe_int) pa_nil)))))) pa_nil))) pa_nil)))))
      pss_nil)
      (pss_cons (ps_set (i := 8) sc_law.nd rfl (Or.inl rfl) (pe_cmpR op_eq (pe_call G_law_draw (hr.mono (by decide)) (by rfl) g_law_draw kp_law_draw b_law_draw .nil pass0 (pa_cons (pv 1) (pa_cons pe_int pa_nil))) pe_int (nomark _)))
      (pss_cons (ps_set (i := 9) sc_law.nd rfl (Or.inl rfl) (pe_call G_law_due (hr.mono (by decide)) (by rfl) g_law_due kp_law_due b_law_due .nil pass0 (pa_cons (pv 5) (pa_cons (pv 6) (pa_cons (pv 8) pa_nil)))))
      (pss_cut (ps_if (pt_val (pv 8))
      (pss_one (ps_expr (pe_bm PySem.F.plainAttrs_list PySem.F.slot_list_insert PySem.F.type_list_insert mt_insert (pv 6) (pa_cons (pe_call G_law_draw (hr.mono (by decide)) (by rfl) g_law_draw kp_law_draw b_law_draw .nil pass0 (pa_cons (pv 1) (pa_cons (pe_op op_add (pe_callB call_len_seq (by rfl) n_len (by decide +kernel) (pa_cons (pv 6) pa_nil)) pe_int) pa_nil))) (pa_cons (pe_call G_law_pick (hr.mono (by decide)) (by rfl) g_law_pick kp_law_pick b_law_pick .nil pass0 (pa_cons (pv 1) (pa_cons (pe_lst (pa_cons pe_str (pa_cons pe_str (pa_cons pe_str pa_nil)))) pa_nil))) pa_nil)))))
      pss_nil)
      (pss_one (ps_if (pt_cmpR (op_neD hr.units) (pe_call G_law_told (hr.mono (by decide)) (by rfl) g_law_told kp_law_told b_law_told .nil pass0 (pa_cons (pv 5) (pa_cons (pv 6) pa_nil))) (pv 9) (nomark _))
      (pss_one (ps_ret pe_bl))
      pss_nil)))))))))))))
      (pss_one (ps_ret pe_bl)))))), ?_⟩
    refine q_cut (M := fun σ' H' => ∃ p l, σ' = [some (.ref a), some (.ref p), none, none, none, none, none, none, none, none, none] ∧ Pen p l 40000 H') ?_ fun σ1 H1 hM => ?_
    · refine ⟨.ref a, rfl, a, _, rfl, .inl hS, fun l0 hl0 => ⟨!ns.isEmpty, (show TruV K (.ref l0) _ _ from Or.inl ⟨ns.map V.int, sq_of upd_same, by cases ns <;> rfl⟩), ite2 (fun hn => ?_) (fun hn => ?_)⟩⟩
      · refine ⟨fits (show 2 ≤ 1000 by decide), fun p hp => ⟨p, l0, rfl, 0, ns, upd_same, Ex.new hp _ _ upd_same, ?_, by decide, by decide⟩⟩
        rintro rfl
        cases hn
      · refine ⟨fits (show 1 ≤ 1000 by decide), fun l1 hl1 => ⟨fits (show 2 ≤ 1000 by decide), fun p hp => ⟨p, l1, rfl, 0, [0], upd_same, Ex.new hp _ _ upd_same, by simp, by decide, by decide⟩⟩⟩
    obtain ⟨p, l, rfl, pen0⟩ := hM
    -- a leaf
    refine ⟨(show 2 ≤ sizeLine by decide), fun l0 hl0 => make_go (K := K) (bs := [0, 1]) (ws := []) (ks := []) (.inl (sq_of upd_same)) (fun b hb => ?_) (by decide) (.inr (t1 _)) .nil (by decide) ⟨by simp [sizeL], by simp [deepL]⟩ fun lf H2 _ e2 plf => ?_⟩
    · rcases List.mem_cons.mp hb with h | h
      · exact .inl h
      · exact .inr (List.mem_singleton.mp h)
    have pen2 := pen0.ex ((Ex.new hl0).trans e2)
    have sdl : size (nd (short isZ [0, 1]) (short isN [])) = 1 ∧ deep (nd (short isZ [0, 1]) (short isN [])) = 1 := by
      rw [size_nd, deep_nd]
      exact ⟨rfl, rfl⟩
    generalize nd (short isZ [0, 1]) (short isN []) = dl at plf sdl
    clear e2 hl0 pen0
    try dsimp only [gName, List.set]
    -- a wide one
    refine ⟨(show 0 ≤ sizeLine by decide), fun l1 hl1 => ⟨.ref lf, rfl, (show 1 ≤ sizeLine by decide), fun l2 hl2 => ?_⟩⟩
    have e3 := (Ex.new (o := .lst []) hl1).trans (Ex.new (o := .lst [.ref lf]) hl2)
    have n1 := pen2.new hl1
    have n2 := (pen2.ex (Ex.new (o := .lst []) hl1)).new hl2
    have g1 : upd (upd H2 l1 (.lst [])) l2 (.lst [.ref lf]) l1 = some (.lst []) := Ex.new hl2 _ _ upd_same
    have g2 : upd (upd H2 l1 (.lst [])) l2 (.lst [.ref lf]) l2 = some (.lst [.ref lf]) := upd_same
    have pen3 := pen2.ex e3
    have plf3 := plf.kp (Kp.of e3)
    generalize upd (upd H2 l1 (.lst [])) l2 (.lst [.ref lf]) = H3 at g1 g2 pen3 plf3
    refine ⟨.ref p, rfl, p, l, 9, 39990, rfl, ⟨by decide, by decide⟩, pen3.less (by decide), fun r4 H4 hr4 px4 pen4 => ⟨120, r4, rfl, rfl, l2, 120 + r4, [.ref lf], rfl, rfl, px4.get n2.1 n2.2 g2, by omega, by omega, (by show 1 * _ ≤ sizeLine; exact szL _ (by omega)), fun rp hrp => ?_⟩⟩
    obtain ⟨rw4, rfl, lr4⟩ := nat_of hr4
    rw [rep_flat, show ((120 : Int) + ((rw4 : Nat) : Int)).toNat = 120 + rw4 by omega]
    have k4 := Kp.px pen3 px4
    have plf4 := plf3.kp k4
    have e5 := Ex.new (o := .lst (List.replicate (120 + rw4) (V.ref lf))) hrp
    obtain ⟨z1, z2⟩ := sizeL_repd dl (120 + rw4)
    rw [sdl.1] at z1
    rw [sdl.2] at z2
    refine make_go (K := K) (bs := []) (ws := List.replicate (120 + rw4) (V.ref lf)) (ks := List.replicate (120 + rw4) dl) (.inl (sq_of (e5 _ _ (px4.get n1.1 n1.2 g1)))) (fun b hb => nomatch hb) (by decide) (.inl (sq_of upd_same)) ((PzL.ref_rep plf4 _).kp (Kp.of e5)) (by rw [List.length_replicate]; omega) ⟨by omega, by omega⟩ fun wd H6 _ e6 pwd => ?_
    have sdw : size (nd (short isZ []) (short isN (List.replicate (120 + rw4) dl))) ≤ 130 ∧ deep (nd (short isZ []) (short isN (List.replicate (120 + rw4) dl))) ≤ 2 := by
      rw [size_nd, deep_nd, (sizeL_short_eq _).1, (sizeL_short_eq _).2]
      omega
    generalize nd (short isZ []) (short isN (List.replicate (120 + rw4) dl)) = dw at pwd sdw
    have plf6 := plf4.kp (Kp.of (e5.trans e6))
    have pen6 := pen4.ex (e5.trans e6)
    clear e3 n1 n2 g1 g2 pen3 plf3 plf4 k4 e5 e6 z1 z2 px4 pen4 plf pen2
    try dsimp only [gName, List.set]
    -- six turns
    refine q_forR1 (n := 6) (ea_cons ev_c ea_nil) ⟨by decide, by decide⟩ (fun i σ' H' => ∃ w4 w5 w6 w7 w8 w9, σ' = [some (.ref a), some (.ref p), some (.ref lf), some (.ref wd), w4, w5, w6, w7, w8, w9, none] ∧ Pz K H' lf dl ∧ Pz K H' wd dw ∧ Pen p l (30000 - i * 200) H') (fun H7 e7 => ⟨_, _, _, _, _, _, rfl, plf6.kp (Kp.of e7), pwd.kp (Kp.of e7), (pen6.ex e7).less (by decide)⟩) (fun i σ' H0 hi hI => ?_) (fun σ' H0 hI => ?_)
    · clear plf6 pwd pen6
      obtain ⟨w4, w5, w6, w7, w8, w9, rfl, plf, pwd, pen⟩ := hI
      have hi6 : i < 6 := by omega
      try dsimp only [gName, List.set]
      -- bits
      refine ⟨.ref p, rfl, p, l, 40, 30000 - i * 200 - 1, rfl, ⟨by decide, by decide⟩, pen.less (by omega), fun r1 H1 hr1 px1 pen1 => ⟨r1, rfl, by omega, by omega, fun B hB => ?_⟩⟩
      obtain ⟨rm, rfl, lrm⟩ := nat_of hr1
      have nB := pen1.new hB
      have kp1 := Kp.px pen px1
      refine lc_range (lo := 0) (n := ((rm : Nat) : Int).toNat) (fun j H' => ∃ bs : List Int, bs.length = j ∧ H' B = some (.lst (bs.map V.int)) ∧ Kp H0 H' ∧ Pen p l (30000 - i * 200 - 1 - j) H')
        ⟨[], rfl, upd_same, kp1.trans (Kp.of (Ex.new hB)), pen1.ex (Ex.new hB)⟩ (fun j H' hj hI => ?_) (fun H2 hI => ?_)
      · obtain ⟨bs, e1, e3, e4, e5⟩ := hI
        refine ⟨rfl, yes_go ⟨.ref p, rfl, p, l, 2, 30000 - i * 200 - 1 - (j + 1), rfl, ⟨by decide, by decide⟩, e5.less (by omega), fun r8 H8 hr8 px8 pen8 => ⟨bs.map V.int, px8.get nB.1 nB.2 e3, ?_, bs ++ [r8], ?_, ?_, (e4.trans (Kp.px e5 px8)).trans (Kp.lst (px8.get nB.1 nB.2 e3)), pen8.upd nB.1 nB.2⟩⟩⟩
        · rw [List.length_map]
          exact small1000 (by omega)
        · rw [List.length_append, e1]
          rfl
        · rw [upd_same, List.map_append]
          rfl
      obtain ⟨bs, lb, gB, k2, pen2⟩ := hI
      replace lb : bs.length ≤ 39 := by omega
      have plf2 := plf.kp k2
      have pwd2 := pwd.kp k2
      replace pen2 : Pen p l (30000 - i * 200 - 50) H2 := pen2.less (by omega)
      clear plf pwd pen kp1 px1 pen1 k2 hB
      try dsimp only [gName, List.set]
      -- kids
      refine ⟨.ref p, rfl, p, l, 5, 30000 - i * 200 - 51, rfl, ⟨by decide, by decide⟩, pen2.less (by omega), fun r3 H3 hr3 px3 pen3 => ⟨r3, rfl, by omega, by omega, fun KD hKD => ?_⟩⟩
      obtain ⟨rk, rfl, lrk⟩ := nat_of hr3
      have s3 : ∀ {H' : Hp}, True := fun {_} => True.intro
      have nK := pen3.new hKD
      have gB3 := px3.get nB.1 nB.2 gB
      have nBK : B ≠ KD := ne_of_none gB3 hKD
      have k3 := Kp.px pen2 px3
      refine lc_range (lo := 0) (n := ((rk : Nat) : Int).toNat) (fun j H' => ∃ ws ks, St8 K p l lf wd B KD bs ws dl dw (30000 - i * 200 - 52 - j) H' ∧ PzL K H' ws ks ∧ ws.length = j)
        ⟨[], [], ⟨Ex.new hKD _ _ gB3, upd_same, (fun x hx => nomatch hx), (plf2.kp k3).kp (Kp.of (Ex.new hKD)), (pwd2.kp k3).kp (Kp.of (Ex.new hKD)), (pen3.ex (Ex.new hKD)).less (by omega), nB, nK, nBK⟩, .nil, rfl⟩ (fun j H' hj hI => ?_) (fun H4 hI => ?_)
      · obtain ⟨ws, ks, st, pk, lws⟩ := hI
        have hj5 : j < 4 := by omega
        refine ⟨rfl, yes_go ⟨.ref p, rfl, .ref lf, rfl, (show 2 ≤ sizeLine by decide), fun q hq => ?_⟩⟩
        have eq := Ex.new (o := .lst [.ref lf, .non]) hq
        have nq := st.pen.new hq
        refine ⟨p, l, q, [.ref lf, .non], 30000 - i * 200 - 52 - (j + 1), rfl, sq_of ((cut_at nq.1 nq.2).trans upd_same), ⟨(fun z => nomatch z), show 2 ≤ 1000000 by decide⟩, (st.pen.ex eq).less (by omega), fun v5 H5 hv5 px5 pen5 => ?_⟩
        have st5 := (st.ex eq).px px5 pen5
        have pk5 := pk.kp ((Kp.of eq).trans (Kp.px (st.pen.ex eq) px5))
        have one : ∃ d, PzL K H5 [v5] [d] := by
          rcases List.mem_cons.mp hv5 with h | h
          · rw [h]
            exact ⟨dl, .one st5.lf .nil⟩
          · rw [List.mem_singleton.mp h]
            exact ⟨.none, .non .nil⟩
        obtain ⟨d5, one⟩ := one
        have pk6 := pk5.app one
        exact ⟨ws, st5.k, small1000 (by omega), ws ++ [v5], ks ++ [d5], st5.setK (pz_kid pk6), pk6.kp (Kp.lst st5.k), by rw [List.length_append, lws]; rfl⟩
      obtain ⟨ws, ks, st4, pk4, lws⟩ := hI
      replace lws : ws.length ≤ 4 := by omega
      replace st4 := st4.less (m := 30000 - i * 200 - 60) (by omega)
      clear plf2 pwd2 pen2 k3 hKD px3 pen3 gB gB3 s3 nB nK nBK
      try dsimp only [gName, List.set]
      -- the kind
      refine ⟨.ref p, rfl, p, l, 5, 30000 - i * 200 - 61, rfl, ⟨by decide, by decide⟩, st4.pen.less (by omega), fun r5 H5 hr5 px5 pen5 => ?_⟩
      obtain ⟨kn, rfl, lkn⟩ := nat_of hr5
      have st5 := st4.px px5 pen5
      have pk5 := pk4.kp (Kp.px st4.pen px5)
      clear st4 pk4 px5 pen5
      try dsimp only [gName, List.set]
      -- many leaves
      refine q_cut (M := fun σ' H' => ∃ (KD : Addr) (ws : List V) (ks : List PyData), σ' = [some (.ref a), some (.ref p), some (.ref lf), some (.ref wd), some (.int ((i : Nat) : Int)), some (.ref B), some (.ref KD), some (.int ((kn : Nat) : Int)), w8, w9, none] ∧ St8 K p l lf wd B KD bs ws dl dw (30000 - i * 200 - 70) H' ∧ PzL K H' ws ks ∧ (ws.length ≤ 502 ∧ (ws.length ≤ 4 ∨ kn = 0))) ?_ fun σ6 H6 hM => ?_
      · refine ⟨.int (kn : Nat), rfl, rfl, _, rfl, ite2 (fun hq => ?_) (fun _ => ⟨KD, ws, ks, rfl, st5.less (by omega), pk5, by omega, .inl lws⟩)⟩
        refine ⟨.ref lf, rfl, (show 1 ≤ sizeLine by decide), fun l2 hl2 => ⟨.ref p, rfl, p, l, 5, 30000 - i * 200 - 62, rfl, ⟨by decide, by decide⟩, (st5.pen.ex (Ex.new hl2)).less (by omega), fun r7 H7 hr7 px7 pen7 => ⟨497, r7, rfl, rfl, l2, 497 + r7, [.ref lf], rfl, rfl, px7.get (st5.pen.new hl2).1 (st5.pen.new hl2).2 upd_same, by omega, by omega, (by show 1 * _ ≤ sizeLine; exact szL _ (by omega)), fun rp hrp => ⟨(show 1 ≤ sizeLine by decide), fun l8 hl8 => ⟨rp, l8, _, _, rfl, rfl, Ex.new hl8 _ _ upd_same, upd_same, fits (by rw [rep_flat, List.length_replicate]; show _ + 1 ≤ 1000; omega), fun K2 hK2 => ?_⟩⟩⟩⟩⟩
        have st7 := (st5.ex (Ex.new (o := .lst [.ref lf]) hl2)).px px7 pen7
        have e9 := ((Ex.new (o := .lst (List.replicate (497 + r7).toNat [V.ref lf]).flatten) hrp).trans (Ex.new (o := .lst [.non]) hl8)).trans (Ex.new (o := .lst ((List.replicate (497 + r7).toNat [V.ref lf]).flatten ++ [.non])) hK2)
        have pkN : ∀ {H' : Hp}, Pz K H' lf dl → PzL K H' ((List.replicate (497 + r7).toNat [V.ref lf]).flatten ++ [.non]) (List.replicate (497 + r7).toNat dl ++ [.none]) := fun h => by
          rw [rep_flat]
          exact (PzL.ref_rep h _).app (.non .nil)
        have st9 := st7.kids (KD' := K2) e9 (fresh_back ((Ex.new (o := .lst (List.replicate (497 + r7).toNat [V.ref lf]).flatten) hrp).trans (Ex.new (o := .lst [.non]) hl8)) hK2) upd_same (pz_kid (pkN ((st7.ex e9).lf)))
        have hk0 : kn = 0 := by
          have := of_decide_eq_true hq
          injection this with this
          omega
        exact ⟨K2, _, _, rfl, st9.less (by omega), pkN st9.lf, by rw [rep_flat, List.length_append, List.length_replicate]; show _ + 1 ≤ 502; omega, .inr hk0⟩
      clear st5 pk5 lws
      obtain ⟨KD, ws, ks, rfl, st6, pk6, lws, lw0⟩ := hM
      try dsimp only [gName, List.set]
      -- a chain
      refine q_cut (M := fun σ' H' => ∃ (KD : Addr) (ws : List V) (ks : List PyData), σ' = [some (.ref a), some (.ref p), some (.ref lf), some (.ref wd), some (.int ((i : Nat) : Int)), some (.ref B), some (.ref KD), some (.int ((kn : Nat) : Int)), w8, w9, none] ∧ St8 K p l lf wd B KD bs ws dl dw (30000 - i * 200 - 80) H' ∧ PzL K H' ws ks ∧ (ws.length ≤ 502 ∧ (ws.length ≤ 5 ∨ kn = 0))) ?_ fun σ7 H7 hM => ?_
      · refine ⟨.int (kn : Nat), rfl, rfl, _, rfl, ite2 (fun hq => ?_) (fun _ => ⟨KD, ws, ks, rfl, st6.less (by omega), pk6, by omega, by omega⟩)⟩
        have hk1 : kn = 1 := by
          have := of_decide_eq_true hq
          injection this with this
          omega
        refine ⟨.ref KD, rfl, .ref p, rfl, p, l, 4, 30000 - i * 200 - 71, rfl, ⟨by decide, by decide⟩, st6.pen.less (by omega), fun r7 H7 hr7 px7 pen7 => ⟨27, r7, rfl, rfl, ?_⟩⟩
        obtain ⟨rc, rfl, lrc⟩ := nat_of hr7
        have st7 := st6.px px7 pen7
        have pk7 := pk6.kp (Kp.px st6.pen px7)
        refine ⟨27 + rc, ?_, ⟨by omega, by omega⟩, fun ca cd H8 e8 hca _ _ => ⟨(show 1 ≤ sizeLine by decide), fun l8 hl8 => ⟨KD, l8, ws, _, rfl, rfl, Ex.new hl8 _ _ (e8 _ _ st7.k), upd_same, fits (by show _ + 1 ≤ 1000; omega), fun K2 hK2 => ?_⟩⟩⟩
        · show [V.int ((27 : Int) + (rc : Int))] = [V.int ((27 + rc : Nat) : Int)]
          rw [show (27 : Int) + (rc : Int) = ((27 + rc : Nat) : Int) by omega]
        have e9 := (e8.trans (Ex.new (o := .lst [.ref ca]) hl8)).trans (Ex.new (o := .lst (ws ++ [.ref ca])) hK2)
        have pk9 := (pk7.kp (Kp.of e9)).app (.one (hca.kp (Kp.of ((Ex.new (o := .lst [.ref ca]) hl8).trans (Ex.new (o := .lst (ws ++ [.ref ca])) hK2)))) .nil)
        have st9 := st7.kids (KD' := K2) e9 (fresh_back (e8.trans (Ex.new (o := .lst [.ref ca]) hl8)) hK2) upd_same (pz_kid pk9)
        exact ⟨K2, _, _, rfl, st9.less (by omega), pk9, by rw [List.length_append]; show _ + 1 ≤ 502; omega, .inl (by rw [List.length_append]; show _ + 1 ≤ 5; omega)⟩
      clear st6 pk6 lws lw0
      obtain ⟨KD, ws, ks, rfl, st7, pk7, lws, lw0⟩ := hM
      try dsimp only [gName, List.set]
      -- wide ones
      refine q_cut (M := fun σ' H' => ∃ (KD : Addr) (ws : List V) (ks : List PyData), σ' = [some (.ref a), some (.ref p), some (.ref lf), some (.ref wd), some (.int ((i : Nat) : Int)), some (.ref B), some (.ref KD), some (.int ((kn : Nat) : Int)), w8, w9, none] ∧ St8 K p l lf wd B KD bs ws dl dw (30000 - i * 200 - 90) H' ∧ PzL K H' ws ks ∧ ws.length ≤ 510) ?_ fun σ8 H8 hM => ?_
      · refine ⟨.int (kn : Nat), rfl, rfl, _, rfl, ite2 (fun hq => ?_) (fun _ => ⟨KD, ws, ks, rfl, st7.less (by omega), pk7, by omega⟩)⟩
        have hk1 : kn = 2 := by
          have := of_decide_eq_true hq
          injection this with this
          omega
        refine ⟨.ref KD, rfl, .ref wd, rfl, .ref wd, rfl, .ref wd, rfl, (show 0 ≤ sizeLine by decide), fun l1 hl1 => ⟨.ref lf, rfl, (show 1 ≤ sizeLine by decide), fun l2 hl2 => ?_⟩⟩
        have eA := (Ex.new (o := .lst []) hl1).trans (Ex.new (o := .lst [.ref lf]) hl2)
        have stA := st7.ex eA
        have pkA := pk7.kp (Kp.of eA)
        have n1 := st7.pen.new hl1
        have n2 := (st7.pen.ex (Ex.new (o := .lst []) hl1)).new hl2
        have g1 : upd (upd H7 l1 (.lst [])) l2 (.lst [.ref lf]) l1 = some (.lst []) := Ex.new hl2 _ _ upd_same
        have g2 : upd (upd H7 l1 (.lst [])) l2 (.lst [.ref lf]) l2 = some (.lst [.ref lf]) := upd_same
        generalize upd (upd H7 l1 (.lst [])) l2 (.lst [.ref lf]) = HA at stA pkA g1 g2
        refine ⟨.ref p, rfl, p, l, 40, 30000 - i * 200 - 81, rfl, ⟨by decide, by decide⟩, stA.pen.less (by omega), fun r8 H8 hr8 px8 pen8 => ⟨100, r8, rfl, rfl, l2, 100 + r8, [.ref lf], rfl, rfl, px8.get n2.1 n2.2 g2, by omega, by omega, (by show 1 * _ ≤ sizeLine; exact szL _ (by omega)), fun rp hrp => ?_⟩⟩
        obtain ⟨rw4, rfl, lr4⟩ := nat_of hr8
        rw [rep_flat, show ((100 : Int) + ((rw4 : Nat) : Int)).toNat = 100 + rw4 by omega]
        have stB := stA.px px8 pen8
        have pkB := pkA.kp (Kp.px stA.pen px8)
        have e5 := Ex.new (o := .lst (List.replicate (100 + rw4) (V.ref lf))) hrp
        obtain ⟨z1, z2⟩ := sizeL_repd dl (100 + rw4)
        rw [sdl.1] at z1
        rw [sdl.2] at z2
        refine make_go (K := K) (bs := []) (ws := List.replicate (100 + rw4) (V.ref lf)) (ks := List.replicate (100 + rw4) dl) (.inl (sq_of (e5 _ _ (px8.get n1.1 n1.2 g1)))) (fun b hb => nomatch hb) (by decide) (.inl (sq_of upd_same)) ((PzL.ref_rep stB.lf _).kp (Kp.of e5)) (by rw [List.length_replicate]; omega) ⟨by omega, by omega⟩ fun w2 H9 _ e9 pw2 => ⟨(show 4 ≤ sizeLine by decide), fun l8 hl8 => ⟨KD, l8, ws, _, rfl, rfl, Ex.new hl8 _ _ (e9 _ _ (e5 _ _ stB.k)), upd_same, fits (by show _ + 4 ≤ 1000; omega), fun K2 hK2 => ?_⟩⟩
        have e95 := e5.trans e9
        have eC := (Ex.new (o := .lst [.ref wd, .ref wd, .ref wd, .ref w2]) hl8).trans (Ex.new (o := .lst (ws ++ [.ref wd, .ref wd, .ref wd, .ref w2])) hK2)
        have eD := e95.trans eC
        have wdD := (stB.ex eD).wd
        have pkD := (pkB.kp (Kp.of eD)).app (.one wdD (.one wdD (.one wdD (.one (pw2.kp (Kp.of eC)) .nil))))
        have stD := stB.kids (KD' := K2) eD (fresh_back (e95.trans (Ex.new (o := .lst [.ref wd, .ref wd, .ref wd, .ref w2]) hl8)) hK2) upd_same (pz_kid pkD)
        exact ⟨K2, _, _, rfl, stD.less (by omega), pkD, by rw [List.length_append]; show _ + 4 ≤ 510; omega⟩
      clear st7 pk7 lws lw0
      obtain ⟨KD, ws, ks, rfl, st8, pk8, lws⟩ := hM
      try dsimp only [gName, List.set]
      -- another number among the bits
      refine q_cut (M := fun σ' H' => ∃ (bs : List Int), σ' = [some (.ref a), some (.ref p), some (.ref lf), some (.ref wd), some (.int ((i : Nat) : Int)), some (.ref B), some (.ref KD), some (.int ((kn : Nat) : Int)), w8, w9, none] ∧ St8 K p l lf wd B KD bs ws dl dw (30000 - i * 200 - 100) H' ∧ PzL K H' ws ks ∧ bs.length ≤ 40) ?_ fun σ9 H9 hM => ?_
      · refine ⟨.ref p, rfl, p, l, 4, 30000 - i * 200 - 91, rfl, ⟨by decide, by decide⟩, st8.pen.less (by omega), fun r9 H9 hr9 px9 pen9 => ?_⟩
        have st9 := st8.px px9 pen9
        have pk9 := pk8.kp (Kp.px st8.pen px9)
        refine ⟨rfl, _, rfl, ite2 (fun _ => ?_) (fun _ => ⟨bs, rfl, st9.less (by omega), pk9, by omega⟩)⟩
        refine ⟨.ref B, rfl, .inl ⟨rfl, _, sq_of st9.b⟩, .ref p, rfl, .ref B, rfl, B, _, rfl, .inl (sq_of st9.b), ((bs.map V.int).length : Nat), 1, rfl, rfl, p, l, _, 30000 - i * 200 - 92, rfl, ⟨by omega, by rw [List.length_map]; omega⟩, st9.pen.less (by omega), fun r10 H10 hr10 px10 pen10 => ?_⟩
        rw [List.length_map] at hr10
        have st10 := st9.px px10 pen10
        have pk10 := pk9.kp (Kp.px st9.pen px10)
        clear st8 pk8 st9 pk9 px9 pen9 px10 pen10
        refine ⟨.ref p, rfl, 1, rfl, 10, 9, rfl, rfl, ⟨by decide, by decide, by decide⟩, (show 5 ≤ sizeLine by decide), fun q hq => ?_⟩
        have nq := st10.pen.new hq
        have eq := Ex.new (o := .lst [.int 2, .int (-1), .int 3, .int 10, .int (10 ^ 9)]) hq
        refine ⟨p, l, q, [.int 2, .int (-1), .int 3, .int 10, .int (10 ^ 9)], 30000 - i * 200 - 93, rfl, sq_of ((cut_at nq.1 nq.2).trans upd_same), ⟨(fun z => nomatch z), show 5 ≤ 1000000 by decide⟩, (st10.pen.ex eq).less (by omega), fun v5 H11 hv5 px11 pen11 => ?_⟩
        have st11 := (st10.ex eq).px px11 pen11
        have pk11 := pk10.kp ((Kp.of eq).trans (Kp.px (st10.pen.ex eq) px11))
        obtain ⟨z, rfl⟩ : ∃ z : Int, v5 = .int z := by
          simp only [List.mem_cons, List.not_mem_nil, or_false] at hv5
          rcases hv5 with h | h | h | h | h <;> exact ⟨_, h⟩
        have em : (bs.map V.int).take r10.toNat ++ [.int z] ++ (bs.map V.int).drop r10.toNat = (bs.take r10.toNat ++ [z] ++ bs.drop r10.toNat).map V.int := by
          rw [List.map_append, List.map_append, List.map_take, List.map_drop]
          rfl
        refine ⟨B, bs.map V.int, r10, .int z, rfl, rfl, st11.b, small1000 (by rw [List.length_map]; omega), by omega, by omega, bs.take r10.toNat ++ [z] ++ bs.drop r10.toNat, rfl, ?_, ?_, ?_⟩
        · rw [em]
          exact (st11.setB (bs' := bs.take r10.toNat ++ [z] ++ bs.drop r10.toNat)).less (by omega)
        · rw [em]
          exact pk11.kp (Kp.lst st11.b)
        · rw [List.length_append, List.length_append, List.length_take, List.length_drop]
          show _ + 1 + _ ≤ 40
          omega
      clear st8 pk8 lb
      obtain ⟨bs, rfl, st9, pk9, lb⟩ := hM
      try dsimp only [gName, List.set]
      -- a text among the kids, or none
      refine ⟨.ref p, rfl, p, l, 4, 30000 - i * 200 - 101, rfl, ⟨by decide, by decide⟩, st9.pen.less (by omega), fun r10 H10 hr10 px10 pen10 => ⟨rfl, ?_⟩⟩
      generalize decide (V.int r10 = V.int 0) = bad
      have st10 := st9.px px10 pen10
      have pk10 := pk9.kp (Kp.px st9.pen px10)
      clear st9 pk9 px10 pen10
      try dsimp only [gName, List.set]
      refine ⟨.ref B, rfl, .ref KD, rfl, .bl bad, rfl, B, KD, bs, ws, ks, bad, rfl, st10.b, st10.k, pk10, by omega, by omega, fun v9 H11 e11 dv => ?_⟩
      have st11 := st10.ex e11
      have pk11 := pk10.kp (Kp.of e11)
      clear st10 pk10 e11
      try dsimp only [gName, List.set]
      refine q_cut (M := fun σ' H' => ∃ (ws' : List V), σ' = [some (.ref a), some (.ref p), some (.ref lf), some (.ref wd), some (.int ((i : Nat) : Int)), some (.ref B), some (.ref KD), some (.int ((kn : Nat) : Int)), some (.bl bad), some v9, none] ∧ St8 K p l lf wd B KD bs ws' dl dw (30000 - i * 200 - 120) H' ∧ ws'.length ≤ 511 ∧ Dp K H' v9 (if (bad || !bs.all bitB) = true then dBad else dGood ks) ∧ ((bad = false ∧ PzL K H' ws' ks) ∨ (bad = true ∧ ws'.all kidB = false))) ?_ fun σ12 H12 hM => ?_
      · refine ⟨.bl bad, rfl, bad, rfl, ite2 (fun hb => ?_) (fun hb => ⟨ws, rfl, st11.less (by omega), by omega, dv, .inl ⟨by simpa using hb, pk11⟩⟩)⟩
        refine ⟨.ref KD, rfl, .inl ⟨rfl, _, sq_of st11.k⟩, .ref p, rfl, .ref KD, rfl, KD, _, rfl, .inl (sq_of st11.k), (ws.length : Nat), 1, rfl, rfl, p, l, _, 30000 - i * 200 - 103, rfl, ⟨by omega, by omega⟩, st11.pen.less (by omega), fun r12 H12 hr12 px12 pen12 => ?_⟩
        have st12 := st11.px px12 pen12
        have dv12 := dp_kp (Kp.px st11.pen px12) _ _ (tup_due _ _) dv
        refine ⟨.ref p, rfl, (show 3 ≤ sizeLine by decide), fun q hq => ?_⟩
        have nq := st12.pen.new hq
        have eq := Ex.new (o := .lst [.str "", .str "1", .str "."]) hq
        refine ⟨p, l, q, [.str "", .str "1", .str "."], 30000 - i * 200 - 104, rfl, sq_of ((cut_at nq.1 nq.2).trans upd_same), ⟨(fun z => nomatch z), show 3 ≤ 1000000 by decide⟩, (st12.pen.ex eq).less (by omega), fun v5 H13 hv5 px13 pen13 => ?_⟩
        have st13 := (st12.ex eq).px px13 pen13
        have dv13 := dp_kp ((Kp.of eq).trans (Kp.px (st12.pen.ex eq) px13)) _ _ (tup_due _ _) dv12
        obtain ⟨z, rfl⟩ : ∃ z : Str, v5 = .str z := by
          simp only [List.mem_cons, List.not_mem_nil, or_false] at hv5
          rcases hv5 with h | h | h <;> exact ⟨_, h⟩
        have hk : ∀ x ∈ ws.take r12.toNat ++ [V.str z] ++ ws.drop r12.toNat, Kid K H13 x := fun x hx => by
          rcases List.mem_append.mp hx with h | h
          · rcases List.mem_append.mp h with h | h
            · exact st13.kid x (List.mem_of_mem_take h)
            · exact .inr (.inr ⟨z, List.mem_singleton.mp h⟩)
          · exact st13.kid x (List.mem_of_mem_drop h)
        refine ⟨KD, ws, r12, .str z, rfl, rfl, st13.k, small1000 (by omega), by omega, by omega, _, rfl, (st13.setK hk).less (by omega), ?_, dp_kp (Kp.lst st13.k) _ _ (tup_due _ _) dv13, .inr ⟨hb, ?_⟩⟩
        · rw [List.length_append, List.length_append, List.length_take, List.length_drop]
          show _ + 1 + _ ≤ 511
          omega
        · rw [List.all_append, List.all_append]
          simp [kidB]
      obtain ⟨ws', rfl, st12, lw', dv12, cas⟩ := hM
      clear st11 pk11 dv
      try dsimp only [gName, List.set]
      refine s_when (b := false) (et_is (et_test (ev_neD (ed_call (d := if (bad || !bs.all bitB) = true then dBad else dGood ks) (ea_cons (ev_var rfl) (ea_cons (ev_var rfl) ea_nil)) fun H13 e13 Q13 q13 => ?_) (ed_var rfl dv12) (shp_due _ _) (shp_due _ _))) (by rw [eqv_same (shp_due _ _)]; rfl)) (fun z => nomatch z) (fun _ H13 e13 => ?_)
      · have st13 := st12.ex e13
        refine ⟨B, KD, bs, ws', rfl, st13.b, st13.k, by omega, by omega, st13.kid, fun hbad q H14 e14 dq => q13 (.ref q) H14 e14 ?_, fun ks' hgood hks q H14 e14 dq => q13 (.ref q) H14 e14 ?_⟩
        · rcases cas with ⟨rfl, pk⟩ | ⟨rfl, _⟩
          · have hall : ws'.all kidB = true := kids_all pk
            rw [hall, Bool.and_true] at hbad
            rw [hbad]
            exact dq
          · exact dq
        · rcases cas with ⟨rfl, pk⟩ | ⟨rfl, ha⟩
          · have := PzL.uniq hks (pk.kp (Kp.of e13))
            subst this
            rw [Bool.and_eq_true] at hgood
            rw [hgood.1]
            exact dq
          · rw [ha, Bool.and_false] at hgood
            cases hgood
      · have st13 := st12.ex e13
        exact ⟨_, _, _, _, _, _, rfl, st13.lf, st13.wd, st13.pen.less (by omega)⟩
    · obtain ⟨w4, w5, w6, w7, w8, w9, rfl, _⟩ := hI
      exact kk H0

end
end K08
set_option Elab.async false
set_option linter.all false
set_option maxRecDepth 100000
set_option maxHeartbeats 8000000

namespace K08
open PySem PySem.Spec PyProof.Rows L2 He XH XV XR PEN TR XQ PZ Evl
def steps : Nat := 60000
def kinds : List String := ["NoneType", "tuple", "str", "int", "list"]

/-! ### the head -/
def fn : List He.DefD := [⟨("is_bit", none), "is_bit", "is_bit", defArgs s_is_bit, defBody s_is_bit, defScope s_is_bit, [], []⟩,
  ⟨("check_entries", none), "check_entries", "check_entries", defArgs s_check_entries, defBody s_check_entries, defScope s_check_entries, [], []⟩,
  ⟨("Puzzle", some "__eq__"), "__eq__", "Puzzle.__eq__", defArgs s_Puzzle___eq__, defBody s_Puzzle___eq__, defScope s_Puzzle___eq__, [], []⟩,
  ⟨("trimmed", none), "trimmed", "trimmed", defArgs s_trimmed, defBody s_trimmed, defScope s_trimmed, [], []⟩,
  ⟨("spelled", none), "spelled", "spelled", defArgs s_spelled, defBody s_spelled, defScope s_spelled, [], []⟩,
  ⟨("Puzzle", some "__init__"), "__init__", "Puzzle.__init__", defArgs s_Puzzle_init, defBody s_Puzzle_init, defScope s_Puzzle_init, [.adr (dflAt ("Puzzle", some "__init__") 0), .adr (dflAt ("Puzzle", some "__init__") 1)], []⟩,
  ⟨("_law_draw", none), "_law_draw", "_law_draw", defArgs s_law_draw, defBody s_law_draw, defScope s_law_draw, [], []⟩,
  ⟨("_law_pick", none), "_law_pick", "_law_pick", defArgs s_law_pick, defBody s_law_pick, defScope s_law_pick, [], []⟩,
  ⟨("_law_told", none), "_law_told", "_law_told", defArgs s_law_told, defBody s_law_told, defScope s_law_told, [], []⟩,
  ⟨("_law_chain", none), "_law_chain", "_law_chain", defArgs s_law_chain, defBody s_law_chain, defScope s_law_chain, [], []⟩,
  ⟨("_law_due", none), "_law_due", "_law_due", defArgs s_law_due, defBody s_law_due, defScope s_law_due, [], []⟩,
  ⟨("law", none), "law", "law", defArgs s_law, defBody s_law, defScope s_law, [], []⟩]
def fa : List Fc := [glosB globs, freesB frees, fun K => (Fa.int "MOST_NODES" 500).ok K, fun K => (Fa.int "GREATEST_DEPTH" 30).ok K, fun K => (Fa.cls "Puzzle").ok K, fun K => pF.all fun x => (Fa.noat "Puzzle" x).ok K, fun K => (Fa.mkr "Puzzle").ok K, fun K => eqO (PySem.W.findIn K (.ref (ga K "Puzzle")) "__eq__") (some (some (.ref (ma K (ga K "Puzzle") "__eq__")))), fun K => PySem.W.isFn K (.ref (ma K (ga K "Puzzle") "__eq__")), fun K => eqO (PySem.W.findIn K (.ref (ga K "Puzzle")) "__class__") (some (some (.builtin "object.__class__"))), fun K => eqO (PySem.W.specialIn K (.builtin "object.__class__") "__get__") (some (some (.builtin "getset_descriptor.__get__"))), fun K => decide (PySem.W.takesIn K (.builtin "object.__class__") = some true), fun K => decide (PySem.W.mroIn K (ga K "Puzzle") (.type "object") = some true), fun K => kinds.all fun t => PySem.W.notFirst K (ga K "Puzzle") (.type t), fun K => decide (PySem.W.kitOne K (.ref (ga K "Puzzle")) (.ref (ga K "Puzzle")) = some true), fun K => kinds.all fun t => decide (PySem.W.kitOne K (.type t) (.ref (ga K "Puzzle")) = some false), fun K => XT.emptyAtB K (dflAt ("Puzzle", some "__init__") 0 K), fun K => XT.emptyAtB K (dflAt ("Puzzle", some "__init__") 1 K), fun K => bareB K "TooGreat", fun K => (Fa.exc "TooGreat").ok K, fun K => bareB K "BadPuzzle", fun K => (Fa.exc "BadPuzzle").ok K, fun K => (Fa.exm "BadPuzzle" "BadPuzzle" true).ok K, fun K => (Fa.exm "TooGreat" "BadPuzzle" false).ok K, fun K => (Fa.exm "TooGreat" "TooGreat" true).ok K, fun K => decide (PySem.W.kitOne K (.ref (ga K "BadPuzzle")) (.ref (ga K "TryError")) = some true), fun K => decide (PySem.W.kitOne K (.ref (ga K "BadPuzzle")) (.ref (ga K "TooGreat")) = some false), fun K => decide (PySem.W.kitOne K (.ref (ga K "TooGreat")) (.ref (ga K "TryError")) = some true), fun K => decide (PySem.W.kitOne K (.ref (ga K "TooGreat")) (.ref (ga K "BadPuzzle")) = some false)]
abbrev R : PySem.W.OpenRow := PySem.W.OpenLaw.row PySem.Challenge.rw_tryback_k08_puzzles_refused
abbrev hk : PySem.W.Hook := hookB 5 fa fn
def ob (s : PySem.W.SharedT) : He.AlD := obsBG 5 fa fn (HandSHeadRun.getT s)
theorem ob_eq (s : PySem.W.SharedT) : ob s = hk.obs s.abs := obsBG_eq (HandSHeadRun.getT_eq s)
def loose : List Str := [("BadPuzzle" : Str), ("GREATEST_DEPTH" : Str), ("MOST_NODES" : Str), ("NoSuch" : Str), ("Puzzle" : Str), ("TooGreat" : Str), ("TryError" : Str), ("__name__" : Str), ("_law_chain" : Str), ("_law_draw" : Str), ("_law_due" : Str), ("_law_pick" : Str), ("_law_told" : Str), ("_wall" : Str), ("check_entries" : Str), ("is_bit" : Str), ("spelled" : Str), ("trimmed" : Str)]
theorem run (w : World) : HandSHeadRun.RunEq R (PySem.W.view R.prog [20]) hk ob 60000 loose w := by
  intro os
  kernel_rfl

theorem facts {P : Program} {w : World} {K : PySem.W.Frag} {h : Heap} {mg : Str → Option Value} {f : Addr} (X : K.In h) (G : h.Ns mainGlobals mg) (hfa : mg ("law" : Str) = some (.ref f)) (c : SaysB fa fn K) :
    ∃ fd : FuncData, (∀ (s : Shared) (v : Value), BindsTo s fd ⟨[v], []⟩ [("_law_script", v)]) ∧ ∀ base : Heap, K.In base → base.Ns mainGlobals mg → FnOk P w K mg base CX0 13 f fd ["_law_script"] (spLaw K) := by
  have T0 : Txt K w mg := {
    gl := fun x hx => glos_ok X G (c.fact 0 rfl) x hx
    fr := fun x hx => frees_ok X G (c.fact 1 rfl) x hx
    c_MOST_NODES := int_ok X G (c.fact 2 rfl)
    c_GREATEST_DEPTH := int_ok X G (c.fact 3 rfl) }
  have T1 : Tx K w mg := { T0 with
    cp := cls_ok (c.fact 4 rfl)
    np := fun x hx => noat_ok (List.all_eq_true.mp (c.fact 5 rfl) x hx)
    mp := mkr_ok (c.fact 6 rfl)
    ef := eqO_ok (c.fact 7 rfl)
    en := c.fact 8 rfl
    ia := eqO_ok (c.fact 9 rfl)
    ig := eqO_ok (c.fact 10 rfl)
    it := of_decide_eq_true (c.fact 11 rfl)
    im := of_decide_eq_true (c.fact 12 rfl)
    nf := fun t ht => List.all_eq_true.mp (c.fact 13 rfl) t ht
    ki := of_decide_eq_true (c.fact 14 rfl)
    kn := fun t ht => of_decide_eq_true (List.all_eq_true.mp (c.fact 15 rfl) t ht) }
  have T2 : T08 K w mg := { T1 with
    tg := bare_ok (c.fact 18 rfl)
    ty := (exc_ok (c.fact 19 rfl)).2.2.2
    bp := bare_ok (c.fact 20 rfl)
    by' := (exc_ok (c.fact 21 rfl)).2.2.2
    m1 := exm_ok (c.fact 22 rfl)
    m2 := exm_ok (c.fact 23 rfl)
    m3 := exm_ok (c.fact 24 rfl)
    i1 := of_decide_eq_true (c.fact 25 rfl)
    i2 := of_decide_eq_true (c.fact 26 rfl)
    i3 := of_decide_eq_true (c.fact 27 rfl)
    i4 := of_decide_eq_true (c.fact 28 rfl) }
  obtain ⟨d0, F0⟩ := c.def_ 0 rfl
  obtain ⟨d1, F1⟩ := c.def_ 1 rfl
  obtain ⟨d2, F2⟩ := c.def_ 2 rfl
  obtain ⟨d3, F3⟩ := c.def_ 3 rfl
  obtain ⟨d4, F4⟩ := c.def_ 4 rfl
  obtain ⟨d5, F5⟩ := c.def_ 5 rfl
  obtain ⟨d6, F6⟩ := c.def_ 6 rfl
  obtain ⟨d7, F7⟩ := c.def_ 7 rfl
  obtain ⟨d8, F8⟩ := c.def_ 8 rfl
  obtain ⟨d9, F9⟩ := c.def_ 9 rfl
  obtain ⟨d10, F10⟩ := c.def_ 10 rfl
  obtain ⟨d11, F11⟩ := c.def_ 11 rfl
  have e := hfa.symm.trans (T0.gl "law" (by decide +kernel))
  cases e
  have b := FunD.bindsA (ps := ["_law_script"]) F11 fun _ _ _ _ _ _ us hl => match us, hl with | [_], _ => rfl
  refine ⟨d11, fun s v => b s [v] rfl, fun base _ _ => ?_⟩
  have bi : L2.Binds K d5 ["self", "bits", "children"] [] := by
    obtain ⟨ds, hv, hb⟩ := FunD.binds1 (ps := ["self", "bits", "children"]) F5 3 2 (fun z => nomatch z) rfl (fun T kV doc pm an cdv ct us its h1 h2 => match us, its, h1, h2 with | [_, _, _], [_, _], _, _ => ⟨_, rfl, rfl⟩)
    cases hv
    exact hb
  have bd : ∃ ds, Vals [V.ref (dflAt ("Puzzle", some "__init__") 0 K), V.ref (dflAt ("Puzzle", some "__init__") 1 K)] ds ∧ L2.Binds K d5 ["self", "bits", "children"] ds :=
    FunD.binds1 (ps := ["self", "bits", "children"]) F5 1 0 (fun z => nomatch z) rfl (fun T kV doc pm an cdv ct us its h1 h2 => match us, its, h1, h2 with | [_], [_, _], _, _ => ⟨_, rfl, rfl⟩)
  have c_bit : Cl P w K mg base CX0 1 (ga K "is_bit") ["bit"] spBit := ⟨d0, (ok_is_bit F0 T1).mono (by decide), FunD.bindsN (ps := ["bit"]) F0 fun _ _ _ _ _ _ us hl => match us, hl with | [_], _ => rfl, F0.kp⟩
  have c_chk : Cl P w K mg base CX0 2 (ga K "check_entries") ["bits", "children"] (spChk K) := ⟨d1, (ok_check_entries F1 T1 c_bit).mono (by decide), FunD.bindsN (ps := ["bits", "children"]) F1 fun _ _ _ _ _ _ us hl => match us, hl with | [_, _], _ => rfl, F1.kp⟩
  have c_eq : Cl P w K mg base CX0 1 (ma K (ga K "Puzzle") "__eq__") ["self", "other"] (spEq K) := ⟨d2, (ok_Puzzle___eq__ F2 T1).mono (by decide), FunD.bindsN (ps := ["self", "other"]) F2 fun _ _ _ _ _ _ us hl => match us, hl with | [_, _], _ => rfl, F2.kp⟩
  have c_trm : Cl P w K mg base CX0 2 (ga K "trimmed") ["entries", "empty"] (spTrim K) := ⟨d3, (ok_trimmed F3 T1 c_eq).mono (by decide), FunD.bindsN (ps := ["entries", "empty"]) F3 fun _ _ _ _ _ _ us hl => match us, hl with | [_, _], _ => rfl, F3.kp⟩
  have c_spl : Cl P w K mg base CX0 1 (ga K "spelled") ["bits", "children"] (spSpell K) := ⟨d4, (ok_spelled F4 T1).mono (by decide), FunD.bindsN (ps := ["bits", "children"]) F4 fun _ _ _ _ _ _ us hl => match us, hl with | [_, _], _ => rfl, F4.kp⟩
  have c_init : Cl P w K mg base CX0 3 (ma K (ga K "Puzzle") "__init__") ["self", "bits", "children"] (spInit K) := ⟨d5, (ok_Puzzle_init F5 T1 c_chk c_trm c_spl).mono (by decide), bi, F5.kp⟩
  have hdef : ∃ (fd0 : FuncData) (e0 e1 : Addr) (ds : List Value), FnOk P w K mg base CX0 3 (ma K (ga K "Puzzle") "__init__") fd0 ["self", "bits", "children"] (spInit K) ∧ L2.Binds K fd0 ["self", "bits", "children"] ds ∧ Vals [V.ref e0, V.ref e1] ds ∧ (∀ H, SqT K H e0 []) ∧ ∀ H, SqT K H e1 [] := by
    obtain ⟨ds, hv, hb⟩ := bd
    obtain ⟨fd', G', _, _⟩ := c_init
    exact ⟨_, _, _, ds, ok_Puzzle_init F5 T1 c_chk c_trm c_spl, hb, hv, fun H => XT.emptyAtB_ok (c.fact 16 rfl) H, fun H => XT.emptyAtB_ok (c.fact 17 rfl) H⟩
  have c_draw : Cl P w K mg base CX0 1 (ga K "_law_draw") ["_law_pen", "_law_many"] spDraw := ⟨d6, (ok_law_draw F6 T0).mono (by decide), FunD.bindsN (ps := ["_law_pen", "_law_many"]) F6 fun _ _ _ _ _ _ us hl => match us, hl with | [_, _], _ => rfl, F6.kp⟩
  have c_pick : Cl P w K mg base CX0 2 (ga K "_law_pick") ["_law_pen", "_law_row"] (spPick K) := ⟨d7, (ok_law_pick F7 T0 c_draw).mono (by decide), FunD.bindsN (ps := ["_law_pen", "_law_row"]) F7 fun _ _ _ _ _ _ us hl => match us, hl with | [_, _], _ => rfl, F7.kp⟩
  have c_chkX : Cl P w K mg base (L2.CX P w) 2 (ga K "check_entries") ["bits", "children"] (spChkX K) := ⟨d1, ok_check_entriesX F1 T2 c_bit, FunD.bindsN (ps := ["bits", "children"]) F1 fun _ _ _ _ _ _ us hl => match us, hl with | [_, _], _ => rfl, F1.kp⟩
  have c_initX : Cl P w K mg base (L2.CX P w) 3 (ma K (ga K "Puzzle") "__init__") ["self", "bits", "children"] (spInitX K) := ⟨d5, ok_initX F5 T2 c_chkX c_trm c_spl, bi, F5.kp⟩
  have bd1 : ∃ ds, Vals [V.ref (dflAt ("Puzzle", some "__init__") 1 K)] ds ∧ L2.Binds K d5 ["self", "bits", "children"] ds :=
    FunD.binds1 (ps := ["self", "bits", "children"]) F5 2 1 (fun z => nomatch z) rfl (fun T kV doc pm an cdv ct us its h1 h2 => match us, its, h1, h2 with | [_, _], [_, _], _, _ => ⟨_, rfl, rfl⟩)
  have hdef1 : ∃ (fd1 : FuncData) (e1 : Addr) (ds1 : List Value), FnOk P w K mg base CX0 3 (ma K (ga K "Puzzle") "__init__") fd1 ["self", "bits", "children"] (spInit K) ∧ L2.Binds K fd1 ["self", "bits", "children"] ds1 ∧ Vals [V.ref e1] ds1 ∧ ∀ H, SqT K H e1 [] := by
    obtain ⟨ds, hv, hb⟩ := bd1
    exact ⟨_, _, ds, ok_Puzzle_init F5 T1 c_chk c_trm c_spl, hb, hv, fun H => XT.emptyAtB_ok (c.fact 17 rfl) H⟩
  have c_told : Cl P w K mg base CX0 5 (ga K "_law_told") ["_law_bits", "_law_kids"] (spTold K) := ⟨d8, (ok_law_told F8 T2 c_initX).mono (by decide), FunD.bindsN (ps := ["_law_bits", "_law_kids"]) F8 fun _ _ _ _ _ _ us hl => match us, hl with | [_, _], _ => rfl, F8.kp⟩
  have c_chain : Cl P w K mg base CX0 9 (ga K "_law_chain") ["_law_many"] (spChain K) := ⟨d9, (ok_law_chain F9 T2 c_init hdef).mono (by decide), FunD.bindsN (ps := ["_law_many"]) F9 fun _ _ _ _ _ _ us hl => match us, hl with | [_], _ => rfl, F9.kp⟩
  have c_due : Cl P w K mg base CX0 1 (ga K "_law_due") ["_law_bits", "_law_kids", "_law_bad"] (spDue2 K) := ⟨d10, (ok_law_due F10 T2).mono (by decide), FunD.bindsN (ps := ["_law_bits", "_law_kids", "_law_bad"]) F10 fun _ _ _ _ _ _ us hl => match us, hl with | [_, _, _], _ => rfl, F10.kp⟩
  exact ok_law F11 T2 c_init c_draw c_pick c_told c_chain c_due hdef1
end K08

open PySem PySem.W PySem.Calls PyProof.Rows
theorem PySem.Challenge.cw_tryback_k08_puzzles_refused_holds : PySem.Challenge.rw_tryback_k08_puzzles_refused.Holds := by
  w_on; o_law
  refine HandSHeadRun.head_any (r := OpenLaw.row PySem.Challenge.rw_tryback_k08_puzzles_refused) (q := view (OpenLaw.row PySem.Challenge.rw_tryback_k08_puzzles_refused).prog [20]) (H := K08.hk) (ob := K08.ob) (M := K08.steps) (loose := K08.loose) (d := HandSHeadRun.topDef (OpenLaw.row PySem.Challenge.rw_tryback_k08_puzzles_refused).prog 20) (kwd := []) K08.ob_eq
    (by kernel_rfl) (fun s => by kernel_rfl) K08.run (by kernel_rfl) (by kernel_rfl) (by kernel_rfl) (by rfl) (by first | assumption | decide +kernel) (by decide +kernel) ⟨rfl, rfl, rfl, rfl, rfl, by decide +kernel⟩ ?hw ?hc
  case hw => w_witness2
  case hc =>
    refine L2.walk_ofE (l := PySem.Challenge.rw_tryback_k08_puzzles_refused) (n := 63) (k := 13) (x := "_law_script") (CX := L2.CX0) rfl (by decide) (by kernel_rfl) ⟨rfl, by decide, by decide⟩ ?F (fun _ _ _ _ z => z)
    intro w mg fa h Y G hmg0
    obtain ⟨K, KX, c⟩ := Y
    have hmg : mg ("law" : PySem.Str) = some (.ref fa) := by
      have e : (HandSHeadRun.topDef (OpenLaw.row PySem.Challenge.rw_tryback_k08_puzzles_refused).prog 20).name = ("law" : PySem.Str) := by kernel_rfl
      rw [← e]
      exact hmg0
    obtain ⟨fd, hb, hF⟩ := K08.facts (P := (PySem.Challenge.rw_tryback_k08_puzzles_refused).prog) (w := w) KX G hmg c
    exact ⟨K, fd, K08.spLaw K, KX, hb, fun H a ns hl _ hS => ⟨a, ns, rfl, hS, hl, fun _ => rfl⟩, hF⟩

