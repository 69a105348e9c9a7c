import PyProof.Rows.All
import Wide.All
import OpenK.AllK
import Wide.FinOn
import KE.KIsAll
import KE.KTryMore
import HandS.ForMost
import HandS.ForExc
import HandS.ExcInit
import HandS.ExcIs
import HandS.ExcValue
import HandS.ExcField
import HandS.IsInst
import HandS.Evl
import HandS.Defaults
import HandS.Head0
import HandS.Head1
import HandS.Head2
import HandS.HeadEnd
import HandS.HeadHook1
import HandS.HeadHook2
import HandS.Iter
import HandS.Dict
import HandS.More
import HandS.HeadHook3
import HandS.TryMany
import HandS.TupAny
import HandS.Star
import HandS.Zip
import HandS.Steps
import HandS.Walk
import HandS.Flow
import HandS.ExcOwn
import HandS.SortKw
import HandS.Style
import HandS.FStr
import HandS.Small
import KE.DataMinMax
import KE.DatumOrd
import KE.DataCmp
import KE.GoesEnum
import KE.GoesMore
import OpenK.KMeth
import HandS.DictComp
import HandS.Conv
import HandS.SetKeys
import HandS.Property
import KE.KDictSum
import KE.KDictCopyH
import HandS.Gcd
import HandS.SetFor
import KE.KMathGC
import PyProof.Rows.CountFlat
import PySem.Challenge.RW_tryback_k73_whole_orders_of_logs
import HandS.Lambda
import HandS.Deep
import HandS.Head3
set_option Elab.async false
set_option linter.all false
set_option maxRecDepth 100000
set_option maxHeartbeats 4000000
/-! Own exceptions as values: made, their fields read, asked for their class. -/
namespace XV
open PySem PySem.Spec PyProof.Rows L2

/-! ### the class of such a value -/
theorem dataFound {K : PySem.W.Frag} {C : Addr} {od : Option Obj} {n : Str} {a g : Value} (hc : (PySem.W.clsIn K C).isSome = true) (ha : PySem.W.findIn K (.ref C) n = some (some a))
    (hg : PySem.W.specialIn K a "__get__" = some (some g)) (ht : PySem.W.takesIn K a = some true) : PySem.W.findObj K C od n = some (.bind g a) := by
  cases od with
  | none => exact PySem.W.findObj_dataN hc ha hg ht
  | some o => exact PySem.W.findObj_data hc ha hg ht

section
variable {prog : Program} {w : World} {A : Around} {E : Value → Shared → Prop} {sh : Shared} {K : PySem.W.Frag} {e D : Addr} {oe : Obj} {od : Option Obj}
theorem askCls {R : Option Value → Shared → Prop} (T : ExcC K D) (KI : K.In sh.heap) (J : PySem.W.InstAt sh.heap e oe D od) (r : R (some (.ref D)) { sh with toks := sh.toks + 1 }) :
    wpAny (model prog w) A (getAttr? (.ref e) "__class__") R E sh := by
  obtain ⟨t1, t2, t3, t4, t5, t6, t7, t8⟩ := T
  have some' : (PySem.W.clsIn K D).isSome = true := by
    obtain ⟨cd, z, _⟩ := PySem.W.any_some t4
    rw [z]
    rfl
  have fd := dataFound (od := od) some' t5 t6 t7
  obtain ⟨hh, gs, dr, tk, os⟩ := sh
  have ty := J.type (M := model prog w)
  have l1 := PySem.W.looks_findIn (M := model prog w) KI t1
  have l2 := PySem.W.looks_findIn (M := model prog w) KI t2
  have l3 := PySem.W.looks_find (M := model prog w) KI J fd
  have isB : PySem.W.Looks (model prog w) hh (isInstance (.ref e) (.type "BaseException")) true := ty.andThen (PySem.W.looks_subIn KI t3)
  have z0 : (false && onTheHeap (Value.builtin "BaseException.__getattribute__")) = false := rfl
  have z2 : (Value.builtin "BaseException.__getattribute__" == Value.builtin "object.__getattribute__") = false := by decide +kernel
  have z1 : (onTheHeap (Value.ref D) && Value.builtin "BaseException.__getattribute__" == Value.builtin "object.__getattribute__") = false := by rw [z2]; rfl
  unfold getAttr?
  unfold getAttrBy?
  unfold getAttrBy
  refine wpAny_bind (wpAny_mkText (wpAny_bind (wpAny_attempt (wpAny_holding (wpAny_bind (ty.at (wpAny_bind (l1.at ?_))))))))
  show wpAny _ _ (if (onTheHeap (Value.ref D) && Value.builtin "BaseException.__getattribute__" == Value.builtin "object.__getattribute__") = true then _ else _) _ _ _
  rw [z1, if_neg Bool.false_ne_true]
  unfold getAttrByItsOwn
  unfold hookBefore
  refine wpAny_bind ?_
  rw [if_pos (show onTheHeap (Value.ref D) = true from rfl)]
  refine l2.at ?_
  refine wpAny_bind (wpAny_attempt (wpAny_holding ?_))
  unfold callGetattribute
  rw [z0, if_neg Bool.false_ne_true]
  unfold boundAndCalled
  rw [PySem.F.excAttr_ValueError.ga.bind (.ref e)]
  refine wpAny_bind (wpAny_pure ?_)
  show wpAny _ _ (call (.builtin "BaseException.__getattribute__") [.ref e, .str "__class__" tk]) _ _ _
  refine wpAny_call (codeAny_call_builtin PySem.F.excAttr_ValueError.ga.plain PySem.F.entry_bexc_ga ?_)
  refine @PySem.W.check_slot (model prog w) _ _ ⟨hh, gs, dr, tk + 1, os⟩ "BaseException.__getattribute__" "BaseException" "__getattribute__" (.ref e) [.str "__class__" tk] [] _ (by decide +kernel) (by decide +kernel) isB (PySem.F.args_bexc_ga (.ref e) (.str "__class__" tk)) ?_
  unfold Builtin.«object.__getattribute__»
  refine wpAny_bind (wpAny_of_eq (a := ((Value.ref e : Value), [Value.str "__class__" tk])) (by first | rfl | (simp only [Builtin.slotArgs]; rfl)) ?_)
  refine wpAny_bind (wpAny_pure (wpAny_bind (ty.at (wpAny_bind (l3.at ?_)))))
  show wpAny _ _ (holding [Value.builtin "object.__class__"] (call (.builtin "getset_descriptor.__get__") [.builtin "object.__class__", .ref e, .ref D]) >>= ret) _ _ _
  refine wpAny_bind (wpAny_holding (wpAny_call (PySem.W.class_get (s := ⟨hh, gs, dr, tk + 1, os⟩) (ox := oe) (od := od) KI J t8 ?_)))
  refine wpAny_pure ?_
  show wpAny _ _ (handedOut (.ref D)) _ _ _
  rw [PySem.W.handedOut_of (v := .ref D) rfl]
  first
    | exact wpAny_pure (wpAny_pure r)
    | exact wpAny_pure r
    | exact wpAny_pure (wpAny_bind (wpAny_pure (wpAny_pure r)))
theorem kitOf (T : ExcC K D) : PySem.W.KitX K (.ref e) (.ref D) (fun h => PySem.W.InstAt h e oe D od) := by
  obtain ⟨cd, hc, _⟩ := PySem.W.any_some T.hd
  unfold PySem.W.clsIn at hc
  split at hc
  · rename_i c' d' cd' sl' lk
    refine ⟨fun _ _ _ J => J.type, fun M h KI _ A' Q' E' s' k q => ?_, fun h tp dd its n sl KI htp => ?_, fun KI J r => askCls T KI J r⟩
    · unfold isType loadHead
      exact wpAny_bind (wpAny_loadPart (k _ _ (KI _ _ lk)) (wpAny_pure q))
    · refine Bool.eq_false_iff.mpr fun q => ?_
      have e1 : D = tp := Value.ref.inj (beq_iff_eq.mp q)
      rw [← e1] at htp
      have z := (KI _ _ lk).symm.trans htp
      cases z
  · cases hc
end

/-! ### what is tracked of an exception -/
/-- at a: an exception of the class at C that has the fields fs -/
def ExF (H : Hp) (a C : Addr) (fs : List (Str × V)) : Prop := ∃ d, H a = some (exo a C (some d)) ∧ H d = some (exd d fs)
/-- at a: an exception of the class at C -/
def ExAt (H : Hp) (a C : Addr) : Prop := (∃ fs, ExF H a C fs) ∨ H a = some (exo a C none)
theorem ExF.at {H : Hp} {a C : Addr} {fs : List (Str × V)} (h : ExF H a C fs) : ExAt H a C := .inl ⟨fs, h⟩
theorem ExF.mono {H H' : Hp} {a C : Addr} {fs : List (Str × V)} (k : Evl.Ex H H') (h : ExF H a C fs) : ExF H' a C fs := by
  obtain ⟨d, h1, h2⟩ := h
  exact ⟨d, k _ _ h1, k _ _ h2⟩
theorem ExAt.mono {H H' : Hp} {a C : Addr} (k : Evl.Ex H H') (h : ExAt H a C) : ExAt H' a C := by
  rcases h with ⟨fs, h⟩ | h
  · exact .inl ⟨fs, h.mono k⟩
  · exact .inr (k _ _ h)
theorem inst_of {X : Cx} {pins : List (Addr × Obj)} {σ : L2.St} {H : Hp} {s : Shared} {a C : Addr} (I : Inv X pins σ H s) (h : ExAt H a C) : ∃ oe od, PySem.W.InstAt s.heap a oe C od := by
  rcases h with ⟨fs, d, h1, h2⟩ | h
  · obtain ⟨t, ho⟩ := exo_at I.hok h1
    obtain ⟨mA, ⟨oD, es, ep, hD, _⟩, _⟩ := exd_at I.hok h2
    exact ⟨_, some oD, ho, rfl, rfl, hD⟩
  · obtain ⟨t, ho⟩ := exo_at I.hok h
    exact ⟨_, none, ho, rfl, rfl, True.intro⟩

/-! ### isinstance(e, c) -/
def rIsX (K : PySem.W.Frag) : List V → Hp → VK → Prop := fun xs H Q => ∃ (a C : Addr) (c : V) (cv : Value) (b : Bool), xs = [.ref a, c] ∧ ExAt H a C ∧ ExcC K C ∧ ClsV c cv ∧ PySem.W.kitOne K (.ref C) cv = some b ∧ Q (.bl b) H
theorem call_isX {X : Cx} : CallR X (.builtin "isinstance") (rIsX X.K) := by
  intro pins s σ H xs us Q I r h
  obtain ⟨a, C, c, cv, b, rfl, hx, T, kc, e, q⟩ := h
  obtain ⟨u1, u2, rfl, r1, r2⟩ := vals2 r
  cases (show u1 = Value.ref a from r1)
  have e2 := kc.eq r2
  subst e2
  obtain ⟨oe, od, J⟩ := inst_of I hx
  exact PySem.W.kia_one (kitOf T) I.kIn J e (fun z => nomatch z) fun tk => ⟨.bl b, H, I.tok tk, rfl, q⟩

/-! ### e.f -/
def tXv (K : PySem.W.Frag) (f : Str) (te : TE) : TE := fun σ H Q => te σ H fun x H1 => ∃ (a C d : Addr) (fs : List (Str × V)) (v : V), x = .ref a ∧ H1 a = some (exo a C (some d)) ∧ H1 d = some (exd d fs) ∧ XfC K C ∧ PySem.W.findIn K (.ref C) f = some none ∧ fs.lookup f = some v ∧ Q v H1
theorem pe_xv {X : Cx} {e : Expr} {te : TE} {pos : Pos} {f : Str} (he : PE X e te) (hb : attributeBase e f X.env (eval e X.env) = eval e X.env := by rfl) : PE X (.Attribute e f pos) (tXv X.K f te) := by
  refine ⟨fun pins s σ H Q I h => ?_⟩
  refine attr_of hb (thn (he.run pins s σ H _ I h) fun u s1 ⟨x, H1, I1, rx, a, C, d, fs, v, ex, ha, hd, T, hno, l, q⟩ => ?_)
  subst ex
  cases (show u = Value.ref a from rx)
  obtain ⟨t, ho⟩ := exo_at I1.hok ha
  obtain ⟨mA, hns, hr⟩ := exd_at I1.hok hd
  obtain ⟨oD, hoD, hl⟩ := lookIn_ns hns
  obtain ⟨u', hu, ru⟩ := RelO.some_of (v := v) (o := mA f) (by rw [← l]; exact hr f)
  have J : PySem.W.InstAt s1.heap a _ C (some oD) := ⟨ho, rfl, rfl, hoD⟩
  exact HandSPX.exc_get I1.kIn J T.ga T.gg T.exC (PySem.W.findObj_own T.hdC hno rfl (by rw [hl, hu])) (handed_of ru) ⟨v, H1, I1.tok _, ru, q⟩

/-! ### C(e, ..), C's own __init__ keeping sp; C() without one -/
def tMkV (C : Addr) (sp : Sp) (ta : TA) : TE := fun σ H Q => ta σ H fun vs H1 => vs.length ≤ 1000 ∧ ∀ a, H1 a = none → sp (.ref a :: vs) (upd H1 a (exo a C none)) (fun v H2 => v = .non ∧ Q (.ref a) H2) E0
section
variable {X : Cx} {e : Expr} {es : List Expr} {ta : TA} {p pos : Pos} {x : Str} {C fI : Addr} {k : Nat} {fd : FuncData} {ps : List Str} {sp : Sp}
theorem pe_mkv (T : OexC X.K C) (iC : PySem.W.findIn X.K (.ref C) "__init__" = some (some (.ref fI))) (tI : PySem.W.typeIn X.K (.ref fI) = some (.type "function")) (F1 : FnOk X.prog X.w X.K X.mg X.base CX0 k fI fd ps sp)
    (hr : Room (k + 1) X.A) (hb : Binds X.K fd ps []) (hg : Gl X x) (hm : X.mg x = some (.ref C)) (ha : PA X (e :: es) ta)
    (hdb : (x == ("__debug__" : Str)) = false := by decide) (he : starEach (e :: es) X.env = (false, eval e X.env) :: starEach es X.env := by rfl) (hpl : (backTo pos (starEach es X.env)).any (·.1) = false := by rfl) :
    PE X (.Call (.Name x p) (e :: es) [] pos) (tMkV C sp ta) := by
  refine ⟨fun pins s σ H Q I h => ?_⟩
  obtain ⟨nm, q, N, bs, bm, sn, sub, ab, col, dd, k0, k1, k2, k3, k5, lC, lB⟩ := T.cls
  refine wpAny_Call_Name_kw (ld_glob I hg hm ?_ hdb)
  refine PySem.W.callWith_K (h₀ := X.base) I.ok.mod.kin T.kC (thn (ha.run pos pins s σ H _ I h) fun us s1 ⟨vs, H1, I1, r1, hz, q1⟩ => ⟨I1.kIn, ?_⟩) he hpl
  show wpAny _ _ (call (.ref C) us) _ _ _
  obtain ⟨hh, g, dr, tk, os⟩ := s1
  have top : hh.objs.size ≤ hh.objs.size + 1 := Nat.le_succ _
  have w0 := q1 (hh.objs.size + 1) (I1.hok.fresh top)
  have old : ∀ b o, hh.get? b = some o → ((hh.push (PySem.W.kdv_tup us)).push (PySem.HandSPX.excO C hh.objs.size)).get? b = some o := fun b o z => Heap.get?_push_of_some _ (Heap.get?_push_of_some _ z)
  have made : ((hh.push (PySem.W.kdv_tup us)).push (PySem.HandSPX.excO C hh.objs.size)).get? (hh.objs.size + 1) = some (PySem.HandSPX.excO C hh.objs.size) := by heap_get
  have J : Inv X pins σ (upd H1 (hh.objs.size + 1) (exo (hh.objs.size + 1) C none)) ⟨(hh.push (PySem.W.kdv_tup us)).push (PySem.HandSPX.excO C hh.objs.size), g, dr, tk, os⟩ :=
    I1.laid (t' := tk) old top (exo_ok made)
  have rv : Vals (V.ref (hh.objs.size + 1) :: vs) (Value.ref (hh.objs.size + 1) :: us) := .cons rfl r1
  have hl : (Value.ref (hh.objs.size + 1) :: us ++ []).length = ps.length := by
    have z := rv.length
    rw [F1.len _ _ _ _ w0] at z
    rw [List.append_nil]
    exact z.symm
  have hus : us.length ≤ sizeLine := by
    rw [← Paired.length r1, sizeLine_eq]
    omega
  have bd := hb ⟨(hh.push (PySem.W.kdv_tup us)).push (PySem.HandSPX.excO C hh.objs.size), g, dr, tk, os⟩ (Value.ref (hh.objs.size + 1) :: us) J.kIn hl
  rw [List.append_nil] at bd
  have F1' := F1.run _ X.stack _ _ ⟨Value.ref (hh.objs.size + 1) :: us, []⟩ (Value.ref (hh.objs.size + 1) :: us) _ _ E0 (hr.make C us []) (J.env0.make C us []) bd rv w0
  refine wpAny_call (PySem.HandSPX.call_own F.excBase_ValueError (fun Y => PySem.HandSPX.refsVE_contains Y bm lB) (I1.kIn _ _ lC) (PySem.W.looks_findIn I1.kIn iC) (fun self => PySem.W.bind_fn I1.kIn self tI) hus
    (codeAny_mono F1' fun r s' hq => ?_))
  cases r with
  | error er => exact False.elim hq
  | ok fl =>
    cases fl with
    | ret u =>
      obtain ⟨v, H2, I2, r2, ev, q2⟩ := J.after hq
      subst ev
      exact ⟨r2, ⟨.ref (hh.objs.size + 1), H2, I2, rfl, q2⟩⟩
    | next => exact False.elim hq
    | brk => exact False.elim hq
    | cont => exact False.elim hq
def tMk0 (C : Addr) : TE := fun _ H Q => ∀ a, H a = none → Q (.ref a) (upd H a (exo a C none))
theorem pe_mk0 {bmB : List Value} {B newId initId : String} (F : ExcBaseFacts B newId initId bmB) (q : PySem.W.excIn X.K C bmB newId = true) (kC : PySem.W.keepIn X.K (.ref C) = true) (hg : Gl X x) (hm : X.mg x = some (.ref C))
    (hdb : (x == ("__debug__" : Str)) = false := by decide) : PE X (.Call (.Name x p) [] [] pos) (tMk0 C) := by
  refine ⟨fun pins s σ H Q I h => ?_⟩
  refine wpAny_Call_Name_kw (ld_glob I hg hm ?_ hdb)
  refine PySem.W.callWith_K0 I.kIn kC ?_
  show wpAny _ _ (call (.ref C) []) _ _ _
  obtain ⟨bm, N, nm, qn, bs, hdct, sn, sub, ab, col, dd, k0, k1, k2, k3, k5, mN, hC, hN, hni, T⟩ := exc_obj I.kIn q
  refine wpAny_call_exc_subT F T hC hN hni (fun h' a hm => ?_) (by show 0 ≤ sizeLine; exact Nat.zero_le _)
  have hn : H a = none := I.hok.gone hm.new
  obtain ⟨t, ht, _, _⟩ := hm.there
  exact ⟨.ref a, upd H a (exo a C none), I.laidN hm.keeps hm.new hn (exo_ok ht), rfl, h a hn⟩
end
end XV

set_option Elab.async false
set_option linter.all false
set_option maxRecDepth 100000
set_option maxHeartbeats 4000000
/-! A head's facts as any tests of the written part. -/
namespace XH
open PySem PySem.Spec PyProof.Rows L2 He
abbrev Fc : Type := PySem.W.Frag → Bool
def obsB (fa : List Fc) (fn : List DefD) (K : PySem.W.Frag) : AlD := ((fa.all fun f => f K) && fn.all fun d => d.ok K, fn.map fun d => fnW K d.at_)
def SaysB (fa : List Fc) (fn : List DefD) (K : PySem.W.Frag) : Prop := obsB fa fn K = valD fn
def obsBG (n : Nat) (fa : List Fc) (fn : List DefD) (g : Addr → Option Obj) : AlD := obsB fa fn (frG g (asD g n))
def hookB (n : Nat) (fa : List Fc) (fn : List DefD) : PySem.W.Hook where
  α := AlD
  obs := fun st => obsBG n fa fn st.heap.get?
  val := fun _ => valD fn
  says := fun _ hh => ∃ K : PySem.W.Frag, K.In hh ∧ SaysB fa fn K
  of := fun _ _ z => ⟨_, frG_in, z⟩
  keeps := fun _ _ _ ⟨K, inn, c⟩ kk => ⟨K, PySem.W.Frag.In.keeps inn kk, c⟩
theorem obsBG_eq {n : Nat} {fa : List Fc} {fn : List DefD} {g : Addr → Option Obj} {s : Shared} (h : ∀ a, g a = s.heap.get? a) : obsBG n fa fn g = (hookB n fa fn).obs s := by
  have z : g = s.heap.get? := funext h
  rw [z]
  rfl
section
variable {fa : List Fc} {fn : List DefD} {K : PySem.W.Frag}
theorem SaysB.fact (c : SaysB fa fn K) (i : Nat) {f : Fc} (h : fa[i]? = some f := by rfl) : f K = true := by
  have c1 : ((fa.all fun f => f K) && fn.all fun d => d.ok K) = true := congrArg (fun z : AlD => z.1) c
  exact List.all_eq_true.mp (ba c1).1 f (List.mem_of_getElem? h)
theorem SaysB.def_ (c : SaysB fa fn K) (i : Nat) {d : DefD} (h : fn[i]? = some d := by rfl) : ∃ fd, FunD K d.name d.qual d.params d.body d.scope (d.dvs K) (d.kws K) (fAd K d.at_) fd := by
  have c1 : ((fa.all fun f => f K) && fn.all fun d => d.ok K) = true := congrArg (fun z : AlD => z.1) c
  have c2 : fn.map (fun d => fnW K d.at_) = fn.map DefD.val := congrArg (fun z : AlD => z.2) c
  have c3 : (fn.map fun d => fnW K d.at_)[i]? = (fn.map DefD.val)[i]? := congrArg (fun l => l[i]?) c2
  rw [List.getElem?_map, List.getElem?_map, h] at c3
  exact DefD.funD (Option.some.inj c3) (List.all_eq_true.mp (ba c1).2 d (List.mem_of_getElem? h))
end
/-! ### names -/
def glosB (l : List Str) : Fc := fun K => l.all fun x => (Fa.glo x).ok K
def freesB (l : List Str) : Fc := fun K => l.all fun x => (Fa.free x).ok K
theorem glos_ok {K : PySem.W.Frag} {h : Heap} {mg : Str → Option Value} {l : List Str} (X : K.In h) (G : h.Ns mainGlobals mg) (c : glosB l K = true) (x : Str) (hx : x ∈ l) : mg x = some (.ref (ga K x)) := glo_ok X G (List.all_eq_true.mp c x hx)
theorem frees_ok {K : PySem.W.Frag} {h : Heap} {mg : Str → Option Value} {l : List Str} (X : K.In h) (G : h.Ns mainGlobals mg) (c : freesB l K = true) (x : Str) (hx : x ∈ l) : mg x = none := free_ok X G (List.all_eq_true.mp c x hx)
/-! ### own exception classes -/
def excCB (K : PySem.W.Frag) (C : Addr) : Bool :=
  eqO (PySem.W.findIn K (.ref C) "__getattribute__") (some (some (.builtin "BaseException.__getattribute__"))) && (eqO (PySem.W.findIn K (.ref C) "__getattr__") (some none) && (decide (PySem.W.subIn K (.ref C) (.type "BaseException") = some true) &&
  (PySem.W.hasDictIn K C && (eqO (PySem.W.findIn K (.ref C) "__class__") (some (some (.builtin "object.__class__"))) && (eqO (PySem.W.specialIn K (.builtin "object.__class__") "__get__") (some (some (.builtin "getset_descriptor.__get__"))) &&
  (decide (PySem.W.takesIn K (.builtin "object.__class__") = some true) && decide (PySem.W.mroIn K C (.type "object") = some true)))))))
theorem excC_ok {K : PySem.W.Frag} {C : Addr} (h : excCB K C = true) : ExcC K C := by
  obtain ⟨h1, h⟩ := ba h
  obtain ⟨h2, h⟩ := ba h
  obtain ⟨h3, h⟩ := ba h
  obtain ⟨h4, h⟩ := ba h
  obtain ⟨h5, h⟩ := ba h
  obtain ⟨h6, h⟩ := ba h
  obtain ⟨h7, h8⟩ := ba h
  exact ⟨eqO_ok h1, eqO_ok h2, of_decide_eq_true h3, h4, eqO_ok h5, eqO_ok h6, of_decide_eq_true h7, of_decide_eq_true h8⟩
def exB (K : PySem.W.Frag) (C : Addr) : Bool := match K.lookup C with
  | some ⟨.type "type", _, .cls cd, sl⟩ => (match cd.mro, sl.toList with
    | .ref C' :: bm, [_, _, _, _, some (.builtin n), _] => C' == C && (n == "ValueError.__new__" && (!cd.hasDel && (cd.hasDict && PySem.HandSPX.refsVE bm)))
    | _, _ => false)
  | _ => false
theorem exB_ok {K : PySem.W.Frag} {C : Addr} (q : exB K C = true) : ∃ nm qn N bs bm sn sub ab col dd k0 k1 k2 k3 k5, K.lookup C = some (excClassObj nm qn C N bs bm true sn sub ab col dd k0 k1 k2 k3 k5 "ValueError.__new__") ∧ PySem.HandSPX.refsVE bm = true := by
  unfold exB at q
  split at q
  · rename_i dd cd sl lk
    split at q
    · rename_i C' bm k0 k1 k2 k3 n k5 hm hs
      obtain ⟨q1, q⟩ := ba q
      obtain ⟨q2, q⟩ := ba q
      obtain ⟨q3, q⟩ := ba q
      obtain ⟨q4, q5⟩ := ba q
      have e1 := beq_iff_eq.mp q1
      have e2 := beq_iff_eq.mp q2
      subst e1 e2
      obtain ⟨nm, bs, mro, ns, qn, hd, sn, sub, ab, col, del⟩ := cd
      dsimp only at hm q3 q4
      have e3 : del = false := by simpa using q3
      subst hm e3 q4
      have hsl : sl = #[k0, k1, k2, k3, some (.builtin "ValueError.__new__"), k5] := by
        obtain ⟨l⟩ := sl
        have hs' : l = [k0, k1, k2, k3, some (.builtin "ValueError.__new__"), k5] := hs
        rw [hs']
      subst hsl
      exact ⟨nm, qn, ns, bs, bm, sn, sub, ab, col, dd, k0, k1, k2, k3, k5, lk, q5⟩
    · cases q
  · cases q
/-- an own class with an __init__ of its own that stores the fields fs -/
def ownB (K : PySem.W.Frag) (x : Str) (fs : List Str) : Bool :=
  exB K (ga K x) && (eqO (PySem.W.findIn K (.ref (ga K x)) "__setattr__") (some (some (.builtin "object.__setattr__"))) && (decide (PySem.W.typeIn K (.ref (ga K x)) = some (.type "type")) && (PySem.W.keepIn K (.ref (ga K x)) &&
  ((fs.all fun f => eqO (PySem.W.findIn K (.ref (ga K x)) f) (some none)) && (eqO (PySem.W.findIn K (.ref (ga K x)) "__init__") (some (some (.ref (ma K (ga K x) "__init__")))) &&
  (decide (PySem.W.typeIn K (.ref (ma K (ga K x) "__init__")) = some (.type "function")) && excCB K (ga K x)))))))
structure Own (K : PySem.W.Frag) (C fI : Addr) (fs : List Str) : Prop where
  ox : OexC K C
  no : ∀ f ∈ fs, PySem.W.findIn K (.ref C) f = some none
  iC : PySem.W.findIn K (.ref C) "__init__" = some (some (.ref fI))
  tI : PySem.W.typeIn K (.ref fI) = some (.type "function")
  ec : ExcC K C
theorem Own.xf {K : PySem.W.Frag} {C fI : Addr} {fs : List Str} (o : Own K C fI fs) : XfC K C := ⟨o.ec.hg, o.ec.hk, o.ec.hs, o.ec.hd⟩
theorem own_ok {K : PySem.W.Frag} {x : Str} {fs : List Str} (h : ownB K x fs = true) : Own K (ga K x) (ma K (ga K x) "__init__") fs := by
  obtain ⟨h1, h⟩ := ba h
  obtain ⟨h2, h⟩ := ba h
  obtain ⟨h3, h⟩ := ba h
  obtain ⟨h4, h⟩ := ba h
  obtain ⟨h5, h⟩ := ba h
  obtain ⟨h6, h⟩ := ba h
  obtain ⟨h7, h8⟩ := ba h
  have e := excC_ok h8
  exact ⟨⟨exB_ok h1, eqO_ok h2, e.hs, of_decide_eq_true h3, h4⟩, fun f hf => eqO_ok (List.all_eq_true.mp h5 f hf), eqO_ok h6, of_decide_eq_true h7, e⟩
/-- an own class without one -/
def bareB (K : PySem.W.Frag) (x : Str) : Bool := PySem.W.excIn K (ga K x) veBase "ValueError.__new__" && (PySem.W.keepIn K (.ref (ga K x)) && excCB K (ga K x))
structure Bare (K : PySem.W.Frag) (C : Addr) : Prop where
  ex : PySem.W.excIn K C veBase "ValueError.__new__" = true
  kC : PySem.W.keepIn K (.ref C) = true
  ec : ExcC K C
theorem bare_ok {K : PySem.W.Frag} {x : Str} (h : bareB K x = true) : Bare K (ga K x) := by
  obtain ⟨h1, h⟩ := ba h
  obtain ⟨h2, h3⟩ := ba h
  exact ⟨h1, h2, excC_ok h3⟩
/-! ### the promise of such an __init__ of one, of two fields -/
def spI1 (K : PySem.W.Frag) (C : Addr) (f : Str) : Sp := fun vs H Q _ => ∃ (a : Addr) (y : V), vs = [.ref a, y] ∧ OexC K C ∧ PySem.W.findIn K (.ref C) f = some none ∧ H a = some (exo a C none) ∧
  ∀ d, H d = none → d ≠ a → Q .non (upd (upd H d (exd d [(f, y)])) a (exo a C (some d)))
def spI2 (K : PySem.W.Frag) (C : Addr) (f g : Str) : Sp := fun vs H Q _ => ∃ (a : Addr) (y z : V), vs = [.ref a, y, z] ∧ OexC K C ∧ PySem.W.findIn K (.ref C) f = some none ∧ PySem.W.findIn K (.ref C) g = some none ∧ H a = some (exo a C none) ∧
  ∀ d, H d = none → d ≠ a → Q .non (upd (upd (upd H d (exd d [(f, y)])) a (exo a C (some d))) d (exd d [(g, z), (f, y)]))
end XH

set_option Elab.async false
set_option linter.all false
set_option maxRecDepth 100000
set_option maxHeartbeats 4000000
/-! Rules that were lacking: a text some times over, get of a table of the top, what is walked either way, an error without arguments, several clauses that each keep their error, isinstance of it. -/
namespace XR
open PySem PySem.Spec PyProof.Rows L2

/-! ### text * n -/
def repS (z : Str) (n : Nat) : Str := ⟨(List.replicate n z.cps).foldl (· ++ ·) #[]⟩
theorem rep_size (a : Array Nat) : ∀ (n : Nat) (acc : Array Nat), ((List.replicate n a).foldl (· ++ ·) acc).size = acc.size + n * a.size
  | 0, acc => by simp
  | n + 1, acc => by
    rw [List.replicate_succ, List.foldl_cons, rep_size a n, Array.size_append, Nat.succ_mul]
    omega
theorem repS_len (z : Str) (n : Nat) : (repS z n).length = n * z.length := by
  show ((List.replicate n z.cps).foldl (· ++ ·) #[]).size = n * z.cps.size
  rw [rep_size]
  simp
theorem op_mulS {X : Cx} : OpR X (binaryOp .Mult) (fun x y H Q => ∃ (z : Str) (n : Nat), x = .str z ∧ y = .int (n : Int) ∧ (1 ≤ n ∧ n ≤ 1000) ∧ (1 ≤ z.length ∧ z.length ≤ 1000) ∧ Q (.str (repS z n)) H) := by
  intro pins s σ H x y v u Q I rx ry h
  obtain ⟨z, n, rfl, rfl, ⟨n1, n2⟩, ⟨z1, z2⟩, q⟩ := h
  obtain ⟨t, rfl⟩ := rx
  obtain ⟨t', rfl⟩ := ry
  have c1 : decide ((n : Int) < -(2 ^ 63 : Int)) = false := decide_eq_false (by omega)
  have c2 : decide ((n : Int) ≥ 2 ^ 63) = false := decide_eq_false (by omega)
  refine PySem.P.mul_str (by rw [c1, c2]; rfl) (fun _ _ => ?_) (fun _ _ => ?_) ?_
  · have k : (1000000 : Int) ≤ (2 ^ 63 - 1) / (n : Int) := by
      refine Int.le_ediv_of_mul_le (by omega) ?_
      omega
    omega
  · have k : z.length * (n : Int).toNat ≤ 1000 * 1000 := Nat.mul_le_mul z2 (by omega)
    show decide (z.length * (n : Int).toNat > sizeLine) = false
    refine decide_eq_false ?_
    rw [sizeLine_eq]
    omega
  · rw [if_neg (by omega)]
    by_cases e : n = 1
    · subst e
      have e2 : repS z 1 = z := by
        unfold repS
        simp
      rw [if_pos (by rfl)]
      rw [e2] at q
      exact ⟨.str z, H, I, ⟨_, rfl⟩, q⟩
    · have b : ((n : Int) == 1 || z.length == 0) = false := by
        have b1 : ((n : Int) == 1) = false := by
          rw [beq_eq_false_iff_ne]
          omega
        have b2 : (z.length == 0) = false := by
          rw [beq_eq_false_iff_ne]
          omega
        rw [b1, b2]
        rfl
      rw [b, if_neg Bool.false_ne_true]
      have en : (n : Int).toNat = n := by omega
      rw [en]
      have lr : (repS z n).length ≤ sizeLine := by
        rw [repS_len, sizeLine_eq]
        have k : n * z.length ≤ 1000 * 1000 := Nat.mul_le_mul n2 z2
        omega
      exact ⟨lr, ⟨.str (repS z n), H, I.tok _, ⟨_, rfl⟩, q⟩⟩

/-! ### d.get(x), d a table of the top -/
def tKGet (K : PySem.W.Frag) (w : World) (td ty : TE) : TE := fun σ H Q => td σ H fun x H1 => ∃ (a : Addr) (es : Array DictEntry) (n : Nat), x = .ref a ∧ KDict K w a es n ∧ ty σ H1 fun y H2 => ∃ (z : Str) (r : Option Value) (v : V), y = .str z ∧ PySem.W.nsIn K a z = some r ∧ RelV v (r.getD .none) ∧ Q v H2
theorem pe_kget {X : Cx} {o e : Expr} {apos cpos : Pos} {td ty : TE} (ho : PE X o td) (he : PE X e ty) (m : M1 X o "get" apos e cpos) : PE X (.Call (.Attribute o "get" apos) [e] [] cpos) (tKGet X.K X.w td ty) := by
  refine ⟨fun pins s σ H Q I h => ?_⟩
  refine wpAny_Call_method m.base m.few m.line PySem.F.plainAttrs_dict PySem.F.slot_dict_get PySem.F.type_dict_get (thn (ho.run pins s σ H _ I h) fun u s1 ⟨x, H1, I1, rx, a, es, n, ex, D, q1⟩ => ?_)
  subst ex
  cases (show u = Value.ref a from rx)
  refine ⟨kd_type D I1, fun b q => ?_, ?_⟩
  · cases q
    exact ⟨_, I1.kIn _ _ D.at_, rfl⟩
  rw [m.trees]
  refine Calls.callWith_builtin rfl (Calls.evalArgs_plain (Calls.spliced_cons (thn (he.run pins s1 σ H1 _ I1 q1) fun iv s2 ⟨y, H2, I2, ry, z, r, v, ey, en, rv, q2⟩ => Calls.spliced_nil ?_)))
  subst ey
  obtain ⟨t, rfl⟩ := (show ∃ t, iv = Value.str z t from ry)
  have mp := PySem.W.mapOf_K (prog := X.prog) (w := X.w) I2.kIn D.at_ D.lit
  refine call_meetsIn PySem.F.slot_dict_get mp.typeIs PySem.F.entry_dict_get (PySem.F.args_dict_get_2 _ _) (meets_dict_get (strKind X.prog X.w) a (strKind_is X.prog X.w z t) D.low) ⟨_, mp, ?_⟩
  rw [PySem.W.find_K D.at_ en]
  exact ⟨v, H2, I2.tok _, rv, q2⟩

/-! ### what may be walked in two ways -/
theorem pi_or {X : Cx} {tg l : Expr} {w1 w2 : TI} (h1 : PI X tg l w1) (h2 : PI X tg l w2) : PI X tg l (fun σ H R => w1 σ H R ∨ w2 σ H R) := ⟨fun pins s σ H R I h => h.elim (fun k => h1.run pins s σ H R I k) (fun k => h2.run pins s σ H R I k)⟩

/-! ### raise C() -/
theorem pmk0 {X : Cx} {C : Addr} {bmB : List Value} {B newId initId : String} {x : Str} {p pos : Pos} (F : ExcBaseFacts B newId initId bmB) (q : PySem.W.excIn X.K C bmB newId = true) (gC : X.mg x = some (.ref C)) (kC : PySem.W.keepIn X.K (.ref C) = true) (r : Raises X (.ref C)) (hg : Gl X x)
    (hdb : (x == ("__debug__" : Str)) = false := by decide) : PMk X (.Call (.Name x p) [] [] pos) (fun _ H Q => Q (.ref C) none H) := by
  intro pins s σ H Q I h
  refine wpAny_Call_Name_kw (ld_glob I hg gC ?_ hdb)
  refine PySem.W.callWith_K0 I.kIn kC ?_
  show wpAny _ _ (call (.ref C) []) _ _ _
  obtain ⟨bm, N, nm, qn, bs, hdct, sn, sub, ab, col, dd, k0, k1, k2, k3, k5, mN, hC, hN, hni, T⟩ := exc_obj I.kIn q
  exact wpAny_call_exc_subT F T hC hN hni (fun h' a hm => mk_of I hm r h (I.hok.gone hm.new)) (by show 0 ≤ sizeLine; exact Nat.zero_le _)

/-! ### isinstance(e, c), e the error that the suite holds -/
def rIsS (K : PySem.W.Frag) (cls : Value) (d : Option Addr) (a : Addr) : List V → Hp → VK → Prop := fun xs H Q => ∃ (C : Addr) (c : V) (cv : Value) (b : Bool), xs = [.ref a, c] ∧ cls = .ref C ∧ ExcC K C ∧ (∀ dd, d = some dd → ∃ fs, H dd = some (.xd fs)) ∧ ClsV c cv ∧ PySem.W.kitOne K (.ref C) cv = some b ∧ Q (.bl b) H
theorem call_isS {X : Cx} {a : Addr} {oe : Obj} {cls : Value} {d : Option Addr} {pn : List (Addr × Obj)} (hz : Zc cls d oe) (hf : ∃ vs, oe.data = .fields vs) : CallR (X.suite a ((a, oe) :: pn)) (.builtin "isinstance") (rIsS X.K cls d a) := by
  intro pins s σ H xs us Q I r h
  obtain ⟨C, c, cv, b, rfl, rfl, T, hd, kc, e, q⟩ := h
  obtain ⟨u1, u2, rfl, r1, r2⟩ := vals2 r
  cases (show u1 = Value.ref a from r1)
  have e2 := kc.eq r2
  subst e2
  obtain ⟨there, _⟩ := I.pin (a, oe) (List.mem_append_left _ List.mem_cons_self)
  obtain ⟨vs, hv⟩ := hf
  obtain ⟨oc, od, dt, sl⟩ := oe
  obtain ⟨z1, z2⟩ := hz
  dsimp only at z1 z2 hv
  subst z1 z2 hv
  have J : ∃ oD, PySem.W.InstAt s.heap a ⟨.ref C, od, .fields vs, sl⟩ C oD := by
    cases od with
    | none => exact ⟨none, there, rfl, rfl, True.intro⟩
    | some dd =>
      obtain ⟨fs, hx⟩ := hd dd rfl
      have k : ObjOk X.prog X.w H s.heap dd (.xd fs) := I.hok dd _ hx
      obtain ⟨mA, ⟨oD, es, ep, hD, _⟩, _⟩ := k
      exact ⟨some oD, there, rfl, rfl, hD⟩
  obtain ⟨oD, J⟩ := J
  exact PySem.W.kia_one (XV.kitOf T) I.kIn J e (fun z => nomatch z) fun tk => ⟨.bl b, H, I.tok tk, rfl, q⟩

/-! ### try with several clauses, each «as» -/
def wMas (K : PySem.W.Frag) (Wout : WX) (D : Ends) : List (Value × Nat × (Addr → Value → Option Addr → TS)) → WX
  | [] => Wout
  | (c, i, ts) :: more => fun cls d σ H => ∃ b, PySem.W.exmOne K cls c = some b ∧ (b = true → ∀ a, H a = none → ts a cls d { nx := fun σ' H' => D.nx (σ'.set i none) H', rt := D.rt, bk := fun σ' H' => D.bk (σ'.set i none) H', ct := fun σ' H' => D.ct (σ'.set i none) H' } (σ.set i (some (.ref a))) H) ∧
    (b = false → wMas K Wout D more cls d σ H)
inductive HdsA (X : Cx) : List ExceptHandler → List (Value × Nat × (Addr → Value → Option Addr → TS)) → Prop
  | nil : HdsA X [] []
  | cons {x n : Str} {c : Value} {i : Nat} {ts : Addr → Value → Option Addr → TS} {st : Stmt} {suite : List Stmt} {np hp : Pos} {hds : List ExceptHandler} {l : List (Value × Nat × (Addr → Value → Option Addr → TS))} (hc : Names X x c) (hi : X.N[i]? = some n) (hln : X.env.kindOf n = some .local)
      (hsu : ∀ (a : Addr) (oe : Obj) (cls : Value) (d : Option Addr) (pn : List (Addr × Obj)), Zc cls d oe → (∃ vs, oe.data = .fields vs) → PSs (X.suite a ((a, oe) :: pn)) (st :: suite) (ts a cls d)) (more : HdsA X hds l) :
      HdsA X (.ExceptHandler (some (.Name x np)) (some n) (st :: suite) hp :: hds) ((c, i, ts) :: l)
section
variable {X : Cx} {body : List Stmt} {hd0 : ExceptHandler} {hds : List ExceptHandler} {l : List (Value × Nat × (Addr → Value → Option Addr → TS))} {pos : Pos} {tb : WX → TS} {Wout : WX}
theorem ps_try_mas (hst : X.stack = X.env :: X.outer) (hfr0 : X.env.frame = some X.env.locals) (nd : X.N.Nodup) (tk : Takes X Wout)
    (bod : ∀ (W : WX) (pn : List (Addr × Obj)) (xe : Value → Shared → Prop), Takes (X.tr pn xe) W → PassesOwn (model X.prog X.w) X.A X.env xe → PSs (X.tr pn xe) body (tb W))
    (all : HdsA X (hd0 :: hds) l) : PS X (.Try body (hd0 :: hds) [] [] pos) (fun D σ H => tb (wMas X.K Wout D l) D σ H) := by
  refine ⟨fun pins s σ H D I h => ?_⟩
  have okX := I.ok
  have frs0 : X.A.frames = some (X.env :: X.outer) := by rw [okX.frames, hst]
  refine wpAny_Try_except ?_
  refine wpAny_mono ((bod (wMas X.K Wout D l) (X.pn ++ pins) (fun e sa => wpAny (model X.prog X.w) X.A (noteFrame e X.env) (fun _ sb => wpAny (model X.prog X.w) X.A (setFlight e none) (fun _ sc =>
    wpAny (model X.prog X.w) X.A (handleBy e X.env (hd0 :: hds)) (SP X pins D) X.xe sc) X.xe sb) X.xe sa) (fun u st air => ?_) PassesOwn.looking).run [] s σ H D (I.toTry _) h) (fun f s1 fin0 => ?_) (fun _ _ z => z)
  · obtain ⟨a, B, sI, pins', σ1, H1, cls, d, rfl, J0, nb, up, sky, na, os, ag, wish⟩ := air
    have J : Inv X pins σ1 H1 sI := J0.ofTry okX
    have sky1 : Sky B (X.env :: X.outer) a (Zc cls d) X.env.locals st.heap := by rw [← hst]; exact sky
    show wpAny (model X.prog X.w) X.A (noteFrame (.ref a) X.env) _ _ _
    refine Sky.land Zc.steady frs0 hfr0 sky1 fun hA flA upA => ?_
    have JA : Inv X pins σ1 H1 { st with heap := hA } := J.landed nb flA.1 (up.trans upA) os ag
    obtain ⟨oeA, vsA, heA, hzA, hdA⟩ := flA.there
    have noFr : ∀ {hh : Heap} {o : Obj} {ws : Array Value}, hh.FunFrames B (X.env :: X.outer) → hh.get? a = some o → o.data = .fields ws → a ∉ frs (X.env :: X.outer) := fun {hh o ws} ff e dd hm => by
      obtain ⟨_, o2, e2, hnf⟩ := ff.mem hm
      rw [e] at e2
      cases e2
      exact hnf _ dd
    have nfA := noFr flA.2.2.1 heA hdA
    have neL : a ≠ X.env.locals := fun z => nfA (List.mem_filterMap.mpr ⟨X.env, List.mem_cons_self, by rw [hfr0, z]⟩)
    have neF : a ∉ X.fs := fun hm => by
      obtain ⟨e, he, q⟩ := List.mem_filterMap.mp hm
      exact nfA (List.mem_filterMap.mpr ⟨e, List.mem_cons_of_mem _ he, q⟩)
    have SA := JA.suite heA hdA na neL neF
    have walk : ∀ {hs' : List ExceptHandler} {l' : List (Value × Nat × (Addr → Value → Option Addr → TS))}, HdsA X hs' l' → wMas X.K Wout D l' cls d σ1 H1 →
        wpAny (model X.prog X.w) X.A (handleBy (.ref a) X.env hs') (SP X pins D) X.xe { st with heap := hA } := by
      intro hs' l' hk
      induction hk with
      | nil =>
        intro wn
        refine wpAny_handleBy_nil ?_
        obtain ⟨_, _, _, oe, vs, TT, oT, ts', he, hz, hdd, h1, _⟩ := id flA
        unfold PySem.passOn
        refine wpAny_bind (wpAny_field he hdd h1 ?_)
        rw [if_neg (show ¬ ((Value.ref TT == Value.none) = true) from by simp)]
        have on : wpAny (model X.prog X.w) X.A (setFlight (.ref a) X.env.frame) (fun _ sx => wpAny (model X.prog X.w) X.A (throw (.ref a) : Sem Flow) (SP X pins D) X.xe sx) X.xe { st with heap := hA } := by
          rw [hfr0]
          refine HandSPX.setFlight_upZ flA fun hB hhB upB => wpAny_throw (tk _ _ ?_)
          exact ⟨a, B, sI, pins, σ1, H1, cls, d, rfl, J, nb, (up.trans upA).trans upB, .inr (.inr (by rw [hst]; exact hhB)), na, os, ag, wn⟩
        first
          | exact wpAny_bind (wpAny_pure (wpAny_bind on))
          | exact wpAny_bind on
      | @cons x n c i ts st0 suite np hp hds2 l2 hc hi hln hsu more ih =>
        intro wn
        obtain ⟨b, hb1, yes, no⟩ := wn
        refine wpAny_handleBy_cons (codeAny_handlers_test ?_) (by intro q; cases q)
        have LT : PySem.W.Looks (model X.prog X.w) hA (typeOf (.ref a)) cls := fun A' Q' E' s' k q => wpAny_typeOf_ref (k _ _ heA) (by rw [hzA.1]; exact q)
        have LM := PySem.W.exm_one (M := model X.prog X.w) JA.kIn LT hb1
        have nameOf : ∀ {Q' : Value → Shared → Prop} {E' : Value → Shared → Prop}, Q' c { st with heap := hA } → wpAny (model X.prog X.w) (X.A.mark (some (.ref a))) (eval (.Name x np) X.env) Q' E' { st with heap := hA } := fun {Q' E'} q => by
          obtain ⟨hg, hdbg, hm | ⟨hm, hv, hnn⟩⟩ := hc
          · exact ld_glob (X := X.suite a ((a, oeA) :: (X.pn ++ pins))) SA hg hm q hdbg
          · exact ld_blt (X := X.suite a ((a, oeA) :: (X.pn ++ pins))) SA hg hm hv q hnn hdbg
        refine nameOf (LM.here ?_)
        cases b with
        | false =>
          show wpAny _ X.A (handleBy (.ref a) X.env hds2) _ _ _
          exact ih (no rfl)
        | true =>
          refine codeAny_handlers_suite_as ?_
          refine HandSPX.lands_againZ flA fun hB flB upB => ?_
          have JB : Inv X pins σ1 H1 { st with heap := hB } := J.landed nb flB.1 ((up.trans upA).trans upB) os ag
          obtain ⟨oeB, vsB, heB, hzB, hdB⟩ := flB.there
          have SB := JB.suite heB hdB na neL neF
          refine store_ok (X := X.suite a ((a, oeB) :: (X.pn ++ pins))) (v := .ref a) SB nd hi (.inl hln) rfl (fun s5 S5 => ?_) (.inr hln)
          refine wpAny_mono ((hsu a oeB cls d (X.pn ++ pins) hzB ⟨_, hdB⟩).run [] s5 _ H1 _ S5 (yes rfl a na)) (fun f s6 q0 => ?_) (fun _ _ z => False.elim z)
          have gone : ∀ {σ6 : L2.St} {H6 : Hp} {Q6 : Shared → Prop}, Inv (X.suite a ((a, oeB) :: (X.pn ++ pins))) [] σ6 H6 s6 → (∀ s7, Inv X pins (σ6.set i none) H6 s7 → Q6 s7) →
              wpAny (model X.prog X.w) X.A (do bindName X.env n .none; unbindBehindTheSuite X.env n hp) (fun _ s7 => Q6 s7) X.xe s6 := fun {σ6 H6 Q6} S6 hq => gone_ok (S6.unsuite okX) nd hi hln hq
          cases f with
          | next =>
            obtain ⟨_, _, S6, q6⟩ := q0
            exact gone S6 fun s7 J7 => ⟨_, _, J7, q6⟩
          | brk =>
            obtain ⟨_, _, S6, q6⟩ := q0
            exact gone S6 fun s7 J7 => ⟨_, _, J7, q6⟩
          | cont =>
            obtain ⟨_, _, S6, q6⟩ := q0
            exact gone S6 fun s7 J7 => ⟨_, _, J7, q6⟩
          | ret u =>
            obtain ⟨_, _, _, S6, r6, q6⟩ := q0
            exact gone S6 fun s7 J7 => ⟨_, _, _, J7, r6, q6⟩
    exact walk all wish
  · cases f with
    | next =>
      obtain ⟨_, _, J1, q⟩ := fin0
      exact wpAny_execs_nil ⟨_, _, J1.ofTry okX, q⟩
    | brk =>
      obtain ⟨_, _, J1, q⟩ := fin0
      exact ⟨_, _, J1.ofTry okX, q⟩
    | cont =>
      obtain ⟨_, _, J1, q⟩ := fin0
      exact ⟨_, _, J1.ofTry okX, q⟩
    | ret v =>
      obtain ⟨_, _, _, J1, r, q⟩ := fin0
      exact ⟨_, _, _, J1.ofTry okX, r, q⟩
end
end XR

set_option Elab.async false
set_option linter.all false
set_option maxRecDepth 100000
set_option maxHeartbeats 4000000
/-! A pen: a pair of a list of numbers and a count, changed by each draw; all else stands. -/
namespace PEN
open PySem PySem.Spec PyProof.Rows L2 Evl

def cut (p l : Addr) (H : Hp) : Hp := fun a => if a = p ∨ a = l then none else H a
theorem cut_at {p l a : Addr} {H : Hp} (h1 : a ≠ p) (h2 : a ≠ l) : cut p l H a = H a := by
  unfold cut
  rw [if_neg (by rintro (z | z) <;> contradiction)]
theorem cut_some {p l a : Addr} {H : Hp} {o : HO} (h : cut p l H a = some o) : a ≠ p ∧ a ≠ l ∧ H a = some o := by
  unfold cut at h
  by_cases z : a = p ∨ a = l
  · rw [if_pos z] at h
    cases h
  · rw [if_neg z] at h
    exact ⟨fun e => z (.inl e), fun e => z (.inr e), h⟩
theorem cut_ex {p l : Addr} {H : Hp} : Ex (cut p l H) H := fun a o h => (cut_some h).2.2
theorem cut_mono {p l : Addr} {H H' : Hp} (e : Ex H H') : Ex (cut p l H) (cut p l H') := fun a o h => by
  obtain ⟨h1, h2, h3⟩ := cut_some h
  rw [cut_at h1 h2]
  exact e _ _ h3
/-- all but the pen stands -/
def Px (p l : Addr) (H H' : Hp) : Prop := Ex (cut p l H) (cut p l H')
theorem Px.refl {p l : Addr} (H : Hp) : Px p l H H := Ex.refl _
theorem Px.trans {p l : Addr} {H H1 H2 : Hp} (a : Px p l H H1) (b : Px p l H1 H2) : Px p l H H2 := Ex.trans a b
theorem Px.of {p l : Addr} {H H' : Hp} (e : Ex H H') : Px p l H H' := cut_mono e
theorem Px.get {p l a : Addr} {H H' : Hp} {o : HO} (k : Px p l H H') (h1 : a ≠ p) (h2 : a ≠ l) (h : H a = some o) : H' a = some o := (cut_some (k a o ((cut_at h1 h2).trans h))).2.2
theorem Px.upd {p l : Addr} {H H' : Hp} {a : Addr} {o : HO} (k : Px p l H H') (h : a = p ∨ a = l ∨ H a = none) : Px p l H (upd H' a o) := fun b u hb => by
  obtain ⟨h1, h2, h3⟩ := cut_some hb
  have n : b ≠ a := by
    rintro rfl
    rcases h with z | z | z
    · exact h1 z
    · exact h2 z
    · rw [z] at h3
      cases h3
  rw [cut_at h1 h2, upd_ne n]
  exact k.get h1 h2 h3
theorem Px.fresh {p l a : Addr} {H H' : Hp} (k : Px p l H H') (h1 : a ≠ p) (h2 : a ≠ l) (h : H' a = none) : H a = none := by
  cases z : H a with
  | none => rfl
  | some o =>
    rw [k.get h1 h2 z] at h
    cases h
/-- a pen with b draws left to it -/
def Pen (p l : Addr) (b : Nat) (H : Hp) : Prop := ∃ (c : Int) (ns : List Int), H p = some (.lst [.ref l, .int c]) ∧ H l = some (.lst (ns.map V.int)) ∧ ns ≠ [] ∧ 0 ≤ c ∧ c + b ≤ 1000000000000
theorem Pen.ne {p l : Addr} {b : Nat} {H : Hp} (h : Pen p l b H) : p ≠ l := by
  obtain ⟨c, ns, h1, h2, _⟩ := h
  rintro rfl
  rw [h1] at h2
  have z := HO.lst.inj (Option.some.inj h2)
  cases ns with
  | nil => cases z
  | cons n r =>
    rw [List.map_cons] at z
    cases (List.cons.inj z).1
theorem Pen.ex {p l : Addr} {b : Nat} {H H' : Hp} (e : Ex H H') (h : Pen p l b H) : Pen p l b H' := by
  obtain ⟨c, ns, h1, h2, h3⟩ := h
  exact ⟨c, ns, e _ _ h1, e _ _ h2, h3⟩
theorem Pen.less {p l : Addr} {b b' : Nat} {H : Hp} (h : Pen p l b H) (k : b' ≤ b) : Pen p l b' H := by
  obtain ⟨c, ns, h1, h2, h3, h4, h5⟩ := h
  exact ⟨c, ns, h1, h2, h3, h4, by omega⟩
theorem Pen.upd {p l a : Addr} {b : Nat} {H : Hp} {o : HO} (h : Pen p l b H) (h1 : a ≠ p) (h2 : a ≠ l) : Pen p l b (upd H a o) := by
  obtain ⟨c, ns, e1, e2, h3⟩ := h
  exact ⟨c, ns, (upd_ne (Ne.symm h1)).trans e1, (upd_ne (Ne.symm h2)).trans e2, h3⟩
/-- a new thing is not the pen -/
theorem Pen.new {p l a : Addr} {b : Nat} {H : Hp} (h : Pen p l b H) (n : H a = none) : a ≠ p ∧ a ≠ l := by
  obtain ⟨c, ns, e1, e2, _⟩ := h
  exact ⟨(ne_of_none e1 n).symm, (ne_of_none e2 n).symm⟩
theorem cut_fresh {p l a : Addr} {H : Hp} (h : H a = none) : cut p l H a = none := by
  unfold cut
  split
  · rfl
  · exact h
/-- a comprehension without a test goes on with its element -/
theorem yes_go {te : TE} {σ : L2.St} {H : Hp} {R : VK} {B : Hp → Prop} (h : te σ H R) : tYes σ H (fun b H3 => if b = true then te σ H3 R else B H3) := by
  show (if true = true then te σ H R else B H)
  exact iteT h
theorem fits {n : Nat} (h : n ≤ 1000) : n ≤ sizeLine := Nat.le_of_lt (small1000 h)
/-! ### names -/
/-- the signs of a name -/
def Let (z : Str) : Prop := ∀ c ∈ z.cps.toList, 97 ≤ c ∧ c ≤ 122
/-! ### the promises -/
def spDraw : Sp := fun vs H Q _ => ∃ (p l : Addr) (m : Int) (b : Nat), vs = [.ref p, .int m] ∧ (0 < m ∧ m < 1073741824) ∧ Pen p l (b + 1) H ∧ ∀ r H', 0 ≤ r ∧ r < m → Px p l H H' → Pen p l b H' → Q (.int r) H'
def spPick (K : PySem.W.Frag) : Sp := fun vs H Q _ => ∃ (p l a : Addr) (xs : List V) (b : Nat), vs = [.ref p, .ref a] ∧ SqL K (cut p l H) a xs ∧ (xs ≠ [] ∧ xs.length ≤ 1000000) ∧ Pen p l (b + 1) H ∧ ∀ r H', r ∈ xs → Px p l H H' → Pen p l b H' → Q r H'
def spWord : Sp := fun vs H Q _ => ∃ (p l : Addr) (m b : Nat), vs = [.ref p, .int (m : Int)] ∧ (1 ≤ m ∧ m ≤ 12) ∧ Pen p l (b + 14) H ∧ ∀ (z : Str) H', (Let z ∧ 1 ≤ z.length ∧ z.length ≤ m) → Px p l H H' → Pen p l b H' → Q (.str z) H'
def NamesOk (ys : List Str) : Prop := ys.Nodup ∧ ∀ y ∈ ys, Let y ∧ 1 ≤ y.length ∧ y.length ≤ 12
def spNames (K : PySem.W.Frag) : Sp := fun vs H Q _ => ∃ (p l : Addr) (n b : Nat), vs = [.ref p, .int (n : Int)] ∧ n ≤ 11 ∧ Pen p l (b + n * 16) H ∧
  ∀ (q : Addr) (ys : List Str) H', H q = none → H' q = some (.lst (ys.map V.str)) → ys.length = n → NamesOk ys → Px p l H H' → Pen p l b H' → Q (.ref q) H'
end PEN

set_option Elab.async false
set_option linter.all false
set_option maxRecDepth 100000
set_option maxHeartbeats 4000000
/-! A head's facts as any tests of the written part, and tables with text keys beside them. -/
namespace XT
open PySem PySem.Spec PyProof.Rows L2 He XH
abbrev AlU : Type := AlD × List (Option (List (Option (Str × Int))))
def obsU (ff : List Fc) (dd : List DefD) (tt : List Tab) (K : PySem.W.Frag) : AlU := (obsB ff dd K, tt.map fun x => dicW K (x.1 K))
def valU (dd : List DefD) (tt : List Tab) (w : World) : AlU := (valD dd, tt.map fun x => some (keysIn w.params x.2))
def obsUG (n : Nat) (ff : List Fc) (dd : List DefD) (tt : List Tab) (h0 : Addr → Option Obj) : AlU := obsU ff dd tt (frG h0 (asD h0 n))
def SaysU (ff : List Fc) (dd : List DefD) (tt : List Tab) (w : World) (K : PySem.W.Frag) : Prop := obsU ff dd tt K = valU dd tt w
def hookU (n : Nat) (ff : List Fc) (dd : List DefD) (tt : List Tab) : PySem.W.Hook where
  α := AlU
  obs := fun st => obsUG n ff dd tt st.heap.get?
  val := fun ww => valU dd tt ww
  says := fun ww hh => ∃ K : PySem.W.Frag, K.In hh ∧ SaysU ff dd tt ww K
  of := fun _ _ z => ⟨_, frG_in, z⟩
  keeps := fun _ _ _ ⟨K, inn, c⟩ kk => ⟨K, PySem.W.Frag.In.keeps inn kk, c⟩
theorem obsUG_eq {n : Nat} {ff : List Fc} {dd : List DefD} {tt : List Tab} {h0 : Addr → Option Obj} {st : Shared} (h : ∀ a, h0 a = st.heap.get? a) : obsUG n ff dd tt h0 = (hookU n ff dd tt).obs st := by
  have z : h0 = st.heap.get? := funext h
  rw [z]
  rfl
section
variable {ff : List Fc} {dd : List DefD} {tt : List Tab} {w : World} {K : PySem.W.Frag}
theorem SaysU.b (c : SaysU ff dd tt w K) : SaysB ff dd K := congrArg (fun z : AlU => z.1) c
theorem SaysU.at (c : SaysU ff dd tt w K) (i : Nat) {x : Tab} (h : tt[i]? = some x := by rfl) : ∃ es n, KDict K w (x.1 K) es n := by
  have z : (tt.map fun x => dicW K (x.1 K)) = tt.map fun x => some (keysIn w.params x.2) := congrArg (fun z : AlU => z.2) c
  have z2 : (tt.map fun x => dicW K (x.1 K))[i]? = (tt.map fun x => some (keysIn w.params x.2))[i]? := congrArg (fun l => l[i]?) z
  rw [List.getElem?_map, List.getElem?_map, h] at z2
  exact dicW_ok (Option.some.inj z2)
end
/-- an entry of a table that is an empty tuple of the top; that is any object -/
def emptyB (K : PySem.W.Frag) (x k : Str) : Bool := match PySem.W.nsIn K (ga K x) k with
  | some (some (.ref a)) => (match K.lookup a with
    | some ⟨.type c, _, .seq its _, _⟩ => c == "tuple" && its.toList.isEmpty
    | _ => false)
  | _ => false
theorem emptyB_ok {K : PySem.W.Frag} {x k : Str} (q : emptyB K x k = true) : ∃ a, PySem.W.nsIn K (ga K x) k = some (some (.ref a)) ∧ ∀ H, SqT K H a [] := by
  unfold emptyB at q
  split at q
  · rename_i a e
    split at q
    · rename_i c dd its n sl e2
      obtain ⟨q1, q2⟩ := ba q
      have e3 := beq_iff_eq.mp q1
      subst e3
      have e4 : its.toList = [] := List.isEmpty_iff.mp q2
      refine ⟨a, e, fun H => .inr ⟨_, its, n, e2, rfl, rfl, ?_, ?_⟩⟩
      · rw [← Array.length_toList, e4]
        exact Nat.zero_le _
      · rw [e4]
        exact .nil
    · cases q
  · cases q
def refB (K : PySem.W.Frag) (x k : Str) : Bool := match PySem.W.nsIn K (ga K x) k with
  | some (some (.ref _)) => true
  | _ => false
theorem refB_ok {K : PySem.W.Frag} {x k : Str} (q : refB K x k = true) : ∃ a, PySem.W.nsIn K (ga K x) k = some (some (.ref a)) := by
  unfold refB at q
  split at q
  · rename_i a e
    exact ⟨a, e⟩
  · cases q
end XT

set_option Elab.async false
set_option linter.all false
set_option maxRecDepth 100000
set_option maxHeartbeats 4000000
/-! Tests of a head: entries of a table that are tuples of texts, or texts. -/
namespace XT
open PySem PySem.Spec PyProof.Rows L2 He XH
def strsB : List Value → List Str → Bool
  | [], [] => true
  | .str z _ :: r, y :: s => z == y && strsB r s
  | _, _ => false
theorem strsB_ok : ∀ {vs : List Value} {zs : List Str}, strsB vs zs = true → Vals (zs.map V.str) vs
  | [], [], _ => .nil
  | .str z t :: r, y :: s, h => by
    obtain ⟨h1, h2⟩ := ba (show (z == y && strsB r s) = true from h)
    rw [beq_iff_eq.mp h1]
    exact .cons ⟨t, rfl⟩ (strsB_ok h2)
def entB (K : PySem.W.Frag) (x k : Str) (zs : List Str) : Bool := match PySem.W.nsIn K (ga K x) k with
  | some (some (.ref a)) => (match K.lookup a with
    | some ⟨.type c, _, .seq its _, _⟩ => c == "tuple" && (decide (its.toList.length ≤ 1000) && strsB its.toList zs)
    | _ => false)
  | _ => false
theorem entB_ok {K : PySem.W.Frag} {x k : Str} {zs : List Str} (q : entB K x k zs = true) : ∃ a, PySem.W.nsIn K (ga K x) k = some (some (.ref a)) ∧ ∀ H, SqT K H a (zs.map V.str) := by
  unfold entB at q
  split at q
  · rename_i a e
    split at q
    · rename_i c dd its n sl e2
      obtain ⟨q1, q2⟩ := ba q
      obtain ⟨q2, q3⟩ := ba q2
      have e3 := beq_iff_eq.mp q1
      subst e3
      refine ⟨a, e, fun H => .inr ⟨_, its, n, e2, rfl, rfl, ?_, strsB_ok q3⟩⟩
      rw [← Array.length_toList]
      exact Nat.le_trans (of_decide_eq_true q2) (by decide)
    · cases q
  · cases q
def sndB (K : PySem.W.Frag) (x k z : Str) : Bool := match PySem.W.nsIn K (ga K x) k with
  | some (some (.str y _)) => y == z
  | _ => false
theorem sndB_ok {K : PySem.W.Frag} {x k z : Str} (q : sndB K x k z = true) : ∃ t, PySem.W.nsIn K (ga K x) k = some (some (.str z t)) := by
  unfold sndB at q
  split at q
  · rename_i y t e
    rw [← beq_iff_eq.mp q]
    exact ⟨t, e⟩
  · cases q
def emptyAtB (K : PySem.W.Frag) (a : Addr) : Bool := match K.lookup a with
  | some ⟨.type c, _, .seq its _, _⟩ => c == "tuple" && its.toList.isEmpty
  | _ => false
theorem emptyAtB_ok {K : PySem.W.Frag} {a : Addr} (q : emptyAtB K a = true) (H : Hp) : SqT K H a [] := by
  unfold emptyAtB at q
  split at q
  · rename_i c dd its n sl e2
    obtain ⟨q1, q2⟩ := ba q
    have e3 := beq_iff_eq.mp q1
    subst e3
    have e4 : its.toList = [] := List.isEmpty_iff.mp q2
    refine .inr ⟨_, its, n, e2, rfl, rfl, ?_, ?_⟩
    · rw [← Array.length_toList, e4]
      exact Nat.zero_le _
    · rw [e4]
      exact .nil
  · cases q
end XT

set_option Elab.async false
set_option linter.all false
set_option maxRecDepth 100000
set_option maxHeartbeats 8000000

/-! What the laws over drawn codes share. -/
namespace TR
open PySem PySem.Spec PyProof.Rows L2 He XH XV XR PEN Evl

def alphabet : Str := "abcdefghijklmnopqrstuvwxyz"
theorem alpha_at : ∀ j : Fin 26, alphabet.cps.toList[j.1]? = some (97 + j.1) := by decide +kernel
theorem alpha_pick {r : Int} (h : 0 ≤ r ∧ r < 26) : ∃ c : Nat, atI alphabet.cps.toList r = some c ∧ 97 ≤ c ∧ c ≤ 122 := by
  have e : ((r.toNat : Nat) : Int) = r := by omega
  have z := atI_nat (xs := alphabet.cps.toList) (j := r.toNat) (alpha_at ⟨r.toNat, by omega⟩)
  rw [e] at z
  exact ⟨97 + r.toNat, z, by omega, by omega⟩
def sign (c : Nat) : Str := ⟨#[c]⟩
theorem joinL_signs : ∀ cs : List Nat, TL.joinL [] (cs.map fun c => [c]) = cs
  | [] => rfl
  | [c] => rfl
  | c :: d :: r => by
    show [c] ++ ([] ++ TL.joinL [] ((d :: r).map fun c => [c])) = c :: d :: r
    rw [joinL_signs (d :: r)]
    rfl
theorem join_signs (cs : List Nat) : (Txt.join ("" : Str) (cs.map sign)).cps.toList = cs := by
  have z : TL.tl (Txt.join ("" : Str) (cs.map sign)) = TL.joinL (TL.tl ("" : Str)) ((cs.map sign).map TL.tl) := by
    rw [TL.join_eq, TL.tl_join]
  rw [List.map_map] at z
  have e : (TL.tl ∘ sign) = fun c => [c] := rfl
  rw [e] at z
  have e2 : TL.tl ("" : Str) = [] := by decide +kernel
  rw [e2, joinL_signs] at z
  exact z
theorem len_codes (z : Str) : z.length = z.cps.toList.length := by
  show z.cps.size = _
  simp
theorem sum_signs : ∀ cs : List Nat, ((cs.map sign).map (·.length)).sum = cs.length
  | [] => rfl
  | c :: r => by
    show 1 + ((r.map sign).map (·.length)).sum = r.length + 1
    rw [sum_signs r]
    omega


/-! ### comprehensions over a range from lo -/
theorem el_lcR2 {σ : L2.St} {H : Hp} {t : TT} {te : TE} {ta : TA} {j : Nat} {vs : List Nat} {lo n : Int} (f : Nat → Bool) (v : Nat → V) (h : EvA ta σ H [.int lo, .int n]) (hn : 0 ≤ lo ∧ lo ≤ 40000 ∧ lo ≤ n ∧ n ≤ 40000) (hw : ∀ x, wipe ((wipe σ vs).set j (some x)) vs = wipe σ vs)
    (ht : ∀ (i : Nat) H1, Ex H H1 → lo + (i : Int) < n → EvT t ((wipe σ vs).set j (some (.int (lo + (i : Int))))) H1 (f i)) (he : ∀ (i : Nat) H1, Ex H H1 → lo + (i : Int) < n → f i = true → Ev te ((wipe σ vs).set j (some (.int (lo + (i : Int))))) H1 (v i)) :
    EvL (tLc (iRng2 ta) (gName j) t te vs) σ H (given (n - lo).toNat f v) := fun H0 e Q q => h H0 e _ fun H1 e1 => ⟨lo, n, rfl, ⟨by omega, by omega, by omega, by omega⟩, fun Dl hD =>
  lc_range (lo := lo) (n := (n - lo).toNat) (Cw H1 f v Dl) ⟨hD, Ex.new hD, upd_same⟩ (fun i H' hi pw => ⟨hw _, cw_turn pw (by omega) (ht i H1 (e.trans e1) (by omega)) (fun hf => he i H1 (e.trans e1) (by omega) hf)⟩)
    (fun H' pw => q Dl H' (fresh_back e1 pw.1) (e1.trans pw.2.1) pw.2.2)⟩
/-! ### texts of one sign -/
theorem fold_codes (a : Array Nat) : ∀ (n : Nat) (acc : Array Nat), ((List.replicate n a).foldl (· ++ ·) acc).toList = acc.toList ++ (List.replicate n a.toList).flatten
  | 0, acc => by simp
  | n + 1, acc => by
    rw [List.replicate_succ, List.foldl_cons, fold_codes a n, Array.toList_append, List.replicate_succ, List.flatten_cons, List.append_assoc]
theorem repS_codes (z : Str) (n : Nat) : (repS z n).cps.toList = (List.replicate n z.cps.toList).flatten := by
  show ((List.replicate n z.cps).foldl (· ++ ·) #[]).toList = _
  rw [fold_codes]
  rfl
def aS (n : Nat) : Str := repS ("a" : Str) n
theorem aS_len (n : Nat) : (aS n).length = n := by
  have z := repS_len ("a" : Str) n
  have e : (("a" : Str)).length = 1 := by decide +kernel
  rw [e, Nat.mul_one] at z
  exact z
theorem aS_let (n : Nat) : Let (aS n) := by
  intro c hc
  have e : (("a" : Str)).cps.toList = [97] := by decide +kernel
  have z : c ∈ (List.replicate n [97]).flatten := by
    have k := repS_codes ("a" : Str) n
    rw [e] at k
    rw [← k]
    exact hc
  obtain ⟨l, hl, hc2⟩ := List.mem_flatten.mp z
  rw [(List.mem_replicate.mp hl).2] at hc2
  rw [List.mem_singleton.mp hc2]
  exact ⟨by decide, by decide⟩
theorem inV_strs (z : Str) : ∀ ys : List Str, inV (.str z) (ys.map V.str) = decide (z ∈ ys)
  | [] => by simp [inV]
  | y :: r => by
    have ih := inV_strs z r
    show (eqV (.str y) (.str z) || inV (.str z) (r.map V.str)) = decide (z ∈ y :: r)
    rw [ih]
    show ((y == z) || decide (z ∈ r)) = decide (z ∈ y :: r)
    by_cases h : z = y
    · subst h
      simp
    · have h' : ¬ y = z := fun e => h e.symm
      simp [h, h']
theorem flat_strs (ys : List Str) : (ys.map V.str).all flatV = true := by
  rw [List.all_map]
  exact List.all_eq_true.mpr fun _ _ => rfl
theorem crowd : ∀ {cs ys : List Str}, cs.Nodup → (∀ c ∈ cs, c ∈ ys) → cs.length ≤ ys.length
  | [], _, _, _ => Nat.zero_le _
  | c :: r, ys, nd, h => by
    obtain ⟨n1, n2⟩ := List.nodup_cons.mp nd
    have hc := h c (List.mem_cons_self ..)
    have k : r.length ≤ (ys.erase c).length := crowd n2 fun d hd => (List.mem_erase_of_ne (fun e => n1 (by rw [← e]; exact hd))).mpr (h d (List.mem_cons_of_mem _ hd))
    rw [List.length_erase_of_mem hc] at k
    have hl : 0 < ys.length := List.length_pos_of_mem hc
    rw [List.length_cons]
    omega
def cands : List Str := (List.range 12).map fun i => aS (1 + i)
theorem cands_nodup : cands.Nodup := by
  have z : ((List.range 12).map fun i => (aS (1 + i)).length).Nodup := by
    have e : ((List.range 12).map fun i => (aS (1 + i)).length) = (List.range 12).map fun i => 1 + i := List.map_congr_left fun i _ => aS_len _
    rw [e]
    decide
  have z2 : (cands.map (·.length)).Nodup := by
    unfold cands
    rw [List.map_map]
    exact z
  exact List.Pairwise.of_map (f := fun z : Str => z.length) (fun a b h e => h (by rw [e])) z2
theorem spare_first {ys : List Str} (hl : ys.length ≤ 10) : ∃ z, (given 12 (fun i => !decide (aS (1 + i) ∈ ys)) (fun i => V.str (aS (1 + i))))[0]? = some (.str z) ∧ z ∉ ys ∧ Let z ∧ 1 ≤ z.length ∧ z.length ≤ 12 := by
  have ne : ((List.range 12).filter fun i => !decide (aS (1 + i) ∈ ys)) ≠ [] := by
    intro e
    have all : ∀ c ∈ cands, c ∈ ys := by
      intro c hc
      obtain ⟨i, hi, rfl⟩ := List.mem_map.mp hc
      by_cases h : aS (1 + i) ∈ ys
      · exact h
      · have m : i ∈ (List.range 12).filter fun i => !decide (aS (1 + i) ∈ ys) := List.mem_filter.mpr ⟨hi, by simp [h]⟩
        rw [e] at m
        cases m
    have k := crowd cands_nodup all
    have k2 : cands.length = 12 := by
      unfold cands
      rw [List.length_map, List.length_range]
    omega
  unfold given
  cases hf : (List.range 12).filter fun i => !decide (aS (1 + i) ∈ ys) with
  | nil => exact absurd hf ne
  | cons i r =>
    have m : i ∈ (List.range 12).filter fun i => !decide (aS (1 + i) ∈ ys) := by
      rw [hf]
      exact List.mem_cons_self ..
    obtain ⟨m1, m2⟩ := List.mem_filter.mp m
    have m3 := List.mem_range.mp m1
    exact ⟨aS (1 + i), rfl, by simpa using m2, aS_let _, by rw [aS_len]; omega, by rw [aS_len]; omega⟩
theorem two_c {k : Bool} {u v : V} {σ : L2.St} {H : Hp} {Q : VK} (h : ∀ x, x = u ∨ x = v → Q x H) : if k = true then tC u σ H Q else tC v σ H Q := by
  cases k with
  | true => exact h u (.inl rfl)
  | false => exact h v (.inr rfl)

theorem given_all_at {j : Nat} {x : V} {v : Nat → V} {n : Nat} (h : (given n (fun _ => true) v)[j]? = some x) : x = v j := by
  unfold given at h
  rw [List.filter_eq_self.mpr (fun _ _ => rfl), List.getElem?_map] at h
  cases q : (List.range n)[j]? with
  | none =>
    rw [q] at h
    cases h
  | some k =>
    rw [q] at h
    obtain ⟨hk, ek⟩ := List.getElem?_eq_some_iff.mp q
    rw [List.getElem_range] at ek
    subst ek
    exact (Option.some.inj h).symm

theorem pe_nv {X : Cx} {e : Expr} : PE X e (fun _ _ _ => False) := ⟨fun _ _ _ _ _ _ h => h.elim⟩
theorem pt_nv {X : Cx} {e : Expr} : PT X e (fun _ _ _ => False) := ⟨fun _ _ _ _ _ _ h => h.elim⟩
theorem pg_nv {X : Cx} {e : Expr} : PG X e (fun _ _ _ _ => False) := ⟨fun _ _ _ _ _ _ _ _ _ h => h.elim⟩
theorem op_in_nil {X : Cx} : OpR X (compareOp .In) (fun x y H Q => ∃ p, y = .ref p ∧ SqT X.K H p [] ∧ Q (.bl false) H) := by
  intro pins s σ H x y v u Q I rx ry h
  obtain ⟨p, rfl, hq, q⟩ := h
  cases ry
  obtain ⟨its, r, pl, hz⟩ := I.tuple hq
  cases r
  refine SeqAt.in_tupleAt (fun _ => false) pl (fun w hw => by simp at hw) ?_
  have e : (([] : List Value).toArray.any fun x => false) = false := by simp
  rw [e]
  exact ⟨.bl false, H, I, rfl, q⟩

/-! ### names -/
def goodN (z : Str) : Bool := decide (1 ≤ z.length) && (decide (z.length ≤ 12) && z.cps.toList.all fun c => decide (c ∈ alphabet.cps.toList))
def spIsName : Sp := fun vs H Q _ => ∃ z : Str, vs = [.str z] ∧ z.length ≤ 1000 ∧ ∀ H', Ex H H' → Q (.bl (goodN z)) H'

theorem ev_chain {ta tb tc : TE} {σ : L2.St} {H : Hp} {a b c : Int} (ha : Ev ta σ H (.int a)) (hb : Ev tb σ H (.int b)) (hc : Ev tc σ H (.int c)) : Ev (tChain (rI0 fun i j => .bl (decide (i ≤ j))) (rI0 fun i j => .bl (decide (i ≤ j))) ta tb tc) σ H (.bl (decide (a ≤ b) && decide (b ≤ c))) := fun H1 e Q q =>
  ha H1 e _ fun H2 e2 => hb H2 (e.trans e2) _ fun H3 e3 => ⟨a, b, rfl, rfl, decide (a ≤ b), rfl, by
    cases h : decide (a ≤ b) with
    | false =>
      rw [h] at q
      exact ite_ff (q H3 (e2.trans e3))
    | true =>
      rw [h, Bool.true_and] at q
      exact ite_tt (hc H3 ((e.trans e2).trans e3) _ fun H4 e4 => ⟨b, c, rfl, rfl, q H4 ((e2.trans e3).trans e4)⟩)⟩
theorem isi_str {K : PySem.W.Frag} {H : Hp} {z : Str} : RC (rIsi K) [.str z, .ty "str"] H (.bl true) := fun H1 e Q q => ⟨.str z, .ty "str", .type "str", .type "str", true, rfl, .ty _, .base (.str z), kit_ty (by decide +kernel), q H1 (Ex.refl _)⟩
theorem ev_isiT {K : PySem.W.Frag} {ta : TE} {σ : L2.St} {H : Hp} {x : V} {t : Value} {b : Bool} (ha : Ev ta σ H x) (hT : ∀ H1, Ex H H1 → TyX K H1 x t) (hk : PySem.W.kitAny K t [.type "list", .type "tuple"] = some b) :
    Ev (tCB (rIsiT K) (tCons ta (tCons (tTup (tCons (tC (.ty "list")) (tCons (tC (.ty "tuple")) tNil))) tNil))) σ H (.bl b) := fun H1 e Q q =>
  ha H1 e _ fun H2 e2 => (eu_tup (ea_cons ev_c (ea_cons ev_c ea_nil)) (by decide)) H2 (e.trans e2) _ fun p H3 n e3 h3 => ⟨x, p, _, t, [.type "list", .type "tuple"], b, rfl, h3, .cons (.ty _) (.cons (.ty _) .nil), hT H3 ((e.trans e2).trans e3), hk, q H3 (e2.trans e3)⟩
theorem kit_no {K : PySem.W.Frag} : PySem.W.kitAny K (.type "str") [.type "list", .type "tuple"] = some false := kitAny_cons (b := false) (kit_ty (by decide +kernel)) (fun _ => kitAny_cons (b := false) (kit_ty (by decide +kernel)) (fun _ => kitAny_nil) (fun z => nomatch z)) (fun z => nomatch z)
theorem kit_l {K : PySem.W.Frag} : PySem.W.kitAny K (.type "list") [.type "list", .type "tuple"] = some true := kitAny_cons (b := true) (kit_ty (by decide +kernel)) (fun z => nomatch z) (fun _ => rfl)
theorem kit_t {K : PySem.W.Frag} : PySem.W.kitAny K (.type "tuple") [.type "list", .type "tuple"] = some true := kitAny_cons (b := false) (kit_ty (by decide +kernel)) (fun _ => kitAny_cons (b := true) (kit_ty (by decide +kernel)) (fun z => nomatch z) (fun _ => rfl)) (fun z => nomatch z)
theorem take_more {α : Type} {l : List α} {i : Nat} {c : α} (h : l[i]? = some c) : l.take (i + 1) = l.take i ++ [c] := by
  rw [List.take_add_one, h]
  rfl

mutual
theorem dpM {K : PySem.W.Frag} {H H' : Hp} (e : Ex H H') : ∀ (d : PyData) (v : V), Dp K H v d → Dp K H' v d
  | .none, _, h => by
    cases h
    exact .non
  | .bool b, _, h => by
    cases h
    exact .bl b
  | .int i, _, h => by
    cases h
    exact .int i
  | .str x, _, h => by
    cases h
    exact .str x
  | .list ds, _, h => by
    cases h with
    | lst h1 h2 => exact .lst (ex_l e h1) (dpMs e ds _ h2)
  | .tuple ds, _, h => by
    cases h with
    | tup h1 h2 => exact .tup (ex_t e h1) (dpMs e ds _ h2)
  | .dict _, _, h => by cases h
theorem dpMs {K : PySem.W.Frag} {H H' : Hp} (e : Ex H H') : ∀ (ds : List PyData) (vs : List V), DpAll K H vs ds → DpAll K H' vs ds
  | [], _, h => by
    cases h
    exact .nil
  | d :: ds, _, h => by
    cases h with
    | cons h1 h2 => exact .cons (dpM e d _ h1) (dpMs e ds _ h2)
end

def legal (zs : List Str) : Prop := ∀ z ∈ zs, PyData.strOk z = true
def Tn (z : Str) : Prop := z.length ≤ 1000 ∧ PyData.strOk z = true
theorem let_ok {z : Str} (h : Let z) : PyData.strOk z = true := by
  unfold PyData.strOk
  rw [Array.all_eq_true]
  intro i hi
  have k := h z.cps[i] (by simp)
  exact decide_eq_true (by omega)
theorem lay_strs : ∀ zs : List Str, legal zs → PyData.canLayAll0 (zs.map PyData.str) = true
  | [], _ => by simp [PyData.canLayAll0]
  | z :: r, h => by
    have k := lay_strs r fun y hy => h y (List.mem_cons_of_mem _ hy)
    have k2 := h z List.mem_cons_self
    simp [PyData.canLayAll0, PyData.canLay0, k, k2]
theorem dep_strs : ∀ zs : List Str, PyData.depthAll (zs.map PyData.str) ≤ 1
  | [] => by simp [PyData.depthAll]
  | z :: r => by
    have k := dep_strs r
    simp only [List.map_cons, PyData.depthAll, PyData.depth]
    omega
theorem dp_strs {K : PySem.W.Frag} {H : Hp} : ∀ zs : List Str, DpAll K H (zs.map V.str) (zs.map PyData.str)
  | [] => .nil
  | z :: r => .cons (.str z) (dp_strs r)
theorem shp_list (zs : List Str) (h : legal zs) : SeqAt.shaped (.list (zs.map PyData.str)) = true := by
  have k := dep_strs zs
  unfold SeqAt.shaped
  rw [Bool.and_eq_true]
  refine ⟨by simp [PyData.canLay0, lay_strs zs h], decide_eq_true ?_⟩
  simp only [PyData.depth]
  omega

theorem cut_take (xs : List V) (i : Nat) : cutV xs none (some (i : Int)) = xs.take i := by
  unfold cutV
  rw [HT.sIx_none, HT.sIx_nat, List.drop_zero, Nat.sub_zero]
  rcases Nat.le_total i xs.length with h | h
  · rw [Nat.min_eq_left h]
  · rw [Nat.min_eq_right h, List.take_of_length_le (Nat.le_refl _), List.take_of_length_le h]

theorem cut_drop (xs : List V) (i : Nat) : cutV xs (some (i : Int)) none = xs.drop i := by
  unfold cutV
  rw [HT.sIx_none, HT.sIx_nat]
  rcases Nat.le_total i xs.length with h | h
  · rw [Nat.min_eq_left h, List.take_of_length_le (by rw [List.length_drop]; exact Nat.le_refl _)]
  · rw [Nat.min_eq_right h, Nat.sub_self, List.take_zero, List.drop_eq_nil_of_le h]

theorem strs_off {p l b : Addr} {n : Nat} {H : Hp} {zs : List Str} (h : Pen p l n H) (k : H b = some (.lst (zs.map V.str))) : b ≠ p ∧ b ≠ l := by
  obtain ⟨c, ns, e1, e2, e3, _⟩ := h
  refine ⟨fun e => ?_, fun e => ?_⟩
  · rw [e, e1] at k
    cases zs with
    | nil => cases HO.lst.inj (Option.some.inj k)
    | cons z r =>
      have y := HO.lst.inj (Option.some.inj k)
      rw [List.map_cons] at y
      cases (List.cons.inj y).1
  · rw [e, e2] at k
    cases ns with
    | nil => exact e3 rfl
    | cons n r =>
      cases zs with
      | nil => cases HO.lst.inj (Option.some.inj k)
      | cons z r2 =>
        have y := HO.lst.inj (Option.some.inj k)
        rw [List.map_cons, List.map_cons] at y
        cases (List.cons.inj y).1
theorem tup_off {p l b : Addr} {n : Nat} {H : Hp} {xs : List V} (h : Pen p l n H) (k : H b = some (.tup xs)) : b ≠ p ∧ b ≠ l := by
  obtain ⟨c, ns, e1, e2, e3, _⟩ := h
  exact ⟨(fun e => by rw [e, e1] at k; cases k), (fun e => by rw [e, e2] at k; cases k)⟩

theorem nat_of {r m : Int} (h : 0 ≤ r ∧ r < m) : ∃ n : Nat, r = (n : Int) ∧ (n : Int) < m := ⟨r.toNat, by omega, by omega⟩

def Xa (a : Addr) (H H' : Hp) : Prop := ∀ c o, c ≠ a → H c = some o → H' c = some o
theorem Xa.of {a : Addr} {H H' : Hp} (e : Ex H H') : Xa a H H' := fun c o _ h => e c o h
theorem Xa.trans {a : Addr} {H H1 H2 : Hp} (p : Xa a H H1) (q : Xa a H1 H2) : Xa a H H2 := fun c o n h => q c o n (p c o n h)
theorem Xa.upd {a : Addr} {H : Hp} {o : HO} : Xa a H (upd H a o) := fun c u n h => (upd_ne n).trans h
theorem Xa.new {a : Addr} {H0 H H' : Hp} (e : Ex H0 H) (n : H0 a = none) (k : Xa a H H') : Ex H0 H' := fun c o h => k c o (ne_of_none h n) (e c o h)
theorem putF_tail {f g : Str} {v x : V} {r : List (Str × V)} (h : ¬ g = f) : putF f v ((g, x) :: r) = (g, x) :: putF f v r := if_neg h

theorem pe_fldc {X : Cx} {K : PySem.W.Frag} {e : Expr} {ta : TE} {f : Str} {pos : Pos} (hK : X.K = K) (he : PE X e ta) (hb : attributeBase e f X.env (eval e X.env) = eval e X.env) : PE X (.Attribute e f pos) (tFld K ta f) := hK ▸ pe_fld he hb
/-- a field of an instance, as it is read -/
theorem ev_fld {K : PySem.W.Frag} {ta : TE} {σ : L2.St} {H : Hp} {a C dx : Addr} {fs : List (Str × V)} {f : Str} {v : V} (h : Ev ta σ H (.ref a)) (ha : H a = some (.ins C dx fs)) (c : Cls K C) (n : NoAttr K C f) (l : fs.lookup f = some v) : Ev (tFld K ta f) σ H v := fun H1 e Q q =>
  h H1 e _ fun H2 e2 => ⟨a, C, dx, fs, v, rfl, e2 _ _ (e _ _ ha), c, n, l, q H2 e2⟩

theorem q_cb {te : TE} {r : List V → Hp → VK → Prop} {i : Nat} {tz : TS} {D : Ends} {σ : L2.St} {H : Hp} (h : te σ H fun x H1 => r [x] H1 fun v H2 => tz D (σ.set i (some v)) H2) : tSeq (tAsg (tCB r (tCons te tNil)) (gName i)) tz D σ H := h


/-! ### trees of texts -/
mutual
inductive Tt : Nat → PyData → Prop
  | str {n : Nat} {z : Str} (h : z.length ≤ 1000) : Tt n (.str z)
  | int {n : Nat} (i : Int) : Tt n (.int i)
  | tup {n : Nat} {ds : List PyData} (l : ds.length ≤ 100) (h : Tts n ds) : Tt (n + 1) (.tuple ds)
inductive Tts : Nat → List PyData → Prop
  | nil {n : Nat} : Tts n []
  | cons {n : Nat} {d : PyData} {ds : List PyData} (h : Tt n d) (r : Tts n ds) : Tts n (d :: ds)
end
theorem Tts.at {n : Nat} : ∀ {ds : List PyData}, Tts n ds → ∀ d ∈ ds, Tt n d
  | _, .cons h r, d, hd => by
    rcases List.mem_cons.mp hd with e | k
    · rw [e]; exact h
    · exact r.at d k
theorem Tts.of {n : Nat} : ∀ {ds : List PyData}, (∀ d ∈ ds, Tt n d) → Tts n ds
  | [], _ => .nil
  | d :: r, h => .cons (h d List.mem_cons_self) (Tts.of fun x hx => h x (List.mem_cons_of_mem _ hx))
mutual
theorem Tt.up : ∀ {n : Nat} {d : PyData}, Tt n d → Tt (n + 1) d
  | _, _, .str h => .str h
  | _, _, .int i => .int i
  | _, _, .tup l h => .tup l h.up
theorem Tts.up : ∀ {n : Nat} {ds : List PyData}, Tts n ds → Tts (n + 1) ds
  | _, _, .nil => .nil
  | _, _, .cons h r => .cons h.up r.up
end
theorem Tts.app {n : Nat} : ∀ {ds es : List PyData}, Tts n ds → Tts n es → Tts n (ds ++ es)
  | _, _, .nil, h => h
  | _, _, .cons h r, k => .cons h (r.app k)
theorem dpAll_len {K : PySem.W.Frag} {H : Hp} : ∀ {vs : List V} {ds : List PyData}, DpAll K H vs ds → vs.length = ds.length
  | _, _, .nil => rfl
  | _, _, .cons _ r => by rw [List.length_cons, List.length_cons, dpAll_len r]
theorem dpAll_at {K : PySem.W.Frag} {H : Hp} : ∀ {vs : List V} {ds : List PyData}, DpAll K H vs ds → ∀ {i : Nat} {v : V}, vs[i]? = some v → ∃ d, ds[i]? = some d ∧ Dp K H v d
  | _, _, .nil, i, v, h => by cases h
  | _, _, .cons (d := d) h r, 0, v, e => by
    cases e
    exact ⟨d, rfl, h⟩
  | _, _, .cons h r, i + 1, v, e => dpAll_at r (i := i) e
theorem dpAll_add {K : PySem.W.Frag} {H : Hp} {v : V} {d : PyData} : ∀ {vs : List V} {ds : List PyData}, DpAll K H vs ds → Dp K H v d → DpAll K H (vs ++ [v]) (ds ++ [d])
  | _, _, .nil, h => .cons h .nil
  | _, _, .cons a r, h => .cons a (dpAll_add r h)
theorem dpAll_app {K : PySem.W.Frag} {H : Hp} : ∀ {vs ws : List V} {ds es : List PyData}, DpAll K H vs ds → DpAll K H ws es → DpAll K H (vs ++ ws) (ds ++ es)
  | _, _, _, _, .nil, h => h
  | _, _, _, _, .cons a r, h => .cons a (dpAll_app r h)
/-- a write to a list leaves trees of texts as they are -/
theorem sqt_off {K : PySem.W.Frag} {H : Hp} {a D : Addr} {xs ys : List V} {o : HO} (h : SqT K H a xs) (hD : H D = some (.lst ys)) : SqT K (upd H D o) a xs := by
  rcases h with h | h
  · refine .inl ?_
    rcases h with h | ⟨ob, h⟩
    · exact .inl ((upd_ne (fun e => by rw [e, hD] at h; cases h)).trans h)
    · exact .inr ⟨ob, (upd_ne (fun e => by rw [e, hD] at h; cases h)).trans h⟩
  · exact .inr h
mutual
theorem dp_off {K : PySem.W.Frag} {H : Hp} {D : Addr} {ys : List V} {o : HO} (hD : H D = some (.lst ys)) : ∀ {n : Nat} {d : PyData} {v : V}, Tt n d → Dp K H v d → Dp K (upd H D o) v d
  | _, _, _, .str _, h => by
    cases h
    exact .str _
  | _, _, _, .int _, h => by
    cases h
    exact .int _
  | _, _, _, .tup _ hs, h => by
    cases h with
    | tup h1 h2 => exact .tup (sqt_off h1 hD) (dps_off hD hs h2)
theorem dps_off {K : PySem.W.Frag} {H : Hp} {D : Addr} {ys : List V} {o : HO} (hD : H D = some (.lst ys)) : ∀ {n : Nat} {ds : List PyData} {vs : List V}, Tts n ds → DpAll K H vs ds → DpAll K (upd H D o) vs ds
  | _, _, _, .nil, h => by
    cases h
    exact .nil
  | _, _, _, .cons h1 r1, h => by
    cases h with
    | cons h2 r2 => exact .cons (dp_off hD h1 h2) (dps_off hD r1 r2)
end
theorem tyx_t {K : PySem.W.Frag} {H : Hp} {a : Addr} {xs : List V} (h : SqT K H a xs) : TyX K H (.ref a) (.type "tuple") := by
  rcases h with h | ⟨o, its, n, hk, hc, _⟩
  · rcases h with h | ⟨ob, h⟩
    · exact .base (.tup h)
    · exact .fTuple h
  · exact .kTuple hk hc
theorem tyx_l {K : PySem.W.Frag} {H : Hp} {a : Addr} {xs : List V} (h : SqL K H a xs) : TyX K H (.ref a) (.type "list") := by
  rcases h with h | ⟨o, its, n, hk, hc, _⟩
  · rcases h with h | ⟨ob, h⟩
    · exact .base (.lst h)
    · exact .base (.frz h)
  · exact .kList hk hc
theorem op_catT0 {X : Cx} : OpR X (binaryOp .Add) (fun x y H Q => ∃ a b ys, x = .ref a ∧ y = .ref b ∧ SqT X.K H a [] ∧ SqT X.K H b ys ∧ Q (.ref b) H) := by
  intro pins s σ H x y v u Q I rx ry h
  obtain ⟨a, b, ys, rfl, rfl, ha, hb, q⟩ := h
  cases rx
  cases ry
  obtain ⟨its, r1, p1, _⟩ := I.tuple ha
  obtain ⟨its2, r2, p2, _⟩ := I.tuple hb
  cases r1
  obtain ⟨⟨cls, dd, data, sl⟩, ho, hc, n, hd⟩ := id p1
  obtain ⟨⟨cls2, dd2, data2, sl2⟩, ho2, hc2, n2, hd2⟩ := id p2
  simp only at hc hd hc2 hd2
  subst hc hd hc2 hd2
  exact concat_meets ⟨_, ho, rfl⟩ ⟨_, ho2, rfl⟩ noFill_tuple_add seq_tuple_add PySem.F.slot_tuple_add PySem.F.entry_tuple_add (PySem.F.args_tuple_add_2 _ _) (tuple_addW0 a b _ its2.toArray n n2 dd dd2 sl sl2 (by simp)) ⟨ho, ho2, ⟨.ref b, H, I, rfl, q⟩⟩
theorem units65 {k : Nat} {A : Around} (r : Room k A) : A.units + 65 < cLine := by
  have z := r.un
  omega
theorem go_test {t : TT} {σ : L2.St} {H : Hp} {b : Bool} {Q : Bool → Hp → Prop} (h : EvT t σ H b) (k : ∀ H2, Ex H H2 → Q b H2) : t σ H Q := h H (Ex.refl H) Q k
theorem pg_tupc {X : Cx} {K : PySem.W.Frag} {es : List Expr} {k : Nat} {t : TGs} {n : Nat} {pos : Pos} (hK : X.K = K) (hc : X.calm = true) (h : PGs X es t) (hn : (assignEach es X.env).length = n := by rfl) (hst : (assignEach es X.env).findIdx? (·.1) = none := by rfl) : PG X (.Tuple es k pos) (gTup K n t) := hK ▸ pg_tup hc h hn hst
theorem walk_zipT {K : PySem.W.Frag} {a b : Addr} {xs ys : List V} {n : Nat} (hn : n = min xs.length ys.length) : Walk (RZ.ItzT K a b) n (fun H => SqT K H a xs ∧ SqT K H b ys) (YPair (fun i => xs[i]?) (fun i => ys[i]?)) := by
  subst hn
  refine ⟨fun i _ hi q => ?_, fun _ q => ⟨xs, ys, q.1, q.2, by omega⟩, fun i H v H' _ q y => ?_⟩
  · have k1 : i < xs.length := by omega
    have k2 : i < ys.length := by omega
    exact ⟨xs, ys, xs[i], ys[i], q.1, q.2, List.getElem?_eq_getElem k1, List.getElem?_eq_getElem k2⟩
  · obtain ⟨T, x, z, e1, e2, e3, e4, e5⟩ := y
    exact ⟨T, x, z, e1, e2, e3, e4 xs q.1, e5 ys q.2⟩
/-! ### statements -/
def ENT : List (Str × List Str) := [("put", ["cell"]), ("blank", ["cell"]), ("give", ["cell"]), ("push", ["row"]), ("pop", ["row"]), ("cut", ["row"]), ("answer", ["how"]), ("deeper", ["function"]), ("stop", ["end"]), ("fault", []), ("may", []), ("again", []), ("out", []),
  ("either", ["part", "part"]), ("tries", ["part"]), ("told", ["part", "part"]), ("look", ["cell", "part", "part"]), ("guard", ["part", "part"]), ("lastly", ["part", "part"])]
def isP : PyData → Bool
  | .tuple _ => true
  | _ => false
def argsOf : PyData → List PyData
  | .tuple (_ :: r) => r
  | _ => []
def wordOf : PyData → PyData
  | .tuple (w :: _) => w
  | _ => .none
def bodyOf : PyData → List PyData
  | .tuple ds => ds
  | _ => []
def parts (d : PyData) : List PyData := (argsOf d).filter isP
/-- a statement by its shape: a known word, as many entries as it has, parts where it has parts -/
def Sh (d : PyData) : Prop := ∃ w ks args, d = .tuple (.str w :: args) ∧ (w, ks) ∈ ENT ∧ args.length = ks.length ∧ ∀ (i : Nat) (k : Str) (x : PyData), ks[i]? = some k → args[i]? = some x → isP x = decide (k = "part")
def nums : Nat → List PyData → List PyData → List (PyData × List PyData)
  | 0, _, _ => []
  | n + 1, ss, ar => ss.flatMap fun s => (s, ar) :: ((parts s).zipIdx.flatMap fun p => nums n (bodyOf p.1) (ar ++ [.tuple [wordOf s, .int (p.2 : Nat)]]))
/-- a body: short, of such statements, of such bodies -/
def Bod : Nat → List PyData → Prop
  | 0, ss => ss = []
  | n + 1, ss => ss.length ≤ 14 ∧ ∀ s ∈ ss, Sh s ∧ ∀ p ∈ parts s, ∃ ds, p = .tuple ds ∧ Bod n ds
/-! ### the walkers' promises over trees -/
def spKd (K : PySem.W.Frag) : Sp := fun vs H Q _ => ∃ t w rest ks, vs = [.ref t] ∧ SqT K H t (.str w :: rest) ∧ (w, ks) ∈ ENT ∧ ∀ a H', (∀ H, SqT K H a (ks.map V.str)) → Ex H H' → Q (.ref a) H'
def spPt (K : PySem.W.Frag) : Sp := fun vs H Q _ => ∃ v d n, vs = [v] ∧ Dp K H v d ∧ Tt n d ∧ Sh d ∧ ∀ q ys H', H q = none → Ex H H' → H' q = some (.lst ys) → DpAll K H' ys (parts d) → Q (.ref q) H'

def spFr (K : PySem.W.Frag) (n : Nat) : Sp := fun vs H Q _ => ∃ v d, vs = [v] ∧ Dp K H v d ∧ Tt n d ∧ ∀ v' H', Ex H H' → Dp K H' v' d → Q v' H'

end TR
set_option Elab.async false
set_option linter.all false
set_option maxRecDepth 100000
set_option maxHeartbeats 8000000
/-! max with default=, == by an own __eq__ of any outcome. -/
namespace XQ
open PySem PySem.Spec PyProof.Rows L2 He XH XV XR PEN TR Evl

/-! ### max(xs, default=d) -/
def mxD (d : Int) : List Int → Int
  | [] => d
  | n :: r => r.foldl max n
def rMaxDef (K : PySem.W.Frag) : List V → List V → Hp → VK → Prop := fun vs zs H Q => ∃ (a : Addr) (ns : List Int) (d : Int), vs = [V.ref a] ∧ zs = [V.int d] ∧ SqL K H a (ns.map V.int) ∧ Q (.int (mxD d ns)) H
theorem reads_nums {h : Heap} : ∀ {ns : List Int} {its : List Value}, Vals (ns.map V.int) its → ReadsAll h its (ns.map PyData.int) []
  | [], _, r => by
    cases r
    exact .nil
  | n :: ns, _, r => by
    cases r with
    | cons r1 r2 =>
      obtain ⟨t, rfl⟩ := r1
      exact ReadsAll.cons (.int n t) (reads_nums r2)
theorem depth_nums : ∀ ns : List Int, PyData.depthAll (ns.map PyData.int) ≤ 1
  | [] => by simp [PyData.depthAll]
  | n :: r => by
    have k := depth_nums r
    simp only [List.map_cons, PyData.depthAll, PyData.depth]
    omega
theorem alike_nums (ns : List Int) : PySem.W.AlikeAll (ns.map PyData.int) := PySem.W.alikeAll_datum ns
theorem cr_maxDef {X : Cx} (hc : X.calm = true) (hu : X.A.units + 65 < cLine) : CallRK X (.builtin "max") [Str.ofString "default"] (rMaxDef X.K) := by
  intro pins s σ H xs zs us ws Q I rx rz h
  obtain ⟨a, ns, d, rfl, rfl, hs, q⟩ := h
  obtain ⟨its, rv, hl, _⟩ := I.list hs
  rw [Vals.ref1 rx]
  cases rz with
  | @cons _ w0 _ _ r1 r2 =>
    cases r2
    have dn := depth_nums ns
    refine PySem.W.max_list_default (d := w0) (xs := ns.map PyData.int) (as := []) (I.ok.hd hc) hl.isList (by simpa using reads_nums rv) (alike_nums ns) (by omega) (fun e h' tk hk => ?_) (fun y ys i v h' tk bs e hi r hk => ?_)
    · have e2 : ns = [] := List.map_eq_nil_iff.mp e
      subst e2
      exact ⟨.int d, H, I.kept hk, r1, q⟩
    · cases ns with
      | nil => cases e
      | cons n rest =>
        rw [List.map_cons] at e
        injection e with e1 e2
        subst e1 e2
        rw [PySem.W.maxD_ints] at r
        obtain ⟨t, rfl, _⟩ := reads_int_inv r
        exact ⟨.int (rest.foldl max n), H, I.kept hk, ⟨_, rfl⟩, q⟩

/-! ### x == y by the own __eq__ of x's class -/
def rOwn (K : PySem.W.Frag) (C : Addr) (sp : Sp) : R2 := fun x y H Q => ∃ (a dx : Addr) (fs : List (Str × V)) (t : Value), x = .ref a ∧ H a = some (.ins C dx fs) ∧ TyX K H y t ∧ PySem.W.notFirst K C t = true ∧ sp [.ref a, y] H (fun v H' => (∃ b, v = .bl b) ∧ Q v H') E0
theorem op_own {X : Cx} {C f : Addr} {fd : FuncData} {ps : List Str} {sp : Sp} {n : Nat} (F : FnOk X.prog X.w X.K X.mg X.base CX0 n f fd ps sp)
    (hs : PySem.W.findIn X.K (.ref C) "__eq__" = some (some (.ref f))) (hf : PySem.W.isFn X.K (.ref f) = true) (hb : Binds X.K fd ps []) (hr : Room n X.A) : OpR X (compareOp .Eq) (rOwn X.K C sp) := by
  intro pins s σ H x y v u Q I rx ry h
  obtain ⟨a, dx, fs, t, rfl, ha, ty, nf, hsp⟩ := h
  cases (show v = Value.ref a from rx)
  obtain ⟨mA, J, _⟩ := ins_get I.hok ha
  obtain ⟨od, J, _⟩ := J.look
  obtain ⟨m, hF⟩ := I.fr
  obtain ⟨P, Z, hp, _⟩ := kit_of I ry ty
  show wpAny (model X.prog X.w) X.A (richCompare .Eq (.ref a) u) (EP X pins σ Q) X.xe s
  refine PySem.W.cmp_K (op := .Eq) (tb := t) hr.units0 hF I.ok.mod.kin J (Z.ty _ _ I.kIn hp) nf hs hf ?_
  have hl := F.len _ _ _ _ hsp
  have r2 : Vals [V.ref a, y] [Value.ref a, u] := .cons rfl (.cons ry .nil)
  refine wpAny_call (codeAny_mono (F.run X.A X.stack s H ⟨[.ref a, u], []⟩ [.ref a, u] [.ref a, y] _ E0 hr I.env0 (by
    have := hb s [.ref a, u] I.kIn (by simpa using hl)
    simpa using this) r2 hsp) fun r s' hq => ?_)
  cases r with
  | error e => exact False.elim hq
  | ok fl =>
    cases fl with
    | ret w =>
      obtain ⟨z, H', I', rz, ⟨b, ez⟩, qz⟩ := I.after hq
      subst ez
      cases (show w = Value.bool b from rz)
      exact ⟨.bl b, H', I', rfl, qz⟩
    | next => exact False.elim hq
    | brk => exact False.elim hq
    | cont => exact False.elim hq
theorem op_or {X : Cx} {f : Value → Value → Sem Value} {r r' : R2} (h : OpR X f r) (h' : OpR X f r') : OpR X f (fun x y H Q => r x y H Q ∨ r' x y H Q) := by
  intro pins s σ H x y v u Q I rx ry q
  rcases q with q | q
  · exact h pins s σ H x y v u Q I rx ry q
  · exact h' pins s σ H x y v u Q I rx ry q
def orR (r r' : R2) : R2 := fun x y H Q => r x y H Q ∨ r' x y H Q
theorem op_or2 {X : Cx} {f : Value → Value → Sem Value} {r r' : R2} (h : OpR X f r) (h' : OpR X f r') : OpR X f (orR r r') := op_or h h'
end XQ

set_option Elab.async false
set_option linter.all false
set_option maxRecDepth 100000
set_option maxHeartbeats 8000000
/-! Puzzles: trees as data, what a puzzle is in a heap. -/
namespace PZ
open PySem PySem.Spec PyProof.Rows L2 He XH XV XR PEN TR XQ Evl

/-! ### trees -/
def nd (bs : List Int) (ks : List PyData) : PyData := .tuple [.tuple (bs.map PyData.int), .tuple ks]
theorem nums_inj : ∀ {a b : List Int}, a.map PyData.int = b.map PyData.int → a = b
  | [], [], _ => rfl
  | x :: a, y :: b, h => by
    rw [List.map_cons, List.map_cons] at h
    injection h with h1 h2
    injection h1 with h1
    rw [h1, nums_inj h2]
theorem nd_inj {bs bs' : List Int} {ks ks' : List PyData} (h : nd bs ks = nd bs' ks') : bs = bs' ∧ ks = ks' := by
  unfold nd at h
  injection h with h
  injection h with h1 h2
  injection h1 with h1
  injection h2 with h2 _
  injection h2 with h2
  exact ⟨nums_inj h1, h2⟩
mutual
def size : PyData → Nat
  | .tuple [_, .tuple ks] => 1 + sizeL ks
  | _ => 0
def sizeL : List PyData → Nat
  | [] => 0
  | k :: r => size k + sizeL r
end
mutual
def deep : PyData → Nat
  | .tuple [_, .tuple ks] => 1 + deepL ks
  | _ => 0
def deepL : List PyData → Nat
  | [] => 0
  | k :: r => max (deep k) (deepL r)
end
/-- the digits of a node -/
def istr (i : Int) : Str := (toString i : String)
def digS (bs : List Int) : Str := if (Txt.join ("" : Str) (bs.map istr)).length = 0 then "." else Txt.join ("" : Str) (bs.map istr)
def intOf : PyData → Int
  | .int i => i
  | _ => 0
mutual
def spell : PyData → Str
  | .tuple [.tuple bs, .tuple ks] => if ks = [] then digS (bs.map intOf) else digS (bs.map intOf) ++ ("(" : Str) ++ Txt.join ("," : Str) (spellL ks) ++ (")" : Str)
  | _ => "-"
def spellL : List PyData → List Str
  | [] => []
  | k :: r => spell k :: spellL r
end
def isN : PyData → Bool
  | .none => true
  | _ => false
/-- how many are left if what is spare at the end is dropped -/
def keepN {α : Type} (p : α → Bool) : List α → Nat
  | [] => 0
  | x :: r => if keepN p r = 0 then (if p x = true then 0 else 1) else keepN p r + 1
def short {α : Type} (p : α → Bool) (xs : List α) : List α := xs.take (keepN p xs)
def isZ : Int → Bool := fun b => decide (b = 0)
mutual
def trim : PyData → PyData
  | .tuple [.tuple bs, .tuple ks] => nd (short isZ (bs.map intOf)) ((trimL ks).take (keepN isN (trimL ks)))
  | d => d
def trimL : List PyData → List PyData
  | [] => []
  | k :: r => trim k :: trimL r
end
theorem ints_of (bs : List Int) : (bs.map PyData.int).map intOf = bs := by
  rw [List.map_map]
  exact List.map_id' bs
theorem size_nd (bs : List Int) (ks : List PyData) : size (nd bs ks) = 1 + sizeL ks := by simp [size, nd]
theorem deep_nd (bs : List Int) (ks : List PyData) : deep (nd bs ks) = 1 + deepL ks := by simp [deep, nd]
theorem spell_nd (bs : List Int) (ks : List PyData) : spell (nd bs ks) = if ks = [] then digS bs else digS bs ++ ("(" : Str) ++ Txt.join ("," : Str) (spellL ks) ++ (")" : Str) := by
  have e := ints_of bs
  simp only [spell, nd]
  rw [e]
theorem trim_nd (bs : List Int) (ks : List PyData) : trim (nd bs ks) = nd (short isZ bs) (short isN (trimL ks)) := by
  have e := ints_of bs
  simp only [trim, nd]
  rw [e]
  rfl
theorem spellL_map (ks : List PyData) : spellL ks = ks.map spell := by
  induction ks with
  | nil => rfl
  | cons k r ih => simp [spellL, ih]
theorem trimL_map (ks : List PyData) : trimL ks = ks.map trim := by
  induction ks with
  | nil => rfl
  | cons k r ih => simp [trimL, ih]
theorem size_non : size .none = 0 := by simp [size]
theorem deep_non : deep .none = 0 := by simp [deep]
theorem spell_non : spell .none = "-" := by simp [spell]
theorem trim_non : trim .none = .none := by simp [trim]
theorem sizeL_sum (ks : List PyData) : sizeL ks = (ks.map size).sum := by
  induction ks with
  | nil => rfl
  | cons k r ih => simp [sizeL, ih]
/-! ### what is dropped -/
theorem keepN_app {α : Type} (p : α → Bool) (x : α) : ∀ l : List α, keepN p (l ++ [x]) = if p x = true then keepN p l else l.length + 1
  | [] => by
    show (if (0 : Nat) = 0 then (if p x = true then 0 else 1) else 0 + 1) = _
    rfl
  | y :: r => by
    have ih := keepN_app p x r
    show (if keepN p (r ++ [x]) = 0 then (if p y = true then 0 else 1) else keepN p (r ++ [x]) + 1) = _
    rw [ih]
    by_cases h : p x = true
    · rw [if_pos h, if_pos h]
      rfl
    · rw [if_neg h, if_neg h, if_neg (by omega)]
      rfl
theorem keepN_le {α : Type} (p : α → Bool) : ∀ l : List α, keepN p l ≤ l.length
  | [] => Nat.le_refl _
  | y :: r => by
    have ih := keepN_le p r
    show (if keepN p r = 0 then (if p y = true then 0 else 1) else keepN p r + 1) ≤ r.length + 1
    split
    · split <;> omega
    · omega
theorem keepN_take {α : Type} {p : α → Bool} {l : List α} {i : Nat} {x : α} (h : l[i]? = some x) : keepN p (l.take (i + 1)) = if p x = true then keepN p (l.take i) else i + 1 := by
  have hi := (List.getElem?_eq_some_iff.mp h).1
  rw [take_more h, keepN_app, List.length_take, Nat.min_eq_left (Nat.le_of_lt hi)]
theorem keepN_map {α β : Type} (p : β → Bool) (f : α → β) : ∀ l : List α, keepN p (l.map f) = keepN (fun x => p (f x)) l
  | [] => rfl
  | y :: r => by
    have ih := keepN_map p f r
    show (if keepN p (r.map f) = 0 then (if p (f y) = true then 0 else 1) else keepN p (r.map f) + 1) = _
    rw [ih]
    rfl
theorem keepN_congr {α : Type} {p q : α → Bool} : ∀ {l : List α}, (∀ x ∈ l, p x = q x) → keepN p l = keepN q l
  | [], _ => rfl
  | y :: r, h => by
    have ih := keepN_congr (l := r) fun x hx => h x (List.mem_cons_of_mem _ hx)
    show (if keepN p r = 0 then (if p y = true then 0 else 1) else keepN p r + 1) = (if keepN q r = 0 then (if q y = true then 0 else 1) else keepN q r + 1)
    rw [ih, h y List.mem_cons_self]
theorem keepN_drop {α : Type} {p : α → Bool} {l : List α} {i : Nat} {x : α} (h : l[i]? = some x) (hp : p x = true) (k : keepN p (l.take (i + 1)) = keepN p l) : keepN p (l.take i) = keepN p l := by
  rw [← k, keepN_take h, if_pos hp]
theorem short_map {α β : Type} (p : β → Bool) (f : α → β) (l : List α) : short p (l.map f) = (short (fun x => p (f x)) l).map f := by
  unfold short
  rw [keepN_map, List.map_take]
/-! ### trees that are not too great -/
mutual
inductive Bd (B C : Nat) : PyData → Prop
  | mk {d : PyData} {bs : List Int} {ks : List PyData} (e : d = nd bs ks) (h1 : bs.length ≤ B) (h2 : ∀ b ∈ bs, b = 0 ∨ b = 1) (h3 : ks.length ≤ C) (h4 : BdL B C ks) : Bd B C d
inductive BdL (B C : Nat) : List PyData → Prop
  | nil : BdL B C []
  | non {ks : List PyData} (r : BdL B C ks) : BdL B C (.none :: ks)
  | one {k : PyData} {ks : List PyData} (h : Bd B C k) (r : BdL B C ks) : BdL B C (k :: ks)
end
theorem Bd.nd' {B C : Nat} {bs : List Int} {ks : List PyData} (h : Bd B C (nd bs ks)) : bs.length ≤ B ∧ (∀ b ∈ bs, b = 0 ∨ b = 1) ∧ ks.length ≤ C ∧ BdL B C ks := by
  cases h with
  | mk e h1 h2 h3 h4 =>
    obtain ⟨rfl, rfl⟩ := nd_inj e
    exact ⟨h1, h2, h3, h4⟩
theorem Bd.un {B C : Nat} {d : PyData} (h : Bd B C d) : ∃ bs ks, d = nd bs ks ∧ bs.length ≤ B ∧ (∀ b ∈ bs, b = 0 ∨ b = 1) ∧ ks.length ≤ C ∧ BdL B C ks := by
  cases h with
  | mk e h1 h2 h3 h4 => exact ⟨_, _, e, h1, h2, h3, h4⟩
theorem BdL.at {B C : Nat} : ∀ {ks : List PyData}, BdL B C ks → ∀ k ∈ ks, k = .none ∨ Bd B C k
  | _, .non r, k, hk => by
    rcases List.mem_cons.mp hk with e | h
    · exact .inl e
    · exact r.at k h
  | _, .one h0 r, k, hk => by
    rcases List.mem_cons.mp hk with e | h
    · rw [e]
      exact .inr h0
    · exact r.at k h
theorem BdL.of {B C : Nat} : ∀ {ks : List PyData}, (∀ k ∈ ks, k = .none ∨ Bd B C k) → BdL B C ks
  | [], _ => .nil
  | k :: r, h => by
    have ih := BdL.of (B := B) (C := C) (ks := r) fun x hx => h x (List.mem_cons_of_mem _ hx)
    rcases h k List.mem_cons_self with e | hb
    · rw [e]
      exact .non ih
    · exact .one hb ih
theorem BdL.take {B C : Nat} {ks : List PyData} (h : BdL B C ks) (n : Nat) : BdL B C (ks.take n) := BdL.of fun k hk => h.at k (List.mem_of_mem_take hk)
theorem Bd.notN {B C : Nat} {d : PyData} (h : Bd B C d) : isN d = false := by
  obtain ⟨bs, ks, rfl, _⟩ := h.un
  rfl
theorem Bd.ne {B C : Nat} {d : PyData} (h : Bd B C d) : d ≠ .none := fun e => by
  have := h.notN
  rw [e] at this
  cases this
mutual
theorem bd_trim {B C : Nat} : ∀ {d : PyData}, Bd B C d → Bd B C (trim d)
  | _, .mk (bs := bs) (ks := ks) e h1 h2 h3 h4 => by
    rw [e, trim_nd]
    have k := bdL_trim h4
    have l1 : (short isZ bs).length ≤ bs.length := by
      unfold short
      rw [List.length_take]
      omega
    have l2 : (short isN (trimL ks)).length ≤ ks.length := by
      unfold short
      rw [List.length_take, trimL_map, List.length_map]
      omega
    exact .mk rfl (by omega) (fun b hb => h2 b (List.mem_of_mem_take hb)) (by omega) (k.take _)
theorem bdL_trim {B C : Nat} : ∀ {ks : List PyData}, BdL B C ks → BdL B C (trimL ks)
  | _, .nil => by
    simp only [trimL]
    exact .nil
  | _, .non r => by
    simp only [trimL, trim_non]
    exact .non (bdL_trim r)
  | _, .one h r => by
    simp only [trimL]
    exact .one (bd_trim h) (bdL_trim r)
end
theorem sizeL_take (ks : List PyData) (n : Nat) : sizeL (ks.take n) ≤ sizeL ks := by
  induction ks generalizing n with
  | nil => simp
  | cons k r ih =>
    cases n with
    | zero => simp [sizeL]
    | succ n =>
      have k := ih n
      simp only [List.take_succ_cons, sizeL]
      omega
theorem deepL_take (ks : List PyData) (n : Nat) : deepL (ks.take n) ≤ deepL ks := by
  induction ks generalizing n with
  | nil => simp
  | cons k r ih =>
    cases n with
    | zero => simp [deepL]
    | succ n =>
      have k := ih n
      simp only [List.take_succ_cons, deepL]
      omega
mutual
theorem size_trim {B C : Nat} : ∀ {d : PyData}, Bd B C d → size (trim d) ≤ size d
  | _, .mk (bs := bs) (ks := ks) e h1 h2 h3 h4 => by
    rw [e, trim_nd, size_nd, size_nd]
    have k := sizeL_trim h4
    have k2 := sizeL_take (trimL ks) (keepN isN (trimL ks))
    unfold short
    omega
theorem sizeL_trim {B C : Nat} : ∀ {ks : List PyData}, BdL B C ks → sizeL (trimL ks) ≤ sizeL ks
  | _, .nil => by simp [trimL]
  | _, .non r => by
    have k := sizeL_trim r
    simp only [trimL, trim_non, sizeL]
    omega
  | _, .one h r => by
    have k := sizeL_trim r
    have k2 := size_trim h
    simp only [trimL, sizeL]
    omega
end
mutual
theorem deep_trim {B C : Nat} : ∀ {d : PyData}, Bd B C d → deep (trim d) ≤ deep d
  | _, .mk (bs := bs) (ks := ks) e h1 h2 h3 h4 => by
    rw [e, trim_nd, deep_nd, deep_nd]
    have k := deepL_trim h4
    have k2 := deepL_take (trimL ks) (keepN isN (trimL ks))
    unfold short
    omega
theorem deepL_trim {B C : Nat} : ∀ {ks : List PyData}, BdL B C ks → deepL (trimL ks) ≤ deepL ks
  | _, .nil => by simp [trimL]
  | _, .non r => by
    have k := deepL_trim r
    simp only [trimL, trim_non, deepL]
    omega
  | _, .one h r => by
    have k := deepL_trim r
    have k2 := deep_trim h
    simp only [trimL, deepL]
    omega
end
theorem deep_pos {B C : Nat} {d : PyData} (h : Bd B C d) : 1 ≤ deep d := by
  obtain ⟨bs, ks, rfl, _⟩ := h.un
  rw [deep_nd]
  omega
theorem size_pos {B C : Nat} {d : PyData} (h : Bd B C d) : 1 ≤ size d := by
  obtain ⟨bs, ks, rfl, _⟩ := h.un
  rw [size_nd]
  omega
theorem deepL_at {ks : List PyData} {k : PyData} (h : k ∈ ks) : deep k ≤ deepL ks := by
  induction ks with
  | nil => cases h
  | cons x r ih =>
    simp only [deepL]
    rcases List.mem_cons.mp h with e | h
    · rw [e]
      omega
    · have := ih h
      omega
theorem sizeL_at {ks : List PyData} {k : PyData} (h : k ∈ ks) : size k ≤ sizeL ks := by
  induction ks with
  | nil => cases h
  | cons x r ih =>
    simp only [sizeL]
    rcases List.mem_cons.mp h with e | h
    · rw [e]
      omega
    · have := ih h
      omega
mutual
theorem Bd.mono {B C B' C' : Nat} (h : B ≤ B') (h' : C ≤ C') : ∀ {d : PyData}, Bd B C d → Bd B' C' d
  | _, .mk e h1 h2 h3 h4 => .mk e (Nat.le_trans h1 h) h2 (Nat.le_trans h3 h') (h4.mono h h')
theorem BdL.mono {B C B' C' : Nat} (h : B ≤ B') (h' : C ≤ C') : ∀ {ks : List PyData}, BdL B C ks → BdL B' C' ks
  | _, .nil => .nil
  | _, .non r => .non (r.mono h h')
  | _, .one k r => .one (k.mono h h') (r.mono h h')
end
theorem BdL.app {B C : Nat} : ∀ {ks js : List PyData}, BdL B C ks → BdL B C js → BdL B C (ks ++ js)
  | _, _, .nil, h => h
  | _, _, .non r, h => .non (r.app h)
  | _, _, .one k r, h => .one k (r.app h)
theorem sizeL_app (a b : List PyData) : sizeL (a ++ b) = sizeL a + sizeL b := by
  induction a with
  | nil => simp [sizeL]
  | cons k r ih =>
    simp only [List.cons_append, sizeL, ih]
    omega
theorem deepL_app (a b : List PyData) : deepL (a ++ b) = max (deepL a) (deepL b) := by
  induction a with
  | nil => simp [deepL]
  | cons k r ih =>
    simp only [List.cons_append, deepL, ih]
    omega
end PZ

set_option Elab.async false
set_option linter.all false
set_option maxRecDepth 100000
set_option maxHeartbeats 8000000
namespace PZ
open PySem PySem.Spec PyProof.Rows L2 He XH XV XR PEN TR XQ Evl

/-! ### lengths of texts -/
theorem app_len (a b : Str) : (a ++ b).length = a.length + b.length := by
  obtain ⟨a⟩ := a
  obtain ⟨b⟩ := b
  show (a ++ b).size = a.size + b.size
  simp
theorem empty_app (w : Str) : Str.empty ++ w = w := by
  obtain ⟨a⟩ := w
  show (⟨#[] ++ a⟩ : Str) = ⟨a⟩
  simp
theorem joinL_len (S : List Nat) : ∀ ls : List (List Nat), (TL.joinL S ls).length ≤ (ls.map (·.length)).sum + ls.length * S.length
  | [] => Nat.zero_le _
  | [p] => by
    show p.length ≤ (p.length + 0) + 1 * S.length
    omega
  | p :: q :: r => by
    have k := joinL_len S (q :: r)
    show (p ++ (S ++ TL.joinL S (q :: r))).length ≤ _
    rw [List.length_append, List.length_append, List.map_cons, List.sum_cons, List.length_cons, Nat.succ_mul]
    omega
theorem join_len (a : Str) (ys : List Str) : (Txt.join a ys).length ≤ (ys.map (·.length)).sum + ys.length * a.length := by
  have z : TL.tl (Txt.join a ys) = TL.joinL (TL.tl a) (ys.map TL.tl) := by
    rw [TL.join_eq, TL.tl_join]
  have l1 : (Txt.join a ys).length = (TL.tl (Txt.join a ys)).length := len_codes _
  have l2 : a.length = (TL.tl a).length := len_codes _
  have l3 : (ys.map TL.tl).map (·.length) = ys.map (·.length) := by
    rw [List.map_map]
    exact List.map_congr_left fun y _ => (len_codes y).symm
  have k := joinL_len (TL.tl a) (ys.map TL.tl)
  rw [l3, List.length_map] at k
  rw [l1, z, l2]
  exact k
theorem sum_le {α : Type} {f : α → Nat} {b : Nat} : ∀ {l : List α}, (∀ x ∈ l, f x ≤ b) → (l.map f).sum ≤ l.length * b
  | [], _ => by simp
  | x :: r, h => by
    have k := sum_le (l := r) fun y hy => h y (List.mem_cons_of_mem _ hy)
    have k2 := h x List.mem_cons_self
    rw [List.map_cons, List.sum_cons, List.length_cons, Nat.succ_mul]
    omega
theorem istr_len {b : Int} (h : b = 0 ∨ b = 1) : (istr b).length = 1 := by
  rcases h with rfl | rfl <;> decide +kernel
theorem bits_sum {bs : List Int} (h : ∀ b ∈ bs, b = 0 ∨ b = 1) : ((bs.map istr).map (·.length)).sum = bs.length := by
  induction bs with
  | nil => rfl
  | cons b r ih =>
    have k := istr_len (h b List.mem_cons_self)
    have k2 := ih fun x hx => h x (List.mem_cons_of_mem _ hx)
    rw [List.map_cons, List.map_cons, List.sum_cons, k2, List.length_cons, k]
    omega
theorem digS_len {bs : List Int} (h : ∀ b ∈ bs, b = 0 ∨ b = 1) : (digS bs).length ≤ bs.length + 1 := by
  unfold digS
  split
  · have : ("." : Str).length = 1 := by decide +kernel
    omega
  · have k := join_len ("" : Str) (bs.map istr)
    have k2 := bits_sum h
    have k3 : ("" : Str).length = 0 := by decide +kernel
    rw [k2, k3] at k
    omega
theorem s1 : ("(" : Str).length = 1 ∧ (")" : Str).length = 1 ∧ ("," : Str).length = 1 ∧ ("-" : Str).length = 1 := by decide +kernel
mutual
theorem spell_len {B C : Nat} (hB : B ≤ 60) (hC : C ≤ 600) : ∀ {d : PyData}, Bd B C d → (spell d).length ≤ 1300 * size d
  | _, .mk (bs := bs) (ks := ks) e h1 h2 h3 h4 => by
    rw [e, spell_nd, size_nd]
    have k := spellL_len hB hC h4
    have kd := digS_len h2
    obtain ⟨p1, p2, p3, p4⟩ := s1
    split
    · omega
    · rw [app_len, app_len, app_len, p1, p2]
      have j := join_len ("," : Str) (spellL ks)
      have l : (spellL ks).length = ks.length := by rw [spellL_map, List.length_map]
      rw [p3, l] at j
      omega
theorem spellL_len {B C : Nat} (hB : B ≤ 60) (hC : C ≤ 600) : ∀ {ks : List PyData}, BdL B C ks → ((spellL ks).map (·.length)).sum ≤ 1300 * sizeL ks + ks.length
  | _, .nil => by simp [spellL]
  | _, .non r => by
    have k := spellL_len hB hC r
    obtain ⟨p1, p2, p3, p4⟩ := s1
    simp only [spellL, spell_non, sizeL, size_non, List.map_cons, List.sum_cons, List.length_cons, p4]
    omega
  | _, .one h r => by
    have k := spellL_len hB hC r
    have k2 := spell_len hB hC h
    simp only [spellL, sizeL, List.map_cons, List.sum_cons, List.length_cons]
    omega
end

/-! ### what keeps tuples and instances as they are -/
structure Kp (H H' : Hp) : Prop where
  ins : ∀ c C dx fs, fs ≠ [] → H c = some (.ins C dx fs) → H' c = some (.ins C dx fs)
  tup : ∀ c xs, Rd H c (.tup xs) → Rd H' c (.tup xs)
theorem Kp.refl (H : Hp) : Kp H H := ⟨fun _ _ _ _ _ h => h, fun _ _ h => h⟩
theorem Kp.trans {H H1 H2 : Hp} (a : Kp H H1) (b : Kp H1 H2) : Kp H H2 := ⟨fun c C dx fs n h => b.ins c C dx fs n (a.ins c C dx fs n h), fun c xs h => b.tup c xs (a.tup c xs h)⟩
theorem Kp.of {H H' : Hp} (e : Ex H H') : Kp H H' := ⟨fun c C dx fs _ h => e _ _ h, fun c xs h => ex_rd e h⟩
theorem Kp.lst {H : Hp} {D : Addr} {ys : List V} {o : HO} (hD : H D = some (.lst ys)) : Kp H (upd H D o) :=
  ⟨fun c C dx fs _ h => (upd_ne (fun e => by rw [e, hD] at h; cases h)).trans h, fun c xs h => by
    rcases h with h | ⟨o, h⟩
    · exact .inl ((upd_ne (fun e => by rw [e, hD] at h; cases h)).trans h)
    · exact .inr ⟨o, (upd_ne (fun e => by rw [e, hD] at h; cases h)).trans h⟩⟩
theorem Kp.xa {H H' : Hp} {a C dx : Addr} (ha : H a = some (.ins C dx [])) (k : Xa a H H') : Kp H H' :=
  ⟨fun c C' dx' fs n h => k c _ (fun e => by rw [e, ha] at h; injection h with h; injection h with _ _ h; exact n h.symm) h, fun c xs h => by
    rcases h with h | ⟨o, h⟩
    · exact .inl (k c _ (fun e => by rw [e, ha] at h; cases h) h)
    · exact .inr ⟨o, k c _ (fun e => by rw [e, ha] at h; cases h) h⟩⟩
theorem Kp.px {H H' : Hp} {p l : Addr} {n : Nat} (hP : Pen p l n H) (k : Px p l H H') : Kp H H' := by
  obtain ⟨c, ns, e1, e2, _⟩ := hP
  refine ⟨fun c C' dx' fs n h => k.get (fun e => by rw [e, e1] at h; cases h) (fun e => by rw [e, e2] at h; cases h) h, fun c xs h => ?_⟩
  rcases h with h | ⟨o, h⟩
  · exact .inl (k.get (fun e => by rw [e, e1] at h; cases h) (fun e => by rw [e, e2] at h; cases h) h)
  · exact .inr ⟨o, k.get (fun e => by rw [e, e1] at h; cases h) (fun e => by rw [e, e2] at h; cases h) h⟩
theorem Kp.t {K : PySem.W.Frag} {H H' : Hp} (k : Kp H H') {a : Addr} {xs : List V} (h : SqT K H a xs) : SqT K H' a xs := by
  rcases h with h | h
  · exact .inl (k.tup _ _ h)
  · exact .inr h
mutual
def tupD : PyData → Bool
  | .list _ => false
  | .dict _ => false
  | .tuple ds => tupDs ds
  | _ => true
def tupDs : List PyData → Bool
  | [] => true
  | d :: r => tupD d && tupDs r
end
mutual
theorem dp_kp {K : PySem.W.Frag} {H H' : Hp} (k : Kp H H') : ∀ (d : PyData) (v : V), tupD d = true → Dp K H v d → Dp K H' v d
  | .none, _, _, h => by
    cases h
    exact .non
  | .bool b, _, _, h => by
    cases h
    exact .bl b
  | .int i, _, _, h => by
    cases h
    exact .int i
  | .str x, _, _, h => by
    cases h
    exact .str x
  | .list ds, _, t, h => by simp [tupD] at t
  | .dict ds, _, t, h => by simp [tupD] at t
  | .tuple ds, _, t, h => by
    simp only [tupD] at t
    cases h with
    | tup h1 h2 => exact .tup (k.t h1) (dps_kp k ds _ t h2)
theorem dps_kp {K : PySem.W.Frag} {H H' : Hp} (k : Kp H H') : ∀ (ds : List PyData) (vs : List V), tupDs ds = true → DpAll K H vs ds → DpAll K H' vs ds
  | [], _, _, h => by
    cases h
    exact .nil
  | d :: ds, _, t, h => by
    simp only [tupDs, Bool.and_eq_true] at t
    cases h with
    | cons h1 h2 => exact .cons (dp_kp k d _ t.1 h1) (dps_kp k ds _ t.2 h2)
end
theorem tupDs_ints (bs : List Int) : tupDs (bs.map PyData.int) = true := by
  induction bs with
  | nil => rfl
  | cons b r ih => simp [tupDs, tupD, ih]
mutual
theorem bd_tup {B C : Nat} : ∀ {d : PyData}, Bd B C d → tupD d = true
  | _, .mk (bs := bs) (ks := ks) e h1 h2 h3 h4 => by
    rw [e]
    simp [nd, tupD, tupDs, tupDs_ints, bdL_tup h4]
theorem bdL_tup {B C : Nat} : ∀ {ks : List PyData}, BdL B C ks → tupDs ks = true
  | _, .nil => rfl
  | _, .non r => by simp [tupDs, tupD, bdL_tup r]
  | _, .one h r => by simp [tupDs, bd_tup h, bdL_tup r]
end
theorem dp_ints {K : PySem.W.Frag} {H : Hp} : ∀ {bs : List Int} {vs : List V}, DpAll K H vs (bs.map PyData.int) → vs = bs.map V.int
  | [], _, h => by
    cases h
    rfl
  | b :: r, _, h => by
    cases h with
    | cons h1 h2 =>
      cases h1
      rw [dp_ints h2]
      rfl
theorem dp_nums {K : PySem.W.Frag} {H : Hp} (bs : List Int) : DpAll K H (bs.map V.int) (bs.map PyData.int) := by
  induction bs with
  | nil => exact .nil
  | cons b r ih => exact .cons (.int b) ih
/-- a tree in a heap -/
theorem dp_nd {K : PySem.W.Frag} {H : Hp} {v : V} {bs : List Int} {ks : List PyData} (h : Dp K H v (nd bs ks)) : ∃ t tb tk vs, v = .ref t ∧ SqT K H t [.ref tb, .ref tk] ∧ SqT K H tb (bs.map V.int) ∧ SqT K H tk vs ∧ DpAll K H vs ks := by
  unfold nd at h
  cases h with
  | tup h1 h2 =>
    cases h2 with
    | cons h3 h4 =>
      cases h3 with
      | tup h5 h6 =>
        cases h4 with
        | cons h7 h8 =>
          cases h8
          cases h7 with
          | tup h9 h10 =>
            have e := dp_ints h6
            subst e
            exact ⟨_, _, _, _, rfl, h1, h5, h9, h10⟩
theorem nd_dp {K : PySem.W.Frag} {H : Hp} {t tb tk : Addr} {vs : List V} {bs : List Int} {ks : List PyData} (h1 : SqT K H t [.ref tb, .ref tk]) (h2 : SqT K H tb (bs.map V.int)) (h3 : SqT K H tk vs) (h4 : DpAll K H vs ks) : Dp K H (.ref t) (nd bs ks) :=
  .tup h1 (.cons (.tup h2 (dp_nums bs)) (.cons (.tup h3 h4) .nil))

/-! ### puzzles -/
mutual
inductive Pz (K : PySem.W.Frag) (H : Hp) : Addr → PyData → Prop
  | mk {a dx ba ca : Addr} {d : PyData} {bs : List Int} {ks : List PyData} {vs : List V} (e : d = nd bs ks) (b : Bd 60 600 d)
      (h : H a = some (.ins (ga K "Puzzle") dx [("bits", .ref ba), ("children", .ref ca), ("size", .int (size d : Nat)), ("depth", .int (deep d : Nat)), ("spelling", .str (spell d))]))
      (hb : SqT K H ba (bs.map V.int)) (hc : SqT K H ca vs) (hk : PzL K H vs ks) : Pz K H a d
inductive PzL (K : PySem.W.Frag) (H : Hp) : List V → List PyData → Prop
  | nil : PzL K H [] []
  | non {vs : List V} {ks : List PyData} (r : PzL K H vs ks) : PzL K H (.non :: vs) (.none :: ks)
  | one {a : Addr} {vs : List V} {k : PyData} {ks : List PyData} (h : Pz K H a k) (r : PzL K H vs ks) : PzL K H (.ref a :: vs) (k :: ks)
end
theorem Pz.kp {K : PySem.W.Frag} {H H' : Hp} (k : Kp H H') {a : Addr} {d : PyData} (h : Pz K H a d) : Pz K H' a d := by
  refine Pz.rec (motive_1 := fun a d _ => Pz K H' a d) (motive_2 := fun vs ks _ => PzL K H' vs ks) ?_ ?_ ?_ ?_ h
  · intro a dx ba ca d bs ks vs e b h hb hc hk ih
    exact .mk e b (k.ins _ _ _ _ (fun z => nomatch z) h) (k.t hb) (k.t hc) ih
  · exact .nil
  · intro vs ks r ih
    exact .non ih
  · intro a vs d ks h r ih1 ih2
    exact .one ih1 ih2
theorem PzL.kp {K : PySem.W.Frag} {H H' : Hp} (k : Kp H H') : ∀ {vs : List V} {ks : List PyData}, PzL K H vs ks → PzL K H' vs ks
  | _, _, .nil => .nil
  | _, _, .non r => .non (r.kp k)
  | _, _, .one h r => .one (h.kp k) (r.kp k)
theorem Pz.bd {K : PySem.W.Frag} {H : Hp} {a : Addr} {d : PyData} (h : Pz K H a d) : Bd 60 600 d := by
  cases h with
  | mk e b _ _ _ _ => exact b
theorem PzL.bd {K : PySem.W.Frag} {H : Hp} : ∀ {vs : List V} {ks : List PyData}, PzL K H vs ks → BdL 60 600 ks
  | _, _, .nil => .nil
  | _, _, .non r => .non r.bd
  | _, _, .one h r => .one h.bd r.bd
theorem PzL.len {K : PySem.W.Frag} {H : Hp} : ∀ {vs : List V} {ks : List PyData}, PzL K H vs ks → vs.length = ks.length
  | _, _, .nil => rfl
  | _, _, .non r => by rw [List.length_cons, List.length_cons, r.len]
  | _, _, .one _ r => by rw [List.length_cons, List.length_cons, r.len]
theorem PzL.app {K : PySem.W.Frag} {H : Hp} : ∀ {vs ws : List V} {ks js : List PyData}, PzL K H vs ks → PzL K H ws js → PzL K H (vs ++ ws) (ks ++ js)
  | _, _, _, _, .nil, h => h
  | _, _, _, _, .non r, h => .non (r.app h)
  | _, _, _, _, .one k r, h => .one k (r.app h)
theorem PzL.take {K : PySem.W.Frag} {H : Hp} : ∀ {vs : List V} {ks : List PyData} (n : Nat), PzL K H vs ks → PzL K H (vs.take n) (ks.take n)
  | _, _, 0, _ => .nil
  | _, _, n + 1, .nil => .nil
  | _, _, n + 1, .non r => .non (r.take n)
  | _, _, n + 1, .one h r => .one h (r.take n)
/-- a child at its place -/
theorem PzL.at {K : PySem.W.Frag} {H : Hp} : ∀ {vs : List V} {ks : List PyData}, PzL K H vs ks → ∀ {i : Nat} {v : V}, vs[i]? = some v → ∃ k, ks[i]? = some k ∧ ((v = .non ∧ k = .none) ∨ ∃ c, v = .ref c ∧ Pz K H c k)
  | _, _, .nil, i, v, h => by cases h
  | _, _, .non r, 0, v, h => by
    cases h
    exact ⟨_, rfl, .inl ⟨rfl, rfl⟩⟩
  | _, _, .one p r, 0, v, h => by
    cases h
    exact ⟨_, rfl, .inr ⟨_, rfl, p⟩⟩
  | _, _, .non r, i + 1, v, h => r.at (i := i) h
  | _, _, .one p r, i + 1, v, h => r.at (i := i) h

theorem spellL_at {ks : List PyData} {i : Nat} {k : PyData} (h : ks[i]? = some k) : (spellL ks)[i]? = some (spell k) := by
  rw [spellL_map, List.getElem?_map, h]
  rfl
theorem keep_bits (bs : List Int) : keepN (fun v : V => decide (v = .int 0)) (bs.map V.int) = keepN isZ bs := by
  rw [keepN_map]
  refine keepN_congr fun b _ => ?_
  unfold isZ
  by_cases h : b = 0
  · subst h
    rfl
  · rw [decide_eq_false h]
    exact decide_eq_false fun e => h (by injection e)
theorem keep_kids {K : PySem.W.Frag} {H : Hp} : ∀ {ws : List V} {ks : List PyData}, PzL K H ws ks → keepN (fun v : V => decide (v = .non)) ws = keepN isN ks
  | _, _, .nil => rfl
  | _, _, .non r => by
    have k := keep_kids r
    simp only [keepN, k, isN]
    rfl
  | _, _, .one (k := d) h r => by
    have k := keep_kids r
    have e := h.bd.notN
    simp only [keepN, k, e]
    rfl
theorem PzL.nodes {K : PySem.W.Frag} {H : Hp} : ∀ {ws : List V} {ks : List PyData}, PzL K H ws ks → PzL K H (ws.filter fun v => !decide (v = .non)) (ks.filter fun k => !isN k)
  | _, _, .nil => .nil
  | _, _, .non r => by
    have k := r.nodes
    rw [List.filter_cons, List.filter_cons, if_neg (by decide), if_neg (by decide)]
    exact k
  | _, _, .one (k := d) h r => by
    have k := r.nodes
    have e := h.bd.notN
    rw [List.filter_cons, List.filter_cons, if_pos (by rw [decide_eq_false (by intro z; cases z)]; rfl), if_pos (by rw [e]; rfl)]
    exact .one h k
theorem PzL.ref {K : PySem.W.Frag} {H : Hp} {ws : List V} {ks : List PyData} (h : PzL K H ws ks) (n : ∀ k ∈ ks, isN k = false) {i : Nat} {v : V} (hv : ws[i]? = some v) : ∃ c k, v = .ref c ∧ ks[i]? = some k ∧ Pz K H c k := by
  obtain ⟨k, hk, cas⟩ := h.at hv
  rcases cas with ⟨_, rfl⟩ | ⟨c, rfl, hp⟩
  · have := n _ (List.mem_of_getElem? hk)
    cases this
  · exact ⟨c, k, rfl, hk, hp⟩
theorem size_nodes (ks : List PyData) : ((ks.filter fun k => !isN k).map size).sum = sizeL ks := by
  induction ks with
  | nil => rfl
  | cons k r ih =>
    rw [List.filter_cons]
    cases h : isN k with
    | true =>
      have e : k = .none := by
        cases k <;> first | rfl | cases h
      rw [if_neg (by decide), ih, e]
      simp [sizeL, size_non]
    | false =>
      rw [if_pos (by decide), List.map_cons, List.sum_cons, ih]
      simp [sizeL]
theorem fold_max : ∀ (l : List Nat) (m : Nat), (l.map fun n : Nat => (n : Int)).foldl max (m : Int) = ((l.foldl max m : Nat) : Int)
  | [], _ => rfl
  | n :: r, m => by
    rw [List.map_cons, List.foldl_cons, List.foldl_cons]
    have e : max (m : Int) (n : Int) = ((max m n : Nat) : Int) := by omega
    rw [e, fold_max r]
theorem max_nodes : ∀ (ks : List PyData) (m : Nat), ((ks.filter fun k => !isN k).map deep).foldl max m = max m (deepL ks)
  | [], m => by simp [deepL]
  | k :: r, m => by
    rw [List.filter_cons]
    cases h : isN k with
    | true =>
      have e : k = .none := by
        cases k <;> first | rfl | cases h
      rw [if_neg (by decide), max_nodes r m, e]
      simp [deepL, deep_non]
    | false =>
      rw [if_pos (by decide), List.map_cons, List.foldl_cons, max_nodes r]
      simp only [deepL]
      omega
theorem deep_nodes (ks : List PyData) : mxD 0 (((ks.filter fun k => !isN k).map deep).map fun n : Nat => (n : Int)) = (deepL ks : Nat) := by
  have k := max_nodes ks 0
  cases e : (ks.filter fun k => !isN k).map deep with
  | nil =>
    rw [e] at k
    simp only [List.foldl_nil] at k
    show (0 : Int) = _
    omega
  | cons n r =>
    rw [e] at k
    rw [List.foldl_cons] at k
    show (r.map fun n : Nat => (n : Int)).foldl max (n : Int) = _
    rw [fold_max]
    have e2 : max 0 n = n := by omega
    rw [e2] at k
    omega
/-- tuple(xs) of a list or a tuple -/
theorem tup_go {K : PySem.W.Frag} {H : Hp} {p : Addr} {ys : List V} {Q : VK} (h : SqL K H p ys ∨ SqT K H p ys) (k : ∀ r H', Ex H H' → SqT K H' r ys → Q (.ref r) H') : (SqL K H p ys ∧ ∀ l, H l = none → Q (.ref l) (upd H l (.tup ys))) ∨ (SqT K H p ys ∧ Q (.ref p) H) := by
  rcases h with h | h
  · exact .inl ⟨h, fun l hl => k l _ (Ex.new hl) (st_of upd_same)⟩
  · exact .inr ⟨h, k p H (Ex.refl H) h⟩
/-- x = tuple(xs), xs a list or a tuple -/
def rTup (K : PySem.W.Frag) : List V → Hp → VK → Prop := fun xs H Q => ∃ p ys, xs = [.ref p] ∧ ((SqL K H p ys ∧ ∀ l, H l = none → Q (.ref l) (upd H l (.tup ys))) ∨ (SqT K H p ys ∧ Q (.ref p) H))
theorem q_tup {K : PySem.W.Frag} {te : TE} {i : Nat} {tz : TS} {D : Ends} {σ : L2.St} {H : Hp} {p : Addr} {ys : List V} (he : Ev te σ H (.ref p)) (h : SqL K H p ys ∨ SqT K H p ys) (k : ∀ r H', Ex H H' → SqT K H' r ys → tz D (σ.set i (some (.ref r))) H') : tSeq (tAsg (tCB (rTup K) (tCons te tNil)) (gName i)) tz D σ H :=
  he H (Ex.refl H) _ fun H1 e1 => ⟨p, ys, rfl, tup_go (Q := fun v H' => tz D (σ.set i (some v)) H') (h.imp (ex_l e1) (ex_t e1)) fun r H' e g => k r H' (e1.trans e) g⟩
theorem take_all {α : Type} {l : List α} {n : Nat} (h : l.length ≤ n) : l.take n = l := List.take_of_length_le h
/-! ### data that may be compared -/
theorem layNums (bs : List Int) : PyData.canLayAll0 (bs.map PyData.int) = true := by
  induction bs with
  | nil => simp [PyData.canLayAll0]
  | cons b r ih => simp [PyData.canLayAll0, PyData.canLay0, ih]
mutual
theorem lay_bd {B C : Nat} : ∀ {d : PyData}, Bd B C d → PyData.canLay0 d = true
  | _, .mk (bs := bs) (ks := ks) e h1 h2 h3 h4 => by
    rw [e]
    simp [nd, PyData.canLay0, PyData.canLayAll0, layNums, lay_bdL h4]
theorem lay_bdL {B C : Nat} : ∀ {ks : List PyData}, BdL B C ks → PyData.canLayAll0 ks = true
  | _, .nil => by simp [PyData.canLayAll0]
  | _, .non r => by simp [PyData.canLayAll0, PyData.canLay0, lay_bdL r]
  | _, .one h r => by simp [PyData.canLayAll0, lay_bd h, lay_bdL r]
end
mutual
theorem dep_bd {B C : Nat} : ∀ {d : PyData}, Bd B C d → PyData.depth d ≤ 2 * deep d + 1
  | _, .mk (bs := bs) (ks := ks) e h1 h2 h3 h4 => by
    rw [e, deep_nd]
    have k := depth_nums bs
    have k2 := dep_bdL h4
    simp only [nd, PyData.depth, PyData.depthAll]
    omega
theorem dep_bdL {B C : Nat} : ∀ {ks : List PyData}, BdL B C ks → PyData.depthAll ks ≤ 2 * deepL ks + 1
  | _, .nil => by simp [PyData.depthAll]
  | _, .non r => by
    have k := dep_bdL r
    simp only [PyData.depthAll, PyData.depth, deepL, deep_non]
    omega
  | _, .one h r => by
    have k := dep_bdL r
    have k2 := dep_bd h
    simp only [PyData.depthAll, deepL]
    omega
end
theorem shp_bd {B C : Nat} {d : PyData} (h : Bd B C d) (hd : deep d ≤ 31) : SeqAt.shaped d = true := by
  have k := dep_bd h
  unfold SeqAt.shaped
  rw [Bool.and_eq_true]
  exact ⟨lay_bd h, decide_eq_true (by omega)⟩
theorem shp_kids {B C : Nat} {ks : List PyData} (h : BdL B C ks) (hd : deepL ks ≤ 30) : SeqAt.shaped (.tuple ks) = true := by
  have k := dep_bdL h
  unfold SeqAt.shaped
  rw [Bool.and_eq_true]
  refine ⟨by simp [PyData.canLay0, lay_bdL h], decide_eq_true ?_⟩
  simp only [PyData.depth]
  omega
theorem shp_nums (bs : List Int) : SeqAt.shaped (.tuple (bs.map PyData.int)) = true := by
  have k := depth_nums bs
  unfold SeqAt.shaped
  rw [Bool.and_eq_true]
  refine ⟨by simp [PyData.canLay0, layNums], decide_eq_true ?_⟩
  simp only [PyData.depth]
  omega
theorem eqv_non (d : PyData) : PyData.eqv d .none = isN d := by
  cases d <;> rfl
theorem eqv_zero (b : Int) : PyData.eqv (.int b) (.int 0) = isZ b := by
  show (b == 0) = decide (b = 0)
  by_cases h : b = 0 <;> simp [h]
theorem keep_nums (bs : List Int) : keepN (fun d => PyData.eqv d (.int 0)) (bs.map PyData.int) = keepN isZ bs := by
  rw [keepN_map]
  exact keepN_congr fun b _ => eqv_zero b
theorem keep_nons (ks : List PyData) : keepN (fun d => PyData.eqv d .none) ks = keepN isN ks := keepN_congr fun d _ => eqv_non d
theorem dps_take {K : PySem.W.Frag} {H : Hp} : ∀ {vs : List V} {ds : List PyData} (n : Nat), DpAll K H vs ds → DpAll K H (vs.take n) (ds.take n)
  | _, _, 0, _ => .nil
  | _, _, n + 1, .nil => .nil
  | _, _, n + 1, .cons h r => .cons h (dps_take n r)
theorem ev_call {sp : Sp} {ta : TA} {σ : L2.St} {H : Hp} {vs : List V} {v : V} (h : EvA ta σ H vs) (hs : ∀ H1, Ex H H1 → ∀ Q : VK, (∀ H2, Ex H1 H2 → Q v H2) → sp (vs ++ []) H1 Q E0) : Ev (tCall sp [] E0 ta) σ H v := fun H1 e Q q =>
  h H1 e _ fun H2 e2 => hs H2 (e.trans e2) Q fun H3 e3 => q H3 (e2.trans e3)
theorem rv_ix {K : PySem.W.Frag} {H : Hp} {p : Addr} {xs : List V} {i : Int} {v : V} (h : SqL K H p xs ∨ SqT K H p xs) (ha : atI xs i = some v) : RV (rIx K) (.ref p) (.int i) H v := fun H1 e Q q => by
  rcases h with h | h
  · exact .inl ⟨p, xs, i, v, rfl, rfl, ex_l e h, ha, q H1 (Ex.refl _)⟩
  · exact .inr (.inl ⟨p, xs, i, v, rfl, rfl, ex_t e h, ha, q H1 (Ex.refl _)⟩)
theorem rv_neD {K : PySem.W.Frag} {H : Hp} {x y : V} {d e : PyData} (hd : Dp K H x d) (he : Dp K H y e) (sd : SeqAt.shaped d = true) (se : SeqAt.shaped e = true) : RV (rNeD K) x y H (.bl (!PyData.eqv d e)) := fun H1 a Q q => ⟨d, e, dpM a _ _ hd, dpM a _ _ he, sd, se, q H1 (Ex.refl _)⟩
theorem rv_eqD {K : PySem.W.Frag} {H : Hp} {x y : V} {d e : PyData} (hd : Dp K H x d) (he : Dp K H y e) (sd : SeqAt.shaped d = true) (se : SeqAt.shaped e = true) : RV (rEqD K) x y H (.bl (PyData.eqv d e)) := fun H1 a Q q => ⟨d, e, dpM a _ _ hd, dpM a _ _ he, sd, se, q H1 (Ex.refl _)⟩
theorem rv_isNo {H : Hp} {x : V} : RV (fun x y H Q => y = .non ∧ Q (.bl (decide (x = .non))) H) x .non H (.bl (decide (x = .non))) := fun H1 _ Q q => ⟨rfl, q H1 (Ex.refl _)⟩
theorem rv_notNo {H : Hp} {x : V} : RV (fun x y H Q => y = .non ∧ Q (.bl (!decide (x = .non))) H) x .non H (.bl (!decide (x = .non))) := fun H1 _ Q q => ⟨rfl, q H1 (Ex.refl _)⟩
theorem dp_non {K : PySem.W.Frag} {H : Hp} {B C : Nat} {v : V} {d : PyData} (h : Dp K H v d) (hd : d = .none ∨ Bd B C d) : (v = .non ∧ d = .none) ∨ (∃ t, v = .ref t ∧ Bd B C d) := by
  rcases hd with rfl | hb
  · cases h
    exact .inl ⟨rfl, rfl⟩
  · obtain ⟨bs, ks, rfl, _⟩ := id hb.un
    obtain ⟨t, _, _, _, rfl, _⟩ := dp_nd h
    exact .inr ⟨t, rfl, hb⟩
theorem deepL_mem (ks : List PyData) : deepL ks = 0 ∨ ∃ k ∈ ks, deep k = deepL ks := by
  induction ks with
  | nil => exact .inl (by simp [deepL])
  | cons k r ih =>
    simp only [deepL]
    by_cases h : deepL r ≤ deep k
    · exact .inr ⟨k, List.mem_cons_self, by omega⟩
    · rcases ih with e | ⟨x, hx, e⟩
      · omega
      · exact .inr ⟨x, List.mem_cons_of_mem _ hx, by omega⟩
theorem eqv_same {d : PyData} (h : SeqAt.shaped d = true) : PyData.eqv d d = true := SeqAt.eqv_refl d (SeqAt.canLay_of_shaped h)
end PZ

set_option Elab.async false
set_option linter.all false
set_option maxRecDepth 100000
set_option maxHeartbeats 8000000
/-! Unlike trees have unlike spellings. -/
namespace PZ
open PySem PySem.Spec PyProof.Rows L2 He XH XV XR PEN TR XQ Evl

def cd (z : Str) : List Nat := z.cps.toList
theorem str_ext {a b : Str} (h : cd a = cd b) : a = b := by
  obtain ⟨x⟩ := a
  obtain ⟨y⟩ := b
  have e : x = y := Array.toList_inj.mp h
  rw [e]
theorem app_cd (a b : Str) : cd (a ++ b) = cd a ++ cd b := by
  obtain ⟨x⟩ := a
  obtain ⟨y⟩ := b
  show (x ++ y).toList = _
  simp [cd]
theorem join_cd (a : Str) (ys : List Str) : cd (Txt.join a ys) = TL.joinL (cd a) (ys.map cd) := by
  have z : TL.tl (Txt.join a ys) = TL.joinL (TL.tl a) (ys.map TL.tl) := by
    rw [TL.join_eq, TL.tl_join]
  exact z
def dg (b : Int) : Nat := if b = 0 then 48 else 49
theorem dg_two (b : Int) : dg b = 48 ∨ dg b = 49 := by
  unfold dg
  split
  · exact .inl rfl
  · exact .inr rfl
theorem dg_inj {b b' : Int} (h : b = 0 ∨ b = 1) (h' : b' = 0 ∨ b' = 1) (e : dg b = dg b') : b = b' := by
  rcases h with rfl | rfl <;> rcases h' with rfl | rfl <;> first | rfl | cases e
def dgc (bs : List Int) : List Nat := if bs = [] then [46] else bs.map dg
theorem joinL_ones : ∀ cs : List Nat, TL.joinL [] (cs.map fun c => [c]) = cs
  | [] => rfl
  | [c] => rfl
  | c :: d :: r => by
    show [c] ++ ([] ++ TL.joinL [] ((d :: r).map fun c => [c])) = c :: d :: r
    rw [joinL_ones (d :: r)]
    rfl
theorem digS_cd {bs : List Int} (h : ∀ b ∈ bs, b = 0 ∨ b = 1) : cd (digS bs) = dgc bs := by
  have j : cd (Txt.join ("" : Str) (bs.map istr)) = bs.map dg := by
    rw [join_cd, List.map_map]
    have e : cd ("" : Str) = [] := by decide +kernel
    rw [e]
    have e2 : bs.map (cd ∘ istr) = (bs.map dg).map fun c => [c] := by
      rw [List.map_map]
      refine List.map_congr_left fun b hb => ?_
      rcases h b hb with rfl | rfl <;> decide +kernel
    rw [e2, joinL_ones]
  have l : (Txt.join ("" : Str) (bs.map istr)).length = bs.length := by
    have z : (Txt.join ("" : Str) (bs.map istr)).length = (cd (Txt.join ("" : Str) (bs.map istr))).length := len_codes _
    rw [z, j, List.length_map]
  unfold digS dgc
  cases bs with
  | nil => decide +kernel
  | cons b r =>
    rw [if_neg (by rw [l]; simp), if_neg (by simp)]
    exact j
/-- what may stand behind a node -/
def term (x : List Nat) : Prop := ∀ c r, x = c :: r → c = 44 ∨ c = 41
theorem dgc_head (bs : List Int) : ∃ c r, dgc bs = c :: r ∧ (c = 46 ∨ c = 48 ∨ c = 49) := by
  unfold dgc
  cases bs with
  | nil => exact ⟨46, [], rfl, .inl rfl⟩
  | cons b r =>
    exact ⟨dg b, r.map dg, rfl, .inr (dg_two b)⟩
/-- runs of digits are told from what is behind them -/
theorem runs : ∀ {bs bs' : List Int} {x y : List Nat}, (∀ b ∈ bs, b = 0 ∨ b = 1) → (∀ b ∈ bs', b = 0 ∨ b = 1) → (∀ c r, x = c :: r → c ≠ 48 ∧ c ≠ 49) → (∀ c r, y = c :: r → c ≠ 48 ∧ c ≠ 49) →
    bs.map dg ++ x = bs'.map dg ++ y → bs = bs' ∧ x = y
  | [], [], _, _, _, _, _, _, h => ⟨rfl, h⟩
  | [], b :: r, x, y, _, _, hx, _, h => by
    have z := hx (dg b) _ h
    rcases dg_two b with e | e
    · exact absurd e z.1
    · exact absurd e z.2
  | b :: r, [], x, y, _, _, _, hy, h => by
    have z := hy (dg b) _ h.symm
    rcases dg_two b with e | e
    · exact absurd e z.1
    · exact absurd e z.2
  | b :: r, b' :: r', x, y, h1, h2, hx, hy, h => by
    rw [List.map_cons, List.map_cons, List.cons_append, List.cons_append] at h
    injection h with e1 e2
    obtain ⟨k1, k2⟩ := runs (fun c hc => h1 c (List.mem_cons_of_mem _ hc)) (fun c hc => h2 c (List.mem_cons_of_mem _ hc)) hx hy e2
    refine ⟨?_, k2⟩
    rw [dg_inj (h1 b List.mem_cons_self) (h2 b' List.mem_cons_self) e1, k1]
theorem dgc_app {bs bs' : List Int} {x y : List Nat} (h1 : ∀ b ∈ bs, b = 0 ∨ b = 1) (h2 : ∀ b ∈ bs', b = 0 ∨ b = 1) (hx : ∀ c r, x = c :: r → c ≠ 48 ∧ c ≠ 49) (hy : ∀ c r, y = c :: r → c ≠ 48 ∧ c ≠ 49) (h : dgc bs ++ x = dgc bs' ++ y) : bs = bs' ∧ x = y := by
  unfold dgc at h
  by_cases e : bs = []
  · rw [if_pos e] at h
    by_cases e' : bs' = []
    · rw [if_pos e'] at h
      injection h with _ h
      exact ⟨by rw [e, e'], h⟩
    · rw [if_neg e'] at h
      cases bs' with
      | nil => exact absurd rfl e'
      | cons b r =>
        rw [List.map_cons] at h
        injection h with h _
        rcases dg_two b with e2 | e2 <;> (rw [e2] at h; cases h)
  · rw [if_neg e] at h
    by_cases e' : bs' = []
    · rw [if_pos e'] at h
      cases bs with
      | nil => exact absurd rfl e
      | cons b r =>
        rw [List.map_cons] at h
        injection h with h _
        rcases dg_two b with e2 | e2 <;> (rw [e2] at h; cases h)
    · rw [if_neg e'] at h
      exact runs h1 h2 hx hy h
def rest (ks : List PyData) (x : List Nat) : List Nat := if ks = [] then x else 40 :: (TL.joinL [44] ((spellL ks).map cd) ++ (41 :: x))
theorem spell_cd {B C : Nat} {bs : List Int} {ks : List PyData} (h : Bd B C (nd bs ks)) (x : List Nat) : cd (spell (nd bs ks)) ++ x = dgc bs ++ rest ks x := by
  obtain ⟨_, h01, _, _⟩ := h.nd'
  rw [spell_nd]
  unfold rest
  by_cases e : ks = []
  · rw [if_pos e, if_pos e, digS_cd h01]
  · rw [if_neg e, if_neg e, app_cd, app_cd, app_cd, digS_cd h01, join_cd]
    have c1 : cd ("(" : Str) = [40] := by decide +kernel
    have c2 : cd (")" : Str) = [41] := by decide +kernel
    have c3 : cd ("," : Str) = [44] := by decide +kernel
    rw [c1, c2, c3]
    simp only [List.append_assoc, List.cons_append, List.nil_append]
theorem rest_head {ks : List PyData} {x : List Nat} (hx : term x) : ∀ c r, rest ks x = c :: r → c ≠ 48 ∧ c ≠ 49 := by
  intro c r h
  unfold rest at h
  by_cases e : ks = []
  · rw [if_pos e] at h
    rcases hx c r h with rfl | rfl <;> exact ⟨by decide, by decide⟩
  · rw [if_neg e] at h
    injection h with h _
    subst h
    exact ⟨by decide, by decide⟩
theorem joinL_cons (k : List Nat) (r : List (List Nat)) : TL.joinL [44] (k :: r) = k ++ (if r = [] then [] else 44 :: TL.joinL [44] r) := by
  cases r with
  | nil => simp [TL.joinL]
  | cons a r => rfl
theorem none_cd : cd (spell .none) = [45] := by
  rw [spell_non]
  decide +kernel
mutual
theorem spell_pre {B C B' C' : Nat} : ∀ {d d' : PyData} {x y : List Nat}, Bd B C d → (d' = .none ∨ Bd B' C' d') → term x → term y → cd (spell d) ++ x = cd (spell d') ++ y → d = d' ∧ x = y
  | _, d', x, y, .mk (bs := bs) (ks := ks) e h1 h2 h3 h4, hd', hx, hy, h => by
    subst e
    have hb : Bd B C (nd bs ks) := .mk rfl h1 h2 h3 h4
    rw [spell_cd hb] at h
    rcases hd' with rfl | hb'
    · rw [none_cd] at h
      obtain ⟨c, r, e, hc⟩ := dgc_head bs
      rw [e] at h
      injection h with h _
      subst h
      rcases hc with z | z | z <;> cases z
    · obtain ⟨bs', ks', rfl, l1, l2, l3, l4⟩ := id hb'.un
      rw [spell_cd hb'] at h
      obtain ⟨eb, hq⟩ := dgc_app h2 l2 (rest_head hx) (rest_head hy) h
      subst eb
      replace h := hq
      clear hq
      unfold rest at h
      by_cases e : ks = []
      · rw [if_pos e] at h
        by_cases e' : ks' = []
        · rw [if_pos e'] at h
          exact ⟨by rw [e, e'], h⟩
        · rw [if_neg e'] at h
          rcases hx _ _ h with z | z <;> cases z
      · rw [if_neg e] at h
        by_cases e' : ks' = []
        · rw [if_pos e'] at h
          rcases hy _ _ h.symm with z | z <;> cases z
        · rw [if_neg e'] at h
          injection h with _ h
          obtain ⟨eq, hq⟩ := spellL_pre h4 l4 e e' h
          exact ⟨by rw [eq], hq⟩
theorem spellL_pre {B C B' C' : Nat} : ∀ {ks ks' : List PyData} {x y : List Nat}, BdL B C ks → BdL B' C' ks' → ks ≠ [] → ks' ≠ [] → TL.joinL [44] ((spellL ks).map cd) ++ (41 :: x) = TL.joinL [44] ((spellL ks').map cd) ++ (41 :: y) → ks = ks' ∧ x = y
  | _, _, _, _, .nil, _, n, _, _ => absurd rfl n
  | _, [], _, _, _, _, _, n, _ => absurd rfl n
  | _, k' :: r', x, y, .non (ks := r) hr, hk', _, _, h => by
    have hk2 := hk'.at k' List.mem_cons_self
    have hr' : BdL B' C' r' := BdL.of fun z hz => hk'.at z (List.mem_cons_of_mem _ hz)
    simp only [spellL, List.map_cons, joinL_cons, List.append_assoc] at h
    have key : k' = .none ∧ (if (spellL r).map cd = [] then [] else 44 :: TL.joinL [44] ((spellL r).map cd)) ++ (41 :: x) = (if (spellL r').map cd = [] then [] else 44 :: TL.joinL [44] ((spellL r').map cd)) ++ (41 :: y) := by
      rcases hk2 with rfl | hb'
      · exact ⟨rfl, List.append_cancel_left h⟩
      · obtain ⟨bs', ks', rfl, l1, l2, l3, l4⟩ := id hb'.un
        rw [spell_cd hb', none_cd] at h
        obtain ⟨c, q, e, hc⟩ := dgc_head bs'
        rw [e] at h
        injection h with h _
        subst h
        rcases hc with z | z | z <;> cases z
    obtain ⟨ek, hq⟩ := key
    subst ek
    replace h := hq
    clear hq
    by_cases e : r = []
    · subst e
      by_cases e' : r' = []
      · subst e'
        simp [spellL] at h
        exact ⟨rfl, h⟩
      · have n' : (spellL r').map cd ≠ [] := by
          cases r' with
          | nil => exact absurd rfl e'
          | cons a b => simp [spellL]
        rw [if_neg n'] at h
        simp [spellL] at h
    · have n : (spellL r).map cd ≠ [] := by
        cases r with
        | nil => exact absurd rfl e
        | cons a b => simp [spellL]
      rw [if_neg n] at h
      by_cases e' : r' = []
      · subst e'
        simp [spellL] at h
      · have n' : (spellL r').map cd ≠ [] := by
          cases r' with
          | nil => exact absurd rfl e'
          | cons a b => simp [spellL]
        rw [if_neg n'] at h
        injection h with _ h
        obtain ⟨eq, hq⟩ := spellL_pre hr hr' e e' h
        exact ⟨by rw [eq], hq⟩
  | _, k' :: r', x, y, .one (k := k) (ks := r) hk hr, hk', _, _, h => by
    have hk2 := hk'.at k' List.mem_cons_self
    have hr' : BdL B' C' r' := BdL.of fun z hz => hk'.at z (List.mem_cons_of_mem _ hz)
    simp only [spellL, List.map_cons, joinL_cons, List.append_assoc] at h
    have tm : ∀ (r : List PyData) (x : List Nat), term ((if (spellL r).map cd = [] then [] else 44 :: TL.joinL [44] ((spellL r).map cd)) ++ (41 :: x)) := fun r x c q e => by
      split at e
      · injection e with e _
        exact .inr e.symm
      · injection e with e _
        exact .inl e.symm
    obtain ⟨eb, hq⟩ := spell_pre hk hk2 (tm r x) (tm r' y) h
    subst eb
    replace h := hq
    clear hq
    by_cases e : r = []
    · subst e
      by_cases e' : r' = []
      · subst e'
        simp [spellL] at h
        exact ⟨rfl, h⟩
      · have n' : (spellL r').map cd ≠ [] := by
          cases r' with
          | nil => exact absurd rfl e'
          | cons a b => simp [spellL]
        rw [if_neg n'] at h
        simp [spellL] at h
    · have n : (spellL r).map cd ≠ [] := by
        cases r with
        | nil => exact absurd rfl e
        | cons a b => simp [spellL]
      rw [if_neg n] at h
      by_cases e' : r' = []
      · subst e'
        simp [spellL] at h
      · have n' : (spellL r').map cd ≠ [] := by
          cases r' with
          | nil => exact absurd rfl e'
          | cons a b => simp [spellL]
        rw [if_neg n'] at h
        injection h with _ h
        obtain ⟨eq, hq⟩ := spellL_pre hr hr' e e' h
        exact ⟨by rw [eq], hq⟩
end
theorem spell_inj {B C B' C' : Nat} {d d' : PyData} (h : Bd B C d) (h' : Bd B' C' d') (e : spell d = spell d') : d = d' := by
  refine (spell_pre (x := []) (y := []) h (.inr h') (fun c r z => nomatch z) (fun c r z => nomatch z) ?_).1
  rw [e]
theorem eqv_nums : ∀ {bs bs' : List Int}, PyData.eqvAll (bs.map PyData.int) (bs'.map PyData.int) = true → bs = bs'
  | [], [], _ => rfl
  | [], _ :: _, h => by cases h
  | _ :: _, [], h => by cases h
  | b :: r, b' :: r', h => by
    rw [List.map_cons, List.map_cons] at h
    have h2 : ((b == b') && PyData.eqvAll (r.map PyData.int) (r'.map PyData.int)) = true := h
    rw [Bool.and_eq_true] at h2
    rw [beq_iff_eq.mp h2.1, eqv_nums h2.2]
mutual
theorem eqv_bd {B C B' C' : Nat} : ∀ {d d' : PyData}, Bd B C d → (d' = .none ∨ Bd B' C' d') → PyData.eqv d d' = true → d = d'
  | _, d', .mk (bs := bs) (ks := ks) e h1 h2 h3 h4, hd', h => by
    subst e
    rcases hd' with rfl | hb'
    · cases h
    · obtain ⟨bs', ks', rfl, l1, l2, l3, l4⟩ := id hb'.un
      have h5 : (PyData.eqvAll (bs.map PyData.int) (bs'.map PyData.int) && (PyData.eqvAll ks ks' && true)) = true := h
      rw [Bool.and_eq_true, Bool.and_true] at h5
      rw [eqv_nums h5.1, eqv_bdL h4 l4 h5.2]
theorem eqv_bdL {B C B' C' : Nat} : ∀ {ks ks' : List PyData}, BdL B C ks → BdL B' C' ks' → PyData.eqvAll ks ks' = true → ks = ks'
  | _, [], .nil, _, _ => rfl
  | _, _ :: _, .nil, _, h => by cases h
  | _, [], .non _, _, h => by cases h
  | _, [], .one _ _, _, h => by cases h
  | _, k' :: r', .non (ks := r) hr, hk', h => by
    have hr' : BdL B' C' r' := BdL.of fun z hz => hk'.at z (List.mem_cons_of_mem _ hz)
    have h2 : (PyData.eqv .none k' && PyData.eqvAll r r') = true := h
    rw [Bool.and_eq_true] at h2
    have e : k' = .none := by
      rcases hk'.at k' List.mem_cons_self with e | hb
      · exact e
      · obtain ⟨bs', ks', rfl, _⟩ := hb.un
        have := h2.1
        cases this
    rw [e, eqv_bdL hr hr' h2.2]
  | _, k' :: r', .one (k := k) (ks := r) hk hr, hk', h => by
    have hr' : BdL B' C' r' := BdL.of fun z hz => hk'.at z (List.mem_cons_of_mem _ hz)
    have h2 : (PyData.eqv k k' && PyData.eqvAll r r') = true := h
    rw [Bool.and_eq_true] at h2
    rw [eqv_bd hk (hk'.at k' List.mem_cons_self) h2.1, eqv_bdL hr hr' h2.2]
end
/-- == of trees and == of their spellings -/
theorem eq_both {B C B' C' : Nat} {d d' : PyData} (h : Bd B C d) (h' : Bd B' C' d') (hl : deep d ≤ 31) : PyData.eqv d d' = decide (V.str (spell d') = V.str (spell d)) := by
  by_cases e : d = d'
  · subst e
    rw [decide_eq_true rfl]
    exact eqv_same (shp_bd h hl)
  · rw [decide_eq_false fun z => e (spell_inj h h' (by injection z with z; exact z.symm))]
    cases q : PyData.eqv d d' with
    | false => rfl
    | true => exact absurd (eqv_bd h (.inr h') q) e
theorem keepN_rep {α : Type} {p : α → Bool} {x : α} (hx : p x = true) (l : List α) : ∀ n : Nat, keepN p (l ++ List.replicate n x) = keepN p l
  | 0 => by simp
  | n + 1 => by
    rw [List.replicate_succ', ← List.append_assoc, keepN_app, if_pos hx]
    exact keepN_rep hx l n
theorem short_rep {α : Type} {p : α → Bool} {x : α} (hx : p x = true) (l : List α) (n : Nat) : short p (l ++ List.replicate n x) = short p l := by
  unfold short
  rw [keepN_rep hx, List.take_append_of_le_length (keepN_le p l)]
/-! ### data made on the way -/
def rCat2 (K : PySem.W.Frag) : R2 := fun x y H Q => (∃ a b ys, x = .ref a ∧ y = .ref b ∧ SqT K H a [] ∧ SqT K H b ys ∧ Q (.ref b) H) ∨ rCatT K x y H Q
theorem op_cat2 {X : Cx} : OpR X (binaryOp .Add) (rCat2 X.K) := op_or op_catT0 op_catT
def EvD (K : PySem.W.Frag) (te : TE) (σ : L2.St) (H : Hp) (d : PyData) : Prop := ∀ H1, Ex H H1 → ∀ Q : VK, (∀ v H2, Ex H1 H2 → Dp K H2 v d → Q v H2) → te σ H1 Q
def EvDs (K : PySem.W.Frag) (ta : TA) (σ : L2.St) (H : Hp) (ds : List PyData) : Prop := ∀ H1, Ex H H1 → ∀ Q : List V → Hp → Prop, (∀ vs H2, Ex H1 H2 → DpAll K H2 vs ds → Q vs H2) → ta σ H1 Q
section
variable {K : PySem.W.Frag} {σ : L2.St} {H : Hp} {te ta tb ti : TE} {d : PyData} {ds xs ys : List PyData}
theorem ed_of {v : V} (h : Ev te σ H v) (hd : Dp K H v d) : EvD K te σ H d := fun H1 e Q q => h H1 e Q fun H2 e2 => q v H2 e2 (dpM (e.trans e2) _ _ hd)
theorem ed_var {i : Nat} {v : V} (h : σ[i]? = some (some v)) (hd : Dp K H v d) : EvD K (tVar i) σ H d := ed_of (ev_var h) hd
theorem ed_non : EvD K (tC .non) σ H .none := ed_of ev_c .non
theorem ed_int {i : Int} : EvD K (tC (.int i)) σ H (.int i) := ed_of ev_c (.int i)
theorem ed_str {z : Str} : EvD K (tC (.str z)) σ H (.str z) := ed_of ev_c (.str z)
theorem eds_nil : EvDs K tNil σ H [] := fun H1 e Q q => q [] H1 (Ex.refl _) .nil
theorem eds_cons {tr : TA} (h : EvD K te σ H d) (hr : EvDs K tr σ H ds) : EvDs K (tCons te tr) σ H (d :: ds) := fun H1 e Q q =>
  h H1 e _ fun v H2 e2 dv => hr H2 (e.trans e2) _ fun vs H3 e3 dvs => q (v :: vs) H3 (e2.trans e3) (.cons (dpM e3 _ _ dv) dvs)
theorem ed_tup {tt : TA} (h : EvDs K tt σ H ds) (hl : ds.length ≤ 1000) : EvD K (tTup tt) σ H (.tuple ds) := fun H1 e Q q =>
  h H1 e _ fun vs H2 e2 dvs => ⟨fits (by rw [dpAll_len dvs]; exact hl), fun p hp => q (.ref p) _ (e2.trans (Ex.new hp)) (.tup (st_of upd_same) (dpMs (Ex.new hp) _ _ dvs))⟩
theorem ed_cat (h1 : EvD K ta σ H (.tuple xs)) (h2 : EvD K tb σ H (.tuple ys)) (hl : xs.length + ys.length ≤ 1000) : EvD K (tOp (rCat2 K) ta tb) σ H (.tuple (xs ++ ys)) := fun H1 e Q q =>
  h1 H1 e _ fun v H2 e2 dv => h2 H2 (e.trans e2) _ fun u H3 e3 du => by
    cases dv with
    | @tup a vs _ ha hvs =>
      cases du with
      | @tup b us _ hb hus =>
        have lv := dpAll_len hvs
        have lu := dpAll_len hus
        have ha3 := ex_t e3 ha
        have hvs3 := dpMs e3 _ _ hvs
        cases vs with
        | nil =>
          cases xs with
          | nil => exact .inl ⟨a, b, us, rfl, rfl, ha3, hb, q (.ref b) H3 (e2.trans e3) (.tup hb hus)⟩
          | cons x r => cases lv
        | cons v r =>
          refine .inr ⟨a, b, v :: r, us, rfl, rfl, ha3, hb, (fun z => nomatch z), fits (by omega), (fun z => ?_), fun _ p hp => q (.ref p) _ ((e2.trans e3).trans (Ex.new hp)) (.tup (st_of upd_same) (dpMs (Ex.new hp) _ _ (dpAll_app hvs3 hus)))⟩
          subst z
          have e0 : ys = [] := by
            cases ys with
            | nil => rfl
            | cons y s => cases lu
          refine q (.ref a) H3 (e2.trans e3) ?_
          rw [e0, List.append_nil]
          exact .tup ha3 hvs3
theorem ed_take {i : Nat} (h1 : EvD K ta σ H (.tuple xs)) (h2 : Ev ti σ H (.int (i : Nat))) : EvD K (tSl (rSlA K) ta tNoPart (tPart ti)) σ H (.tuple (xs.take i)) := fun H1 e Q q =>
  h1 H1 e _ fun v H2 e2 dv => h2 H2 (e.trans e2) _ fun H3 e3 => ⟨(i : Nat), rfl, by
    cases dv with
    | @tup a vs _ ha hvs =>
      have lv := dpAll_len hvs
      have ha3 := ex_t e3 ha
      have hvs3 := dpMs e3 _ _ hvs
      refine ⟨a, vs, rfl, ha3, fun hw => ?_, fun hw r hr => ?_⟩
      · have w2 := hw.2
        rw [HT.sIx_nat] at w2
        refine q (.ref a) H3 (e2.trans e3) ?_
        rw [take_all (show xs.length ≤ i by omega)]
        exact .tup ha3 hvs3
      · refine q (.ref r) _ ((e2.trans e3).trans (Ex.new hr)) ?_
        refine .tup (st_of (by rw [upd_same, cut_take])) (dps_take _ (dpMs (Ex.new hr) _ _ hvs3))⟩
theorem dps_drop {K : PySem.W.Frag} {H : Hp} : ∀ {vs : List V} {ds : List PyData} (n : Nat), DpAll K H vs ds → DpAll K H (vs.drop n) (ds.drop n)
  | _, _, 0, h => h
  | _, _, n + 1, .nil => .nil
  | _, _, n + 1, .cons h r => dps_drop n r
theorem ed_drop {i : Nat} (h1 : EvD K ta σ H (.tuple xs)) (h2 : Ev ti σ H (.int (i : Nat))) : EvD K (tSl (rSlA K) ta (tPart ti) tNoPart) σ H (.tuple (xs.drop i)) := fun H1 e Q q =>
  h1 H1 e _ fun v H2 e2 dv => h2 H2 (e.trans e2) _ fun H3 e3 => ⟨(i : Nat), rfl, by
    cases dv with
    | @tup a vs _ ha hvs =>
      have lv := dpAll_len hvs
      have ha3 := ex_t e3 ha
      have hvs3 := dpMs e3 _ _ hvs
      refine ⟨a, vs, rfl, ha3, fun hw => ?_, fun hw r hr => ?_⟩
      · have w1 := hw.1
        rw [HT.sIx_nat] at w1
        refine q (.ref a) H3 (e2.trans e3) ?_
        have e0 : xs.drop i = xs := by
          rcases Nat.eq_zero_or_pos i with z | z
          · rw [z]
            rfl
          · have : xs.length = 0 := by omega
            rw [List.length_eq_zero_iff.mp this]
            simp
        rw [e0]
        exact .tup ha3 hvs3
      · refine q (.ref r) _ ((e2.trans e3).trans (Ex.new hr)) ?_
        refine .tup (st_of (by rw [upd_same, cut_drop])) (dps_drop _ (dpMs (Ex.new hr) _ _ hvs3))⟩
theorem ed_ix {i : Nat} (h1 : EvD K ta σ H (.tuple xs)) (h2 : Ev ti σ H (.int (i : Nat))) (hi : xs[i]? = some d) : EvD K (tOp (rIxT K) ta ti) σ H d := fun H1 e Q q =>
  h1 H1 e _ fun v H2 e2 dv => h2 H2 (e.trans e2) _ fun H3 e3 => by
    cases dv with
    | @tup a vs _ ha hvs =>
      have lv := dpAll_len hvs
      have h0 := (List.getElem?_eq_some_iff.mp hi).1
      have hx : vs[i]? = some (vs[i]'(by omega)) := List.getElem?_eq_getElem _
      obtain ⟨d', h3, h4⟩ := dpAll_at hvs hx
      rw [hi] at h3
      cases h3
      exact ⟨a, vs, (i : Nat), _, rfl, rfl, ex_t e3 ha, atI_nat hx, q _ H3 (e2.trans e3) (dpM e3 _ _ h4)⟩
theorem EvD.mono {H' : Hp} (e : Ex H H') (h : EvD K te σ H d) : EvD K te σ H' d := fun H1 a Q q => h H1 (e.trans a) Q q
theorem s_retD {D : Ends} (h : EvD K te σ H d) (k : ∀ v H1, Ex H H1 → Dp K H1 v d → D.rt v H1) : tRet te D σ H := h H (Ex.refl H) D.rt k
theorem q_asgED {D : Ends} {tz : TS} {i : Nat} (h : EvD K te σ H d) (k : ∀ v H1, Ex H H1 → Dp K H1 v d → tz D (σ.set i (some v)) H1) : tSeq (tAsg te (gName i)) tz D σ H := h H (Ex.refl H) _ k
/-- == and != of data -/
theorem ev_neD {e : PyData} (h1 : EvD K ta σ H d) (h2 : EvD K tb σ H e) (sd : SeqAt.shaped d = true) (se : SeqAt.shaped e = true) : Ev (tOp (rNeD K) ta tb) σ H (.bl (!PyData.eqv d e)) := fun H1 a Q q =>
  h1 H1 a _ fun v H2 e2 dv => h2 H2 (a.trans e2) _ fun u H3 e3 du => ⟨d, e, dpM e3 _ _ dv, du, sd, se, q H3 (e2.trans e3)⟩
theorem ev_eqD {e : PyData} (h1 : EvD K ta σ H d) (h2 : EvD K tb σ H e) (sd : SeqAt.shaped d = true) (se : SeqAt.shaped e = true) : Ev (tOp (rEqD K) ta tb) σ H (.bl (PyData.eqv d e)) := fun H1 a Q q =>
  h1 H1 a _ fun v H2 e2 dv => h2 H2 (a.trans e2) _ fun u H3 e3 du => ⟨d, e, dpM e3 _ _ dv, du, sd, se, q H3 (e2.trans e3)⟩
theorem ed_call {sp : Sp} {ta : TA} {vs : List V} (h : EvA ta σ H vs) (hs : ∀ H1, Ex H H1 → ∀ Q : VK, (∀ v H2, Ex H1 H2 → Dp K H2 v d → Q v H2) → sp (vs ++ []) H1 Q E0) : EvD K (tCall sp [] E0 ta) σ H d := fun H1 e Q q =>
  h H1 e _ fun H2 e2 => hs H2 (e.trans e2) Q fun v H3 e3 dv => q v H3 (e2.trans e3) dv
theorem ed_if {t : TT} {b : Bool} (h : EvT t σ H b) (h1 : b = true → EvD K ta σ H d) (h2 : b = false → EvD K tb σ H d) : EvD K (tIf t ta tb) σ H d := fun H1 e Q q => h H1 e _ fun H2 e2 => by
  cases b with
  | true =>
    show ta σ H2 Q
    exact h1 rfl H2 (e.trans e2) Q fun v H3 e3 dv => q v H3 (e2.trans e3) dv
  | false =>
    show tb σ H2 Q
    exact h2 rfl H2 (e.trans e2) Q fun v H3 e3 dv => q v H3 (e2.trans e3) dv
end
end PZ

set_option Elab.async false
set_option linter.all false
set_option maxRecDepth 100000
set_option maxHeartbeats 8000000
namespace XO
open PySem PySem.Spec PyProof.Rows L2 He XH XV XR PEN TR XQ PZ Evl
/-! order of data, tuples backwards, calls of methods -/
def rLtD (K : PySem.W.Frag) : R2 := fun x y H Q => ∃ d e, Dp K H x d ∧ Dp K H y e ∧ PySem.W.alike d e = true ∧ d ≠ .none ∧ d.depth ≤ 60 ∧ Q (.bl (PySem.W.dataLt d e)) H
theorem op_ltD {X : Cx} (hu : X.A.units + 64 < cLine) : OpR X (compareOp .Lt) (rLtD X.K) := by
  intro pins s σ H x y v u Q I rx ry h
  obtain ⟨d, e, hd, he, al, nn, dp, q⟩ := h
  obtain ⟨as, r1⟩ := Dp.reads I d x v hd rx
  obtain ⟨bs, r2⟩ := Dp.reads I e y u he ry
  exact PySem.W.lt_data r1 r2 al nn (by omega) ⟨.bl _, H, I, rfl, q⟩
theorem ev_ltD {K : PySem.W.Frag} {σ : L2.St} {H : Hp} {ta tb : TE} {d e : PyData} (h1 : EvD K ta σ H d) (h2 : EvD K tb σ H e) (al : PySem.W.alike d e = true) (nn : d ≠ .none) (dp : d.depth ≤ 60) : Ev (tOp (rLtD K) ta tb) σ H (.bl (PySem.W.dataLt d e)) := fun H1 a Q q =>
  h1 H1 a _ fun v H2 e2 dv => h2 H2 (a.trans e2) _ fun u H3 e3 du => ⟨d, e, dpM e3 _ _ dv, du, al, nn, dp, q H3 (e2.trans e3)⟩

theorem places_rev (n : Nat) : Builtin.Slice.slicePlaces ((n : Int) - 1) (-1) (-1) = n := by
  unfold Builtin.Slice.slicePlaces
  have h1 : ¬ ((-1 : Int) > 0) := by decide
  simp only [h1, if_false]
  by_cases h : (n : Int) - 1 > -1
  · rw [if_pos h]
    rw [show (- -1 : Int) = 1 by decide, Int.ediv_one]
    omega
  · rw [if_neg h]
    omega
theorem pick_rev (xs : Array Value) : ((List.range xs.size).filterMap fun (m : Nat) => xs[(((xs.size : Int) - 1) + (m : Int) * (-1)).toNat]?).toArray = xs.toList.reverse.toArray := by
  have e : ((List.range xs.size).filterMap fun (m : Nat) => xs[(((xs.size : Int) - 1) + (m : Int) * (-1)).toNat]?) = ((List.range xs.size).map fun k => xs.size - 1 - k).filterMap (xs[·]?) := by
    rw [List.filterMap_map]
    refine congrArg (fun f => List.filterMap f (List.range xs.size)) (funext fun m => ?_)
    show xs[(((xs.size : Int) - 1) + (m : Int) * (-1)).toNat]? = xs[xs.size - 1 - m]?
    rw [show (((xs.size : Int) - 1) + (m : Int) * (-1)).toNat = xs.size - 1 - m by omega]
  rw [e, PySem.W.krv_range, List.filterMap_reverse, PySem.W.krv_all]
section
variable {prog : Program} {w : World} {A : Around} {E : Value → Shared → Prop} {s : Shared}
theorem sliceApplied_rev {sl : Addr} {vl vu vs : Value} {n : Nat} {Q : Int × Int × Nat → Shared → Prop} (hs : s.heap.IsSliceOf sl vl vu vs) (pl : IsPart vl none) (pu : IsPart vu none) (ps : IsPart vs (some (-1)))
    (h : Q ((n : Int) - 1, -1, n) s) : wpAny (model prog w) A (Builtin.Slice.sliceApplied (.ref sl) (pure (n : Int))) Q E s := by
  obtain ⟨os, hos, hcs, hds⟩ := id hs
  unfold Builtin.Slice.sliceApplied Builtin.Slice.sliceFields
  refine wpAny_bind (wpAny_bind (wpAny_field hos hds (x := vl) rfl (wpAny_bind (wpAny_field hos hds (x := vu) rfl (wpAny_bind (wpAny_field hos hds (x := vs) rfl (wpAny_pure ?_)))))))
  refine wpAny_bind (HT.slicePart_ ps ?_)
  show wpAny _ _ (if ((-1 : Int) == 0) = true then _ else _) _ _ s
  rw [if_neg (by decide)]
  refine wpAny_bind (HT.slicePart_ pl (wpAny_bind (HT.slicePart_ pu (wpAny_bind (wpAny_pure ?_)))))
  show wpAny _ _ (pure ((n : Int) - 1, (-1 : Int), Builtin.Slice.slicePlaces ((n : Int) - 1) (-1) (-1))) _ _ s
  rw [places_rev]
  exact wpAny_pure h
theorem getItem_tuple_rev {t sl : Addr} {items : Array Value} {vl vu vs : Value} {Q : Value → Shared → Prop} (ht : IsTup s.heap t items) (hs : s.heap.IsSliceOf sl vl vu vs) (pl : IsPart vl none) (pu : IsPart vu none) (ps : IsPart vs (some (-1)))
    (h : Q (.ref s.heap.objs.size) { s with heap := s.heap.push { cls := .type "tuple", data := .seq items.toList.reverse.toArray } })
    (hsz : items.size ≤ sizeLine) : wpAny (model prog w) A (getItem (.ref t) (.ref sl)) Q E s := by
  have htake : sizeOk (.seq items.toList.reverse.toArray) := by
    show items.toList.reverse.toArray.size ≤ sizeLine
    rw [List.size_toArray, List.length_reverse, Array.length_toList]
    exact hsz
  obtain ⟨os, hos, hcs, hds⟩ := id hs
  have hTs : s.TypeIs (.ref sl) "slice" := ⟨os, hos, hcs⟩
  unfold getItem
  try with_reducible refine wpAny_holding ?_
  first | refine wpAny_bind (wpAny_pure ?_) | skip
  refine wpAny_bind (wpAny_sequenceKey ht.typeIs (by decide) ?_)
  refine wpAny_bind (wpAny_callSpecial?_slot (name := Str.ofString "__getitem__") ht.typeIs PyProof.Rows.slot_tuple_getitem
    (wpAny_call_entry PyProof.Rows.slot_tuple_getitem ht.typeIs entry_tuple_getitem ?_ (args_tuple_getitem _ _)))
  show wpAny _ _ (Builtin.Tuple.tupleItemsOf (.ref t) >>= _) _ _ s
  refine wpAny_bind (tupleItemsOf_ ht ?_)
  refine wpAny_bind (wpAny_typeOf hTs ?_)
  rw [if_pos (by decide)]
  refine wpAny_bind (sliceApplied_rev hs pl pu ps ?_)
  have hno : ¬ ((((items.size : Int) - 1) == 0 && (-1 : Int) == 1 && items.size == items.size) = true) := by
    rw [show ((-1 : Int) == 1) = false from rfl, Bool.and_false, Bool.false_and]
    exact Bool.false_ne_true
  show wpAny _ _ (if (((items.size : Int) - 1) == 0 && (-1 : Int) == 1 && items.size == items.size) = true then _ else _) _ _ s
  rw [if_neg hno, pick_rev]
  first
    | exact wpAny_bind (m := Builtin.Tuple.tupleExact _) (wpAny_newObj_type (wpAny_pure ⟨_, rfl, wpAny_pure h⟩) htake)
    | exact wpAny_bind (m := Builtin.Tuple.tupleExact _) (wpAny_newObj_type (wpAny_bind (wpAny_pure (wpAny_pure ⟨_, rfl, wpAny_pure h⟩))) htake)
    | exact wpAny_bind (wpAny_bind (m := Builtin.Tuple.tupleExact _) (wpAny_newObj_type (wpAny_pure (wpAny_pure ⟨_, rfl, wpAny_pure h⟩)) htake))
    | exact wpAny_bind (wpAny_bind (m := Builtin.Tuple.tupleExact _) (wpAny_newObj_type (wpAny_pure ⟨_, rfl, wpAny_pure h⟩) htake))
end
def tRevT (K : PySem.W.Frag) (te : TE) : TE := fun σ H Q => te σ H fun x H1 => ∃ a xs, x = .ref a ∧ SqT K H1 a xs ∧ ∀ p, H1 p = none → Q (.ref p) (upd H1 p (.tup xs.reverse))
theorem pe_revT {X : Cx} {e : Expr} {te : TE} {k : Nat} {p1 p2 p3 pos : Pos} (he : PE X e te) : PE X (.Subscript e (.Slice none none (some (.UnaryOp .USub (.Constant (.int 1) k p1) p2)) p3) pos) (tRevT X.K te) := by
  refine ⟨fun pins s σ H Q I h => ?_⟩
  refine Subscript_ (thn (he.run pins s σ H _ I h) fun v s1 ⟨x, H1, I1, r1, q1⟩ => ?_)
  obtain ⟨a, xs, ex, hx, q⟩ := q1
  subst ex
  cases r1
  have hst : PO X (some (.UnaryOp .USub (.Constant (.int 1) k p1) p2)) (tPart (tUn (rU fun i => .int (-i)) (tC (.int 1)))) := po_some (pe_un un_neg pe_int)
  refine wpAny_Slice (thn (po_none.run pins s1 σ H1 (fun o H2 => o = none ∧ H2 = H1) I1 ⟨rfl, rfl⟩) fun vl s2 ⟨l, H2, I2, pl, el, e2⟩ => ?_)
  subst el e2
  refine thn (po_none.run pins s2 σ H2 (fun o H3 => o = none ∧ H3 = H2) I2 ⟨rfl, rfl⟩) fun vu s3 ⟨u, H3, I3, pu, eu, e3⟩ => ?_
  subst eu e3
  refine thn (hst.run pins s3 σ H3 (fun o H4 => o = some (-1) ∧ H4 = H3) I3 ⟨1, rfl, -1, rfl, rfl, rfl⟩) fun vs s4 ⟨o, H4, I4, ps, eo, e4⟩ => ?_
  subst eo e4
  have I5 : Inv X pins σ H4 { s4 with heap := s4.heap.push { cls := .type "slice", data := .fields #[vl, vu, vs] } } := I4.kept (t' := s4.toks) fun b ob q => Heap.get?_push_of_some _ q
  obtain ⟨its, r, ht, hz⟩ := I5.tuple hx
  have hlen : its.toArray.size = xs.length := by rw [List.size_toArray]; exact r.length.symm
  show wpAny (model X.prog X.w) X.A (subscriptTail e (.Slice none none (some (.UnaryOp .USub (.Constant (.int 1) k p1) p2)) p3) (.ref a) (.ref s4.heap.objs.size)) (EP X pins σ Q) X.xe { s4 with heap := s4.heap.push { cls := .type "slice", data := .fields #[vl, vu, vs] } }
  refine tail_any (ops := [.ref a, .ref s4.heap.objs.size]) ht.typeIs PyProof.Rows.slot_tuple_getitem.lookup ?_ (by with_unfolding_all rfl)
  refine getItem_tuple_rev ht (Heap.IsSliceOf.new _ vl vu vs) pl pu ps ?_ (by rw [hlen]; exact hz)
  refine ⟨.ref _, _, I5.laid (t' := s4.toks) (o := .tup xs.reverse) (fun b ob q => Heap.get?_push_of_some _ q) (Nat.le_refl _) ?_, rfl, q _ (I5.hok.fresh (Nat.le_refl _))⟩
  exact ⟨by rw [List.length_reverse]; omega, _, r.reverse, IsTup.new _ _⟩
theorem dps_rev {K : PySem.W.Frag} {H : Hp} : ∀ {vs : List V} {ds : List PyData}, DpAll K H vs ds → DpAll K H vs.reverse ds.reverse
  | _, _, .nil => .nil
  | _, _, .cons h r => by
    rw [List.reverse_cons, List.reverse_cons]
    exact dpAll_app (dps_rev r) (.cons h .nil)
theorem ed_rev {K : PySem.W.Frag} {σ : L2.St} {H : Hp} {ta : TE} {xs : List PyData} (h : EvD K ta σ H (.tuple xs)) : EvD K (tRevT K ta) σ H (.tuple xs.reverse) := fun H1 a Q q =>
  h H1 a _ fun v H2 e2 dv => by
    cases dv with
    | @tup b vs _ hb hvs =>
      refine ⟨b, vs, rfl, hb, fun p hp => q (.ref p) _ (e2.trans (Ex.new hp)) ?_⟩
      exact .tup (st_of upd_same) (dps_rev (dpMs (Ex.new hp) _ _ hvs))
theorem ev_meth {σ : L2.St} {H : Hp} {ta : TE} {t : TA} {C a dx : Addr} {m : Str} {fs : List (Str × V)} {vs : List V} {v : V} {sp : Sp} {E : XK} (h : Ev ta σ H (.ref a)) (hi : H a = some (.ins C dx fs)) (l : fs.lookup m = none) (ht : EvA t σ H vs)
    (hs : ∀ H1, Ex H H1 → ∀ Q : VK, (∀ H2, Ex H1 H2 → Q v H2) → sp (.ref a :: (vs ++ [])) H1 Q E) : Ev (tMeth C m sp [] E ta t) σ H v := fun H1 e Q q =>
  h H1 e _ fun H2 e2 => ⟨a, dx, fs, rfl, (e.trans e2) _ _ hi, l, ht H2 (e.trans e2) _ fun H3 e3 => hs H3 ((e.trans e2).trans e3) Q fun H4 e4 => q H4 ((e2.trans e3).trans e4)⟩
/-! ### trees that are trimmed -/
theorem keepN_keep {α : Type} (p : α → Bool) (l : List α) : keepN p (l.take (keepN p l)) = keepN p l := by
  have key : ∀ n, n = l.length → keepN p (l.take (keepN p l)) = keepN p l := by
    intro n
    induction n generalizing l with
    | zero =>
      intro h
      rw [List.length_eq_zero_iff.mp h.symm]
      rfl
    | succ n ih =>
      intro h
      obtain ⟨r, x, rfl⟩ : ∃ r x, l = r ++ [x] := by
        rcases List.eq_nil_or_concat l with z | ⟨r, x, z⟩
        · rw [z] at h
          cases h
        · exact ⟨r, x, by rw [z]; simp⟩
      rw [keepN_app]
      cases q : p x with
      | true =>
        rw [if_pos rfl, List.take_append_of_le_length (keepN_le p r)]
        exact ih r (by rw [List.length_append] at h; simpa using h)
      | false =>
        rw [if_neg Bool.false_ne_true, List.take_of_length_le (by rw [List.length_append]; exact Nat.le_refl _), keepN_app, q, if_neg Bool.false_ne_true]
  exact key _ rfl
theorem short_short {α : Type} (p : α → Bool) (l : List α) : short p (short p l) = short p l := by
  unfold short
  rw [keepN_keep, List.take_take, Nat.min_self]
mutual
theorem trim_trim {B C : Nat} : ∀ {d : PyData}, Bd B C d → trim (trim d) = trim d
  | _, .mk (bs := bs) (ks := ks) rfl _ _ _ hk => by
    rw [trim_nd, trim_nd, short_short]
    have e1 : trimL (short isN (trimL ks)) = short isN (trimL ks) := by
      unfold short
      rw [trimL_map (List.take _ _), List.map_take, ← trimL_map (trimL ks), trimL_trimL hk]
    rw [e1, short_short]
theorem trimL_trimL {B C : Nat} : ∀ {ks : List PyData}, BdL B C ks → trimL (trimL ks) = trimL ks
  | _, .nil => by simp [trimL]
  | _, .non r => by simp [trimL, trim_non, trimL_trimL r]
  | _, .one h r => by simp [trimL, trim_trim h, trimL_trimL r]
end
end XO

set_option Elab.async false
set_option linter.all false
set_option maxRecDepth 100000
set_option maxHeartbeats 8000000
/-! enumerate of a tuple; `x in o` and `o[x]` by the own class's methods -/
namespace XE
open PySem PySem.Spec PyProof.Rows L2 He
set_option maxHeartbeats 1000000 in
theorem meets_enum1 {v : Value} {o : Obj} {H : Heap → Prop} (B : Begins v o H) :
    Meets (Builtin.«enumerate.__new__» ⟨[.type "enumerate", v], []⟩) (fun _ R s => H s.heap ∧
      R (.ok (.ret (.ref (s.heap.push o).objs.size))) { s with heap := (s.heap.push o).push { cls := .type "enumerate", data := .fields #[.none, .bool false, .ref s.heap.objs.size, rawInt 0, .none, .none] } }) :=
  .of_wp fun prog w A R s h => by
    obtain ⟨hp, g, d, tk, os⟩ := s; obtain ⟨h1, h⟩ := h
    have hsub := sub_enumerate
    have q1 : ∀ {A' : Around} {E : Value → Shared → Prop} {Q : Value → Shared → Prop}, Q (.ref hp.objs.size) ⟨hp.push o, g, d, tk, os⟩ → wpAny (model prog w) A' (pyIter v) Q E ⟨hp, g, d, tk, os⟩ :=
      fun q => B.iter prog w _ _ ⟨hp, g, d, tk, os⟩ _ h1 q
    wp_walk using q1
    refine wpAny_stack_any fun st => wpAny_pure ?_
    split
    · rename_i c _ _ _ _ _
      cases (c == Value.type "enumerate")
      · wp_walk using q1
        exact ⟨_, rfl, h⟩
      · wp_walk using q1
        exact ⟨_, rfl, h⟩
    · wp_walk using q1
      exact ⟨_, rfl, h⟩
section
variable {prog : Program} {w : World} {A : Around} {E : Value → Shared → Prop} {s : Shared}
theorem call_enum1 {v : Value} {o : Obj} {H : Heap → Prop} {Q : Value → Shared → Prop} (B : Begins v o H) (h1 : H s.heap)
    (h : ∀ h', IsEnum h' (s.heap.objs.size + 1) s.heap.objs.size 0 .none → h'.get? s.heap.objs.size = some o → h'.objs.size = s.heap.objs.size + 2 →
      (∀ b o, s.heap.get? b = some o → h'.get? b = some o) → Q (.ref (s.heap.objs.size + 1)) { s with heap := h' }) :
    wpAny (model prog w) A (call (.type "enumerate") [v]) Q E s := by
  refine callType_new F.called_enumerate (by decide) (F.typeCall_enumerate_1 _) (F.newCall_enumerate_1 _) (fun obj => F.args_object_init_2 obj _) F.entry_enumerate_new
    (meets_enum1 B) ⟨h1, ?_⟩
  have hz : (s.heap.push o).objs.size = s.heap.objs.size + 1 := Heap.size_push ..
  show _ ∧ _
  rw [hz]
  have he : IsEnum ((s.heap.push o).push { cls := .type "enumerate", data := .fields #[.none, .bool false, .ref s.heap.objs.size, rawInt 0, .none, .none] }) (s.heap.objs.size + 1) s.heap.objs.size 0 .none := by
    have := Heap.get?_push_size (s.heap.push o) (o := { cls := .type "enumerate", data := .fields #[.none, .bool false, .ref s.heap.objs.size, rawInt 0, .none, .none] }) rfl
    rw [hz] at this; exact this
  refine ⟨⟨_, he, rfl⟩, h _ he (Heap.get?_push_of_some _ (Heap.get?_push_size _ B.free)) (by rw [Heap.size_push, hz]) fun b o x => Heap.get?_push_of_some _ (Heap.get?_push_of_some _ x)⟩
end
/-- the tuple at a, each item in a new pair -/
def IteT (K : PySem.W.Frag) (a : Addr) : It :=
  ⟨fun i H => ∃ (xs : List V) (x : V), SqT K H a xs ∧ xs[i]? = some x, fun i H v H' => ∃ T x, v = .ref T ∧ H T = none ∧ H' = upd H T (.tup [.int (i : Nat), x]) ∧ ∀ xs, SqT K H a xs → xs[i]? = some x, fun i H => ∃ xs : List V, SqT K H a xs ∧ xs.length ≤ i⟩
theorem apart {h : Heap} {a e it : Addr} {items : Array Value} {i : Nat} {k : Int} {old : Value} (he : IsEnum h e it k old) (hi : h.IsTupleIter it a i) (ht : h.IsTuple a items) : a ≠ it ∧ e ∉ [it, a] := by
  obtain ⟨o1, e1, c1, _⟩ := hi
  obtain ⟨o2, e2, c2, _⟩ := ht
  have c3 : ∀ o, h.get? e = some o → o.cls = .type "enumerate" := fun o q => by
    rw [show h.get? e = _ from he] at q
    cases q
    rfl
  refine ⟨fun q => ?_, fun q => ?_⟩
  · subst q
    rw [e1] at e2
    cases e2
    rw [c1] at c2
    simp at c2
  · rcases List.mem_cons.mp q with q | q
    · subst q
      have := c3 _ e1
      rw [c1] at this
      simp at this
    · rw [List.mem_singleton.mp q] at c3
      have := c3 _ e2
      rw [c2] at this
      simp at this
theorem turn_enumT {P : Program} {w : World} {K : PySem.W.Frag} {elts : List Expr} {kk : Nat} {tpos : Pos} (a e it : Addr) :
    Turn P w K (.Tuple elts kk tpos) (IteT K a) [e, it] e (fun i h => (∃ old, IsEnum h e it ((i : Nat) : Int) old) ∧ h.IsTupleIter it a i ∧ e ≠ it) where
  mem := by simp
  obj := fun i h st b hb => by
    obtain ⟨⟨old, he⟩, ⟨o, ho, hc, hd⟩, _⟩ := st
    have e' : b = e ∨ b = it := by simpa using hb
    rcases e' with z | z
    · rw [z]; exact ⟨_, he, fun v q => nomatch q⟩
    · rw [z]; exact ⟨o, ho, fun v q => by rw [hd] at q; cases q⟩
  keep := fun i h h' st k => let ⟨⟨old, he⟩, hi, hne⟩ := st; ⟨⟨old, k e (by simp) _ he⟩, hi.at fun o q => k it (by simp) o q, hne⟩
  item := by
    intro X hP hw hK hc i pins s σ H E I hf st hg
    subst hP hw hK
    obtain ⟨⟨old, he⟩, hit, hne⟩ := st
    obtain ⟨xs, x, hq, hx⟩ := hg
    obtain ⟨its, rv, p, hz⟩ := I.tuple hq
    obtain ⟨u, hu, ru⟩ := rv.get hx
    have hel : e < s.heap.objs.size := Heap.lt_size he
    have hil : it < s.heap.objs.size := by obtain ⟨_, q, _⟩ := hit; exact Heap.lt_size q
    have pt : s.heap.IsTuple a its.toArray := p
    obtain ⟨n1, n2⟩ := apart he hit pt
    have hlt : i < its.toArray.size := by
      rw [List.size_toArray]
      exact (List.getElem?_eq_some_iff.mp hu).1
    refine wpAny_pyNext_enum_itemD (Draws.tuple (A := X.A.in1) (I.ok.hd hc) it a n1 its.toArray) he ⟨hit, pt⟩ hlt hne n2 fun y h' tk hy ho hst' hT hsz hk => ?_
    have ey : y = u := by
      have hy' : its.toArray[i]? = some y := hy
      rw [show its.toArray[i]? = some u by simpa using hu] at hy'
      cases hy'
      rfl
    subst ey
    obtain ⟨hit', _⟩ := hst'
    refine ⟨_, rfl, wpAny_letOwnedTupleGo_enum (s := { s with heap := h', toks := tk + 1 }) ho fun h'' he' sb => ?_⟩
    have hT2 : h''.get? s.heap.objs.size = some { cls := .type "tuple", data := .seq #[.int i tk, y] } := (sb.2 _ (Nat.ne_of_gt hel)).trans hT
    have new : ObjOk X.prog X.w (upd H s.heap.objs.size (.tup [.int (i : Nat), x])) h'' s.heap.objs.size (.tup [.int (i : Nat), x]) :=
      ⟨by show 2 ≤ sizeLine; decide, [.int i tk, y], .cons ⟨_, rfl⟩ (.cons ru .nil), ⟨_, hT2, rfl, _, rfl⟩⟩
    have I1 : Inv X pins σ (upd H s.heap.objs.size (.tup [.int (i : Nat), x])) { s with heap := h'', toks := tk + 1 } :=
      I.turnedNew (ch := [e, it]) (fun b ob hb q => (sb.2 b (fun z => hb (by simp [z]))).trans (hk b ob (fun z => hb (by simp [z])) (fun z => hb (by simp [z])) q)) hf (Nat.le_refl _) new
    refine ⟨.ref s.heap.objs.size, _, I1, rfl, ⟨_, x, rfl, I.hok.fresh (Nat.le_refl _), rfl, fun ys hy => by rw [I.tuple_inj hy hq]; exact hx⟩, ⟨⟨y, ?_⟩, hit'.at fun o q => (sb.2 it (Ne.symm hne)).trans q, hne⟩, fun b hb => ?_⟩
    · have e1 : ((i + 1 : Nat) : Int) = (i : Int) + 1 := by omega
      rw [e1]; exact he'
    · have hb' : b < s.heap.objs.size := by
        have e' : b = e ∨ b = it := by simpa using hb
        rcases e' with z | z
        · rw [z]; exact hel
        · rw [z]; exact hil
      rw [upd_ne (Nat.ne_of_lt hb')]
      exact (hf b hb).1
  done := by
    intro X hP hw hK hc i pins s σ H E I hf st hg
    subst hP hw hK
    obtain ⟨⟨old, he⟩, hit, hne⟩ := st
    obtain ⟨xs, hq, hx⟩ := hg
    obtain ⟨its, rv, p, hz⟩ := I.tuple hq
    obtain ⟨f0, f1, f2, f3, f4, f5⟩ := hf it (by simp)
    have hl := rv.length
    have pt : s.heap.IsTuple a its.toArray := p
    obtain ⟨n1, n2⟩ := apart he hit pt
    have hT : s.TypeIs (.ref e) "enumerate" := ⟨_, he, rfl⟩
    unfold pyNext
    refine wpAny_bind (wpAny_attempt (wpAny_callSpecial?_slot (name := Str.ofString "__next__") hT F.slot_enumerate_next
      (wpAny_call_entry F.slot_enumerate_next hT F.entry_enumerate_next ?_ (F.args_enumerate_next_1 _))))
    show wpAny _ _ (field (.ref e) 2 >>= _) _ _ _
    refine wpAny_bind (wpAny_field he rfl (x := .ref it) rfl ?_)
    refine wpAny_bind (wpAny_nextOf_tuple_end (I.ok.hd hc) hit pt (by simp; omega) fun h' x he' hx' => ?_)
    obtain ⟨o, ho, hc'⟩ := hx'
    refine wpAny_bind (wpAny_isInstance (T := "StopIteration") (b := true) ⟨o, ho, hc'⟩ isSubtype_stop ?_)
    exact wpAny_pure ⟨rfl, I.turned (t' := s.toks) (fun b o hb q => he' b o hb q) f0 f1 f3 f4 f5⟩
  self := fun A i s Q E st h => let ⟨⟨_, he⟩, _⟩ := st; wpAny_pyIter_enum he h
def iEnumT (K : PySem.W.Frag) (ta : TA) : TI := fun σ H R => ta σ H fun vs H1 => ∃ a xs, vs = [.ref a] ∧ SqT K H1 a xs ∧ R (IteT K a) H1
theorem pi_enumT {X : Cx} {e : Expr} {ta : TA} {p pos tpos : Pos} {elts : List Expr} {kk : Nat} (hg : Gl X "enumerate") (hm : X.mg "enumerate" = none) (ha : PA X [e] ta) (hs : starEach [e] X.env = [(false, eval e X.env)] := by rfl) :
    PI X (.Tuple elts kk tpos) (.Call (.Name "enumerate" p) [e] [] pos) (iEnumT X.K ta) := by
  refine ⟨fun pins s σ H R I h => ?_⟩
  refine Call_ (ld_blt I hg hm boot_enumerate (PyProof.Rows.callWith_type1 (thn (ha.run pos pins s σ H _ I h) fun us s1 ⟨vs, H1, I1, r1, q1⟩ => ?_) hs rfl))
  obtain ⟨a, xs, ex, hq, q⟩ := q1
  subst ex
  cases r1 with
  | cons r rr =>
    cases rr
    cases r
    obtain ⟨its, rv, p', hz⟩ := I1.tuple hq
    refine call_enum1 (begins_tuple a its.toArray) p' fun h' he hit hsz hk => wpAny_pyIter_enum he ?_
    have I2 : Inv X pins σ H1 { s1 with heap := h' } := I1.kept (t' := s1.toks) hk
    refine ⟨s1.heap.objs.size + 1, [s1.heap.objs.size + 1, s1.heap.objs.size], _, _, H1, rfl, I2, turn_enumT a (s1.heap.objs.size + 1) s1.heap.objs.size, ⟨⟨.none, he⟩, ⟨_, hit, rfl, rfl⟩, Nat.succ_ne_self _⟩, fun b hb => ?_, q⟩
    have e' : b = s1.heap.objs.size + 1 ∨ b = s1.heap.objs.size := by simpa using hb
    have hle : s1.heap.objs.size ≤ b := by
      rcases e' with z | z
      · rw [z]; exact Nat.le_add_right _ _
      · rw [z]; exact Nat.le_refl _
    exact I1.fpOk hle (I1.hok.fresh hle)
theorem walk_enumT {K : PySem.W.Frag} {a : Addr} {xs : List V} : Walk (IteT K a) xs.length (fun H => SqT K H a xs) (YPair (fun i => some (.int (i : Nat))) (fun i => xs[i]?)) := by
  refine ⟨fun i _ hi q => ⟨xs, xs[i], q, by simp [hi]⟩, fun _ q => ⟨xs, q, Nat.le_refl _⟩, fun i H v H' _ q y => ?_⟩
  obtain ⟨T, x, h1, h2, h3, h4⟩ := y
  exact ⟨T, .int (i : Nat), x, h1, h2, h3, rfl, h4 xs q⟩
end XE

set_option Elab.async false
set_option linter.all false
set_option maxRecDepth 100000
set_option maxHeartbeats 4000000
/-! Dicts: == and != of two with flat values, either way; tuple(d.values()). -/
namespace XD
open PySem PySem.Spec PyProof.Rows L2 He XH XV XR PEN TR Evl
def hitB (ls : List (Key × V)) (p : Key × V) : Bool := match valV ls p.1 with
  | some y => eqV p.2 y
  | none => false
def dEq (ks ls : List (Key × V)) : Bool := (ks.length == ls.length) && ks.all (hitB ls)
theorem hits_of {A : Around} {s : Shared} {ls : List (Key × V)} {vb : List (Key × Value)} (rb : KV ls vb) (fb : ∀ p ∈ ls, flatV p.2 = true) {ks : List (Key × V)} {va : List (Key × Value)} (ra : KV ks va) :
    (∀ p ∈ ks, flatV p.2 = true) → PySem.W.KeqHits A s vb va (ks.all (hitB ls)) := by
  unfold KV at ra
  induction ra with
  | nil => intro _; exact .nil
  | @cons p q ps qs h t k =>
    intro hp
    obtain ⟨h1, h2⟩ := h
    have ih := k fun p' hm => hp p' (List.mem_cons_of_mem _ hm)
    have h1' : p.1 = q.1 := h1
    obtain ⟨key, v⟩ := q
    have e1 : p.1 = key := h1'
    have rr := rb.val p.1
    cases hv : valV ls p.1 with
    | none =>
      rw [hv] at rr
      have hn : valueAt vb key = none := by
        rw [← e1]
        cases hq : valueAt vb p.1 with
        | none => rfl
        | some y =>
          rw [hq] at rr
          exact False.elim rr
      have e : (p :: ps).all (hitB ls) = false := by
        rw [List.all_cons]
        unfold hitB
        rw [hv]
        rfl
      rw [e]
      exact .miss hn
    | some y =>
      rw [hv] at rr
      obtain ⟨u, hu, ru⟩ := rr.some_of
      rw [e1] at hu
      have e : (p :: ps).all (hitB ls) = (eqV p.2 y && ps.all (hitB ls)) := by
        rw [List.all_cons]
        have : hitB ls p = eqV p.2 y := by
          unfold hitB
          rw [hv]
        rw [this]
      rw [e]
      have fy : flatV y = true := by
        unfold valV at hv
        cases hf : ls.find? fun kv => decide (kv.1 = p.1) with
        | none =>
          rw [hf] at hv
          cases hv
        | some kv =>
          rw [hf] at hv
          injection hv with hv
          rw [← hv]
          exact fb kv (List.mem_of_find?_eq_some hf)
      exact .hit hu (eqAt_V h2 ru (hp p List.mem_cons_self) fy) ih
section
variable {X : Cx}
def rEqDct (neg : Bool) : R2 := fun x y H Q => ∃ a b ks ls, x = .ref a ∧ y = .ref b ∧ H a = some (.dK ks) ∧ H b = some (.dK ls) ∧ (∀ p ∈ ks, flatV p.2 = true) ∧ (∀ p ∈ ls, flatV p.2 = true) ∧ Q (.bl (if neg then !dEq ks ls else dEq ks ls)) H
theorem op_eqDct (hu : X.A.units < cLine) : OpR X (compareOp .Eq) (rEqDct false) := by
  intro pins s σ H x y v u Q I rx ry h
  obtain ⟨a, b, ks, ls, rfl, rfl, ea, eb, f1, f2, q⟩ := h
  obtain rfl : v = Value.ref a := rx
  obtain rfl : u = Value.ref b := ry
  obtain ⟨_, ya, va, ra, da⟩ := (show ObjOk X.prog X.w H s.heap a (.dK ks) from I.hok a _ ea)
  obtain ⟨_, yb, vb, rb, db⟩ := (show ObjOk X.prog X.w H s.heap b (.dK ls) from I.hok b _ eb)
  have e : (va.length == vb.length && ks.all (hitB ls)) = dEq ks ls := by
    unfold dEq
    rw [ra.length, rb.length]
  exact PySem.W.keq_eq (knd := mixKind X.prog X.w) (r := ks.all (hitB ls)) ya yb da db hu (fun _ => hits_of rb f2 ra f1) ⟨.bl (dEq ks ls), H, I, (by rw [e]; rfl), q⟩
theorem op_neDct (hu : X.A.units < cLine) : OpR X (compareOp .NotEq) (rEqDct true) := by
  intro pins s σ H x y v u Q I rx ry h
  obtain ⟨a, b, ks, ls, rfl, rfl, ea, eb, f1, f2, q⟩ := h
  obtain rfl : v = Value.ref a := rx
  obtain rfl : u = Value.ref b := ry
  obtain ⟨_, ya, va, ra, da⟩ := (show ObjOk X.prog X.w H s.heap a (.dK ks) from I.hok a _ ea)
  obtain ⟨_, yb, vb, rb, db⟩ := (show ObjOk X.prog X.w H s.heap b (.dK ls) from I.hok b _ eb)
  have e : (va.length == vb.length && ks.all (hitB ls)) = dEq ks ls := by
    unfold dEq
    rw [ra.length, rb.length]
  exact PySem.W.keq_ne (knd := mixKind X.prog X.w) (r := ks.all (hitB ls)) ya yb da db hu (fun _ => hits_of rb f2 ra f1) ⟨.bl (!dEq ks ls), H, I, (by rw [e]; rfl), q⟩
end
/-! ### tuple(d.values()) -/
section
variable {prog : Program} {w : World} {A : Around} {E : Value → Shared → Prop} {s : Shared} {T : String} {r d : Addr} {n : Nat} {P : Nat → Value → Prop} {OK : Heap → Prop}
theorem code_tuple_new_src {Q₁ : Value → Shared → Prop} (K : PySem.W.KdlSrc prog w T r d n P OK) (hh : A.handled = none) (hok : OK s.heap) (hn : n ≤ sizeLine)
    (h : ∀ (h' : Heap) (tk : Nat) (acc : Array Value), (∀ b o, s.heap.get? b = some o → h'.get? b = some o) → ItemsOf P acc n →
      Q₁ (.ref h'.objs.size) { s with heap := h'.push { cls := .type "tuple", data := .seq acc }, toks := tk }) :
    codeAny (model prog w) A (.call (.builtin "tuple.__new__") ⟨[.type "tuple", .ref r], []⟩) (wants Q₁ E) s := by
  refine codeAny_of_tree ?_
  show wpAny _ A.in1 (do checkBuiltinCall "tuple.__new__" ⟨[.type "tuple", .ref r], []⟩; again (.builtin "tuple.__new__" ⟨[.type "tuple", .ref r], []⟩)) _ _ s
  refine wpAny_bind (wpAny_of_eq (F.newCall_tuple_1 _) (wpAny_pure ⟨plainId_quiet F.plain_tuple_new _, codeAny_builtin F.entry_tuple_new ?_⟩))
  rw [Around.under_plainId F.plain_tuple_new _]
  have hsub := sub_tuple_self
  have hinit := init_tuple_lookup
  have hmh := madeHere_tuple
  have hTI : s.TypeIs (.ref r) T := K.type s hok
  have hh1 : A.in1.handled = none := hh
  have hnt := K.notTuple
  wp_walk using wpAny_typeOf hTI, PySem.W.kdu_collect (A := A.in1) K hh1 hok hn
  intro h' tk acc hk hacc
  show wpAny _ _ (Builtin.Tuple.tupleExact acc.toList.toArray >>= fun v => ret v) _ _ _
  unfold Builtin.Tuple.tupleExact
  refine wpAny_bind (wpAny_newObj_type ?_ (by show acc.toList.toArray.size ≤ sizeLine; simp only [Array.toArray_toList]; rw [hacc.1]; exact hn))
  refine wpAny_pure ?_
  have e : acc.toList.toArray = acc := by simp
  rw [e]
  exact h h' tk acc hk hacc
theorem call_tuple_src {Q : Value → Shared → Prop} (K : PySem.W.KdlSrc prog w T r d n P OK) (hh : A.handled = none) (hok : OK s.heap) (hn : n ≤ sizeLine)
    (hQ : ∀ (h' : Heap) (tk : Nat) (acc : Array Value), (∀ b o, s.heap.get? b = some o → h'.get? b = some o) → ItemsOf P acc n →
      Q (.ref h'.objs.size) { s with heap := h'.push { cls := .type "tuple", data := .seq acc }, toks := tk }) :
    wpAny (model prog w) A (call (.type "tuple") [.ref r]) Q E s := by
  refine callType_codes (Q₁ := fun obj s₁ => s₁.TypeIs obj "tuple" ∧ Q obj s₁) F.called_tuple (F.typeCall_tuple_1 _) F.entry_object_init
    (code_tuple_new_src (A := A.in1) K hh hok hn fun h' tk acc hk hacc => ⟨⟨_, Heap.get?_push_size _ rfl, rfl⟩, hQ h' tk acc hk hacc⟩) fun obj s₁ h₁ => ?_
  exact ⟨h₁.1, F.args_object_init_2 obj _, object_init_meets F.called_tuple.init.lookup F.called_tuple.made (by decide) prog w A.in1 _ s₁ ⟨h₁.1, rfl, h₁.2⟩⟩
end
theorem kv_vals {kvs : List (Key × V)} {vs : List (Key × Value)} (h : KV kvs vs) : Vals (kvs.map (·.2)) (vs.map (·.2)) := by
  unfold KV at h
  induction h with
  | nil => exact .nil
  | cons a _ ih => exact .cons a.2 ih
def tTupV (td : TE) : TE := fun σ H Q => td σ H fun x H1 => ∃ a kvs, x = .ref a ∧ H1 a = some (.dK kvs) ∧ kvs.length ≤ 1000 ∧ ∀ q, H1 q = none → Q (.ref q) (upd H1 q (.tup (kvs.map (·.2))))
theorem pe_tupVals {X : Cx} {o : Expr} {td : TE} {p pos apos cpos : Pos} (hcalm : X.A.handled = none) (hg : Gl X "tuple") (hm : X.mg "tuple" = none) (ho : PE X o td) (hbase : attributeBase o "values" X.env (eval o X.env) = eval o X.env := by rfl) (hline : (apos.endLine == cpos.line) = true := by rfl)
    (na : starEach [.Call (.Attribute o "values" apos) [] [] cpos] X.env = (false, eval (.Call (.Attribute o "values" apos) [] [] cpos) X.env) :: starEach [] X.env := by rfl) :
    PE X (.Call (.Name "tuple" p) [.Call (.Attribute o "values" apos) [] [] cpos] [] pos) (tTupV td) := by
  refine ⟨fun pins s σ H Q I h => ?_⟩
  refine Call_ (ld_blt I hg hm boot_tuple (PyProof.Rows.callWith_type1 (args_cons ?_ na) na))
  refine wpAny_Call_method (T := "dict") (id := "dict.values") hbase rfl hline F.plainAttrs_dict F.slot_dict_values F.type_dict_values (thn (ho.run pins s σ H _ I h) fun u s1 ⟨x, H1, I1, rx, a, kvs, ex, ha, hl, q⟩ => ?_)
  subst ex
  obtain rfl : u = Value.ref a := rx
  obtain ⟨hsz, ya, vs, ra, da⟩ := (show ObjOk X.prog X.w H1 s1.heap a (.dK kvs) from I1.hok a _ ha)
  refine ⟨da.typeIs, da.mapOf.noDict, ?_⟩
  have I2 : Inv X pins σ H1 { s1 with heap := s1.heap.push { cls := .type "dict_values", data := .fields #[.ref a] } } := I1.kept (t' := s1.toks) fun b ob q => Heap.get?_push_of_some _ q
  show wpAny _ _ (callWith cpos (.builtin "dict.values") [.ref a] [] []) _ X.xe s1
  refine method_meetsIn F.slot_dict_values F.entry_dict_values rfl (PySem.evalArgs_none ⟨rfl, da.typeIs, F.args_dict_values_1 _, _, meets_dict_values (mixKind X.prog X.w) a ya, ⟨vs, da⟩, ?_⟩)
  refine args_nil ?_
  obtain ⟨o0, es, ep, ho0, hx0, hd0, r0⟩ := da
  have dat : s1.heap.DictAt (mixKind X.prog X.w) a vs ep := ⟨o0, es, ho0, hx0, hd0, r0⟩
  have hvl : vs.length ≤ sizeLine := by
    rw [← ra.length]
    exact hsz
  refine call_tuple_src (PySem.W.kdl_values (r := s1.heap.objs.size) (d := a) (knd := mixKind X.prog X.w) (kvs := vs) (ep := ep)) hcalm ⟨⟨_, Heap.get?_push_size _ rfl, rfl, rfl⟩, dat.push _⟩ hvl fun h' tk acc hk hacc => ?_
  have I3 : Inv X pins σ H1 { s1 with heap := h' } := I2.kept (t' := s1.toks) hk
  have eacc : acc.toList = vs.map (·.2) := by
    refine List.ext_getElem? fun i => ?_
    by_cases hi : i < vs.length
    · have hi2 : i < acc.size := by rw [hacc.1]; exact hi
      obtain ⟨k, hk2⟩ := hacc.2 i acc[i] (Array.getElem?_eq_getElem hi2)
      rw [Array.getElem?_toList, Array.getElem?_eq_getElem hi2, List.getElem?_map, hk2]
      rfl
    · rw [List.getElem?_eq_none (by rw [Array.length_toList, hacc.1]; omega), List.getElem?_eq_none (by rw [List.length_map]; omega)]
  have hrv : Vals (kvs.map (·.2)) acc.toList := by
    rw [eacc]
    exact kv_vals ra
  have I4 : Inv X pins σ (upd H1 h'.objs.size (.tup (kvs.map (·.2)))) { s1 with heap := h'.push { cls := .type "tuple", data := .seq acc }, toks := tk } :=
    I3.laid (t' := tk) (fun b o e => Heap.get?_push_of_some _ e) (Nat.le_refl _) (show ObjOk X.prog X.w _ _ _ (.tup (kvs.map (·.2))) from ⟨by rw [List.length_map]; exact hsz, acc.toList, hrv, by
      have := IsTup.new h' acc.toList.toArray
      simpa using this⟩)
  exact ⟨.ref h'.objs.size, _, I4, rfl, q _ (I3.hok.fresh (Nat.le_refl _))⟩
end XD

set_option Elab.async false
set_option linter.all false
set_option maxRecDepth 100000
set_option maxHeartbeats 4000000
/-! A pen of four: the script's list, the place, the number that is held, how often it was drawn. -/
namespace PEN4
open PySem PySem.Spec PyProof.Rows L2 He XH XV XR PEN TR Evl
def Pen4 (p l : Addr) (b : Nat) (H : Hp) : Prop := ∃ (c t : Nat) (x : Int) (ns : List Int), H p = some (.lst [.ref l, .int (c : Nat), .int x, .int (t : Nat)]) ∧ H l = some (.lst (ns.map V.int)) ∧ t + b ≤ 1000000
theorem Pen4.ne {p l : Addr} {b : Nat} {H : Hp} (h : Pen4 p l b H) : p ≠ l := by
  obtain ⟨c, t, x, ns, h1, h2, _⟩ := h
  rintro rfl
  rw [h1] at h2
  have z := HO.lst.inj (Option.some.inj h2)
  cases ns with
  | nil => cases z
  | cons n r => cases (List.cons.inj z).1
theorem Pen4.ex {p l : Addr} {b : Nat} {H H' : Hp} (e : Ex H H') (h : Pen4 p l b H) : Pen4 p l b H' := by
  obtain ⟨c, t, x, ns, h1, h2, h3⟩ := h
  exact ⟨c, t, x, ns, e _ _ h1, e _ _ h2, h3⟩
theorem Pen4.less {p l : Addr} {b b' : Nat} {H : Hp} (h : Pen4 p l b H) (k : b' ≤ b) : Pen4 p l b' H := by
  obtain ⟨c, t, x, ns, h1, h2, h3⟩ := h
  exact ⟨c, t, x, ns, h1, h2, by omega⟩
theorem Pen4.upd {p l a : Addr} {b : Nat} {H : Hp} {o : HO} (h : Pen4 p l b H) (h1 : a ≠ p) (h2 : a ≠ l) : Pen4 p l b (L2.upd H a o) := by
  obtain ⟨c, t, x, ns, k1, k2, k3⟩ := h
  exact ⟨c, t, x, ns, (upd_ne (Ne.symm h1)).trans k1, (upd_ne (Ne.symm h2)).trans k2, k3⟩
theorem Pen4.new {p l a : Addr} {b : Nat} {H : Hp} (h : Pen4 p l b H) (n : H a = none) : a ≠ p ∧ a ≠ l := by
  obtain ⟨c, t, x, ns, k1, k2, k3⟩ := h
  refine ⟨fun e => ?_, fun e => ?_⟩
  · rw [e, k1] at n
    cases n
  · rw [e, k2] at n
    cases n
/-- a thing of another kind than the pen's lists -/
theorem Pen4.off {p l a : Addr} {b : Nat} {H : Hp} {o : HO} (h : Pen4 p l b H) (ha : H a = some o) (hn : ∀ xs, o ≠ .lst xs) : a ≠ p ∧ a ≠ l := by
  obtain ⟨c, t, x, ns, k1, k2, k3⟩ := h
  refine ⟨fun e => ?_, fun e => ?_⟩
  · rw [e, k1] at ha
    exact hn _ (Option.some.inj ha).symm
  · rw [e, k2] at ha
    exact hn _ (Option.some.inj ha).symm
def spDraw4 : Sp := fun vs H Q _ => ∃ (p l : Addr) (m : Int) (b : Nat), vs = [.ref p, .int m] ∧ (0 < m ∧ m < 1000000) ∧ Pen4 p l (b + 1) H ∧ ∀ r H', (0 ≤ r ∧ r < m) → Px p l H H' → Pen4 p l b H' → Q (.int r) H'
def spStart4 (K : PySem.W.Frag) : Sp := fun vs H Q _ => ∃ (a : Addr) (ns : List Int), vs = [.ref a] ∧ SqL K H a (ns.map V.int) ∧ ns.length ≤ 63 ∧ ∀ p l H', Ex H H' → H p = none → Pen4 p l 1000000 H' → Q (.ref p) H'
theorem rv_powI {i j : Int} {H : Hp} (h : 0 ≤ j ∧ j ≤ 1000000 ∧ i.natAbs < 2 ^ 64) : RV (rI (fun i j => 0 ≤ j ∧ j ≤ 1000000 ∧ i.natAbs < 2 ^ 64) fun i j => V.int (i ^ j.toNat)) (.int i) (.int j) H (.int (i ^ j.toNat)) := rv_I h
end PEN4

set_option Elab.async false
set_option linter.all false
set_option maxRecDepth 100000
set_option maxHeartbeats 4000000
/-! Logs of three cells, as pure lists. -/
namespace LG
open PySem PySem.Spec PyProof.Rows L2 He XH XV XR PEN TR Evl XD PEN4
abbrev W := Option Int
def wv : W → V
  | none => .non
  | some i => .int i
def wd : W → PyData
  | none => .none
  | some i => .int i
theorem wv_inj {x y : W} (h : wv x = wv y) : x = y := by
  cases x <;> cases y <;> simp [wv] at h <;> simp [h]
def keyN (i : Nat) : Str := if i = 0 then "a" else if i = 1 then "b" else "c"
theorem keyN_inj : ∀ i j : Fin 3, keyN i.1 = keyN j.1 → i = j := by decide +kernel
theorem keyN_eq {i j : Nat} (hi : i < 3) (hj : j < 3) : keyN i = keyN j ↔ i = j := ⟨fun h => congrArg Fin.val (keyN_inj ⟨i, hi⟩ ⟨j, hj⟩ h), fun h => by rw [h]⟩
def kk (i : Nat) : Key := .inr (keyN i)
theorem kk_eq {i j : Nat} (hi : i < 3) (hj : j < 3) : kk i = kk j ↔ i = j := by
  unfold kk
  rw [Sum.inr.injEq]
  exact keyN_eq hi hj
abbrev Cs := Nat → W
def setC (c : Cs) (i : Nat) (x : W) : Cs := fun j => if j = i then x else c j
def dk (c : Cs) : List (Key × V) := [(kk 0, wv (c 0)), (kk 1, wv (c 1)), (kk 2, wv (c 2))]
theorem kk_ne : kk 0 ≠ kk 1 ∧ kk 0 ≠ kk 2 ∧ kk 1 ≠ kk 2 := by
  refine ⟨fun h => ?_, fun h => ?_, fun h => ?_⟩
  · exact absurd ((kk_eq (by decide) (by decide)).mp h) (by decide)
  · exact absurd ((kk_eq (by decide) (by decide)).mp h) (by decide)
  · exact absurd ((kk_eq (by decide) (by decide)).mp h) (by decide)
theorem three {i : Nat} (h : i < 3) : i = 0 ∨ i = 1 ∨ i = 2 := by omega
theorem get_dk (c : Cs) {i : Nat} (h : i < 3) : valV (dk c) (kk i) = some (wv (c i)) := by
  obtain ⟨h1, h2, h3⟩ := kk_ne
  rcases three h with rfl | rfl | rfl
  · exact valV_pos rfl
  · exact (valV_neg h1).trans (valV_pos rfl)
  · exact (valV_neg h2).trans ((valV_neg h3).trans (valV_pos rfl))
theorem put_dk (c : Cs) {i : Nat} (h : i < 3) (x : W) : putK (dk c) (kk i) (wv x) = dk (setC c i x) := by
  obtain ⟨h1, h2, h3⟩ := kk_ne
  rcases three h with rfl | rfl | rfl
  · simp [putK, dk, setC, h1, h2, h3, Ne.symm h1, Ne.symm h2, Ne.symm h3]
  · simp [putK, dk, setC, h1, h2, h3, Ne.symm h1, Ne.symm h2, Ne.symm h3]
  · simp [putK, dk, setC, h1, h2, h3, Ne.symm h1, Ne.symm h2, Ne.symm h3]
theorem flat_dk (c : Cs) : ∀ p ∈ dk c, flatV p.2 = true := by
  intro p hp
  have f : ∀ x : W, flatV (wv x) = true := fun x => by cases x <;> rfl
  simp only [dk, List.mem_cons, List.not_mem_nil, or_false] at hp
  rcases hp with rfl | rfl | rfl <;> exact f _
theorem eqV_w (x y : W) : eqV (wv x) (wv y) = decide (x = y) := by
  cases x with
  | none => cases y <;> rfl
  | some a => cases y with
    | none => rfl
    | some b => simp [wv, eqV]; by_cases h : a = b <;> simp [h]
def Same (c d : Cs) : Bool := decide (c 0 = d 0) && (decide (c 1 = d 1) && decide (c 2 = d 2))
theorem dEq_dk (c d : Cs) : dEq (dk c) (dk d) = Same c d := by
  have h : ∀ i, i < 3 → hitB (dk d) (kk i, wv (c i)) = decide (c i = d i) := fun i hi => by
    unfold hitB
    rw [show valV (dk d) (kk i, wv (c i)).1 = some (wv (d i)) from get_dk d hi]
    exact eqV_w _ _
  unfold dEq Same
  have e : (dk c).all (hitB (dk d)) = (hitB (dk d) (kk 0, wv (c 0)) && (hitB (dk d) (kk 1, wv (c 1)) && (hitB (dk d) (kk 2, wv (c 2)) && true))) := rfl
  rw [e, h 0 (by decide), h 1 (by decide), h 2 (by decide), Bool.and_true]
  rfl
theorem same_iff {c d : Cs} : Same c d = true ↔ ∀ i, i < 3 → c i = d i := by
  unfold Same
  rw [Bool.and_eq_true, Bool.and_eq_true, decide_eq_true_eq, decide_eq_true_eq, decide_eq_true_eq]
  constructor
  · rintro ⟨h0, h1, h2⟩ i hi
    rcases three hi with rfl | rfl | rfl <;> assumption
  · exact fun h => ⟨h 0 (by decide), h 1 (by decide), h 2 (by decide)⟩
/-! ### entries -/
abbrev Es := List (Nat × W)
def ent (e : Nat × W) : PyData := .tuple [.str (keyN e.1), wd e.2]
def Ok3 (es : Es) : Prop := ∀ e ∈ es, e.1 < 3
def cellAt (es : Es) (k : Nat) : Nat := (es.getD k (0, none)).1
def worthAt (es : Es) (k : Nat) : W := (es.getD k (0, none)).2
theorem getD_lt {es : Es} {k : Nat} (h : k < es.length) : es[k]? = some (cellAt es k, worthAt es k) := by
  unfold cellAt worthAt
  rw [List.getD_eq_getElem?_getD, List.getElem?_eq_getElem h]
  rfl
theorem cell_lt {es : Es} {k : Nat} (h3 : Ok3 es) (h : k < es.length) : cellAt es k < 3 := h3 _ (List.mem_of_getElem? (getD_lt h))
theorem cell_app {es ds : Es} {k : Nat} (h : k < es.length) : cellAt (es ++ ds) k = cellAt es k ∧ worthAt (es ++ ds) k = worthAt es k := by
  unfold cellAt worthAt
  rw [List.getD_eq_getElem?_getD, List.getD_eq_getElem?_getD, List.getElem?_append_left h]
  exact ⟨rfl, rfl⟩
theorem cell_snoc (es : Es) (e : Nat × W) : cellAt (es ++ [e]) es.length = e.1 ∧ worthAt (es ++ [e]) es.length = e.2 := by
  unfold cellAt worthAt
  rw [List.getD_eq_getElem?_getD, List.getElem?_append_right (Nat.le_refl _), Nat.sub_self]
  exact ⟨rfl, rfl⟩
/-- the last number of the order that is an entry of the cell -/
def lastOf (es : Es) (ns : List Nat) (i : Nat) : Option Nat := (ns.filter fun n => decide (cellAt es n = i)).getLast?
theorem lastOf_snoc (es : Es) (ns : List Nat) (n i : Nat) : lastOf es (ns ++ [n]) i = if cellAt es n = i then some n else lastOf es ns i := by
  unfold lastOf
  rw [List.filter_append]
  by_cases h : cellAt es n = i
  · rw [if_pos h]
    simp [h]
  · rw [if_neg h]
    simp [h]
theorem lastOf_mem {es : Es} {ns : List Nat} {i n : Nat} (h : lastOf es ns i = some n) : n ∈ ns ∧ cellAt es n = i := by
  unfold lastOf at h
  have := List.mem_of_getLast? h
  rw [List.mem_filter] at this
  exact ⟨this.1, of_decide_eq_true this.2⟩
def undo (c : Cs) (es : Es) (ns : List Nat) : Cs := ns.foldl (fun c n => setC c (cellAt es n) (worthAt es n)) c
theorem undo_snoc (c : Cs) (es : Es) (ns : List Nat) (n : Nat) : undo c es (ns ++ [n]) = setC (undo c es ns) (cellAt es n) (worthAt es n) := by
  unfold undo
  rw [List.foldl_append]
  rfl
theorem snoc_ind {α : Type} {P : List α → Prop} (h0 : P []) (hs : ∀ l a, P l → P (l ++ [a])) : ∀ l, P l := by
  have key : ∀ n, ∀ l : List α, l.length = n → P l := by
    intro n
    induction n with
    | zero =>
      intro l h
      rw [List.length_eq_zero_iff.mp h]
      exact h0
    | succ n ih =>
      intro l h
      rcases List.eq_nil_or_concat l with z | ⟨r, x, z⟩
      · rw [z] at h
        cases h
      · have e : l = r ++ [x] := by rw [z]; simp
        subst e
        rw [List.length_append] at h
        exact hs r x (ih r (by simpa using h))
  exact fun l => key _ l rfl
theorem undo_at (c : Cs) (es : Es) (ns : List Nat) (i : Nat) : undo c es ns i = match lastOf es ns i with | some n => worthAt es n | none => c i := by
  revert ns
  refine snoc_ind rfl fun ns n ih => ?_
  rw [undo_snoc, lastOf_snoc]
  unfold setC
  by_cases h : cellAt es n = i
  · rw [if_pos h, if_pos h.symm]
  · rw [if_neg h, if_neg (fun q => h q.symm), ih]
/-- the first entry of its cell -/
def isFirst (es : Es) (k : Nat) : Bool := !((List.range k).any fun j => decide (cellAt es j = cellAt es k))
theorem isFirst_iff {es : Es} {k : Nat} : isFirst es k = true ↔ ∀ j, j < k → cellAt es j ≠ cellAt es k := by
  unfold isFirst
  rw [Bool.not_eq_true', List.any_eq_false]
  constructor
  · intro h j hj e
    have := h j (List.mem_range.mpr hj)
    rw [e] at this
    simp at this
  · intro h j hj
    have := h j (List.mem_range.mp hj)
    simpa using this
def firsts (es : Es) : List Nat := (List.range es.length).filter (isFirst es)
theorem firsts_mem {es : Es} {k : Nat} : k ∈ firsts es ↔ k < es.length ∧ ∀ j, j < k → cellAt es j ≠ cellAt es k := by
  unfold firsts
  rw [List.mem_filter, List.mem_range, isFirst_iff]
theorem isFirst_app {es : Es} {e : Nat × W} {k : Nat} (h : k < es.length) : isFirst (es ++ [e]) k = isFirst es k := by
  have : isFirst (es ++ [e]) k = true ↔ isFirst es k = true := by
    rw [isFirst_iff, isFirst_iff, (cell_app h).1]
    constructor
    · intro q j hj
      have := q j hj
      rwa [(cell_app (show j < es.length by omega)).1] at this
    · intro q j hj
      rw [(cell_app (show j < es.length by omega)).1]
      exact q j hj
  cases h1 : isFirst (es ++ [e]) k <;> cases h2 : isFirst es k <;> simp_all
theorem firsts_snoc (es : Es) (e : Nat × W) : firsts (es ++ [e]) = firsts es ++ (if (∃ j, j < es.length ∧ cellAt es j = e.1) then [] else [es.length]) := by
  unfold firsts
  rw [List.length_append, List.length_singleton, List.range_succ, List.filter_append]
  congr 1
  · refine List.filter_congr fun k hk => ?_
    exact isFirst_app (List.mem_range.mp hk)
  · by_cases h : ∃ j, j < es.length ∧ cellAt es j = e.1
    · rw [if_pos h]
      obtain ⟨j, hj, hc⟩ := h
      have : isFirst (es ++ [e]) es.length = false := by
        cases q : isFirst (es ++ [e]) es.length with
        | false => rfl
        | true =>
          rw [isFirst_iff] at q
          have := q j hj
          rw [(cell_app hj).1, (cell_snoc es e).1] at this
          exact absurd hc this
      simp [this]
    · rw [if_neg h]
      have : isFirst (es ++ [e]) es.length = true := by
        rw [isFirst_iff]
        intro j hj q
        rw [(cell_app hj).1, (cell_snoc es e).1] at q
        exact h ⟨j, hj, q⟩
      simp [this]
/-- a first entry of each cell that has one -/
theorem has_first {es : Es} {k : Nat} (h : k < es.length) : ∃ j, j ∈ firsts es ∧ cellAt es j = cellAt es k := by
  have key : ∀ n k, k ≤ n → k < es.length → ∃ j, j ∈ firsts es ∧ cellAt es j = cellAt es k := by
    intro n
    induction n with
    | zero =>
      intro k hk hl
      refine ⟨k, firsts_mem.mpr ⟨hl, fun j hj => by omega⟩, rfl⟩
    | succ n ih =>
      intro k hk hl
      by_cases q : ∀ j, j < k → cellAt es j ≠ cellAt es k
      · exact ⟨k, firsts_mem.mpr ⟨hl, q⟩, rfl⟩
      · have ⟨j, hj⟩ := Classical.not_forall.mp q
        have ⟨hj1, hj2⟩ := Classical.not_imp.mp hj
        have e : cellAt es j = cellAt es k := Classical.not_not.mp hj2
        obtain ⟨i, h1, h2⟩ := ih j (by omega) (by omega)
        exact ⟨i, h1, h2.trans e⟩
  exact key k k (Nat.le_refl _) h
theorem first_one {es : Es} {j k : Nat} (h1 : j ∈ firsts es) (h2 : k ∈ firsts es) (h : cellAt es j = cellAt es k) : j = k := by
  obtain ⟨a1, a2⟩ := firsts_mem.mp h1
  obtain ⟨b1, b2⟩ := firsts_mem.mp h2
  rcases Nat.lt_trichotomy j k with q | q | q
  · exact absurd h (b2 j q)
  · exact q
  · exact absurd h.symm (a2 k q)
def restB (es : Es) (ns : List Nat) : Bool := (firsts es).all fun k => decide (lastOf es ns (cellAt es k) = some k)
theorem restB_iff {es : Es} {ns : List Nat} : restB es ns = true ↔ ∀ k ∈ firsts es, lastOf es ns (cellAt es k) = some k := by
  unfold restB
  rw [List.all_eq_true]
  constructor
  · exact fun h k hk => of_decide_eq_true (h k hk)
  · exact fun h k hk => decide_eq_true (h k hk)
/-! ### what was, what is -/
def Big : W → Prop
  | some n => 1000 ≤ n
  | none => False
structure Hist (u : Bool) (c0 : Cs) (es : Es) (c : Cs) : Prop where
  ok : Ok3 es
  one : ∀ k ∈ firsts es, worthAt es k = c0 (cellAt es k)
  no : ∀ i, i < 3 → (∀ k, k < es.length → cellAt es k ≠ i) → c i = c0 i
  big : u = true → ∀ k, k < es.length → k ∉ firsts es → Big (worthAt es k)
  now : u = true → ∀ k, k < es.length → Big (c (cellAt es k))
theorem Hist.nil (u : Bool) (c0 : Cs) : Hist u c0 [] c0 := by
  refine ⟨fun e he => ?_, fun k hk => ?_, fun _ _ _ => rfl, fun _ k hk => absurd hk (Nat.not_lt_zero _), fun _ k hk => absurd hk (Nat.not_lt_zero _)⟩
  · cases he
  · exact absurd (firsts_mem.mp hk).1 (Nat.not_lt_zero _)
theorem Hist.snoc {u : Bool} {c0 c : Cs} {es : Es} (h : Hist u c0 es c) {i : Nat} (hi : i < 3) {x : W} (hx : u = true → Big x) : Hist u c0 (es ++ [(i, c i)]) (setC c i x) := by
  have mem : ∀ k, k ∈ firsts (es ++ [(i, c i)]) → (k < es.length ∧ k ∈ firsts es) ∨ (k = es.length ∧ ∀ j, j < es.length → cellAt es j ≠ i) := fun k hk => by
    rw [firsts_snoc] at hk
    rcases List.mem_append.mp hk with q | q
    · exact .inl ⟨(firsts_mem.mp q).1, q⟩
    · by_cases z : ∃ j, j < es.length ∧ cellAt es j = (i, c i).1
      · rw [if_pos z] at q
        cases q
      · rw [if_neg z] at q
        exact .inr ⟨List.mem_singleton.mp q, fun j hj e => z ⟨j, hj, e⟩⟩
  have len : (es ++ [(i, c i)]).length = es.length + 1 := by simp
  refine ⟨fun e he => ?_, fun k hk => ?_, fun j hj hn => ?_, fun hu k hk hf => ?_, fun hu k hk => ?_⟩
  · rcases List.mem_append.mp he with q | q
    · exact h.ok e q
    · rw [List.mem_singleton.mp q]
      exact hi
  · rcases mem k hk with ⟨q1, q2⟩ | ⟨q1, q2⟩
    · rw [(cell_app q1).1, (cell_app q1).2]
      exact h.one k q2
    · rw [q1, (cell_snoc _ _).1, (cell_snoc _ _).2]
      exact h.no i hi q2
  · have hij : j ≠ i := fun q => hn es.length (by rw [len]; omega) (by rw [(cell_snoc _ _).1, q])
    unfold setC
    rw [if_neg hij]
    refine h.no j hj fun k hk => ?_
    have := hn k (by rw [len]; omega)
    rwa [(cell_app hk).1] at this
  · rw [len] at hk
    by_cases q : k < es.length
    · rw [(cell_app q).2]
      refine h.big hu k q fun z => hf ?_
      rw [firsts_snoc]
      exact List.mem_append_left _ z
    · have e : k = es.length := by omega
      subst e
      rw [(cell_snoc _ _).2]
      rw [firsts_snoc] at hf
      by_cases z : ∃ j, j < es.length ∧ cellAt es j = (i, c i).1
      · obtain ⟨j, hj, e⟩ := z
        have := h.now hu j hj
        rw [e] at this
        exact this
      · rw [if_neg z] at hf
        exact absurd (List.mem_append_right _ List.mem_cons_self) hf
  · rw [len] at hk
    by_cases q : k < es.length
    · rw [(cell_app q).1]
      unfold setC
      by_cases z : cellAt es k = i
      · rw [if_pos z]
        exact hx hu
      · rw [if_neg z]
        exact h.now hu k q
    · have e : k = es.length := by omega
      subst e
      rw [(cell_snoc _ _).1]
      unfold setC
      rw [if_pos rfl]
      exact hx hu
theorem right_back {u : Bool} {c0 c : Cs} {es : Es} {ns : List Nat} (h : Hist u c0 es c) (hv : ∀ n ∈ ns, n < es.length) (hr : restB es ns = true) : Same (undo c es ns) c0 = true := by
  rw [same_iff]
  intro i hi
  rw [undo_at]
  have hr := restB_iff.mp hr
  by_cases q : ∃ k, k < es.length ∧ cellAt es k = i
  · obtain ⟨k, hk, e⟩ := q
    obtain ⟨j, hj, ej⟩ := has_first hk
    have := hr j hj
    rw [ej, e] at this
    rw [this]
    show worthAt es j = c0 i
    rw [h.one j hj, ej, e]
  · have hn : ∀ k, k < es.length → cellAt es k ≠ i := fun k hk e => q ⟨k, hk, e⟩
    cases hl : lastOf es ns i with
    | none => exact h.no i hi hn
    | some n =>
      obtain ⟨h1, h2⟩ := lastOf_mem hl
      exact absurd h2 (hn n (hv n h1))
theorem wrong_not {c0 c : Cs} {es : Es} {ns : List Nat} (h : Hist true c0 es c) (hv : ∀ n ∈ ns, n < es.length) (h0 : ∀ i, i < 3 → ¬ Big (c0 i)) (hr : restB es ns = false) : Same (undo c es ns) c0 = false := by
  cases hs : Same (undo c es ns) c0 with
  | false => rfl
  | true =>
    have hs := same_iff.mp hs
    have : restB es ns = true := by
      rw [restB_iff]
      intro k hk
      have hkl := (firsts_mem.mp hk).1
      have hc := cell_lt h.ok hkl
      have e := hs _ hc
      rw [undo_at] at e
      cases hl : lastOf es ns (cellAt es k) with
      | none =>
        rw [hl] at e
        have b := h.now rfl k hkl
        rw [show c (cellAt es k) = c0 (cellAt es k) from e] at b
        exact absurd b (h0 _ hc)
      | some n =>
        rw [hl] at e
        obtain ⟨h1, h2⟩ := lastOf_mem hl
        have hn := hv n h1
        by_cases q : n ∈ firsts es
        · rw [first_one q hk h2]
        · have b := h.big rfl n hn q
          rw [show worthAt es n = c0 (cellAt es k) from e] at b
          exact absurd b (h0 _ hc)
    rw [this] at hr
    cases hr
theorem least_rest (es : Es) : restB es (firsts es) = true := by
  rw [restB_iff]
  intro k hk
  have e : ((firsts es).filter fun n => decide (cellAt es n = cellAt es k)) = [k] := by
    have key : ∀ l : List Nat, (∀ n ∈ l, n ∈ firsts es) → l.Nodup → k ∈ l → (l.filter fun n => decide (cellAt es n = cellAt es k)) = [k] := by
      intro l
      induction l with
      | nil => intro _ _ h; cases h
      | cons a r ih =>
        intro h1 h2 h3
        have ha := h1 a List.mem_cons_self
        rw [List.nodup_cons] at h2
        by_cases q : a = k
        · subst q
          rw [List.filter_cons, if_pos (by simp)]
          congr 1
          rw [List.filter_eq_nil_iff]
          intro n hn
          simp only [decide_eq_true_eq]
          intro e
          have := first_one (h1 n (List.mem_cons_of_mem _ hn)) hk e
          rw [this] at hn
          exact h2.1 hn
        · rw [List.filter_cons, if_neg (by
            simp only [decide_eq_true_eq]
            exact fun e => q (first_one ha hk e))]
          refine ih (fun n hn => h1 n (List.mem_cons_of_mem _ hn)) h2.2 ?_
          rcases List.mem_cons.mp h3 with z | z
          · exact absurd z.symm q
          · exact z
    exact key _ (fun n hn => hn) ((List.nodup_range).filter _) hk
  unfold lastOf
  rw [e]
  rfl
/-! ### as the law asks it -/
def own (es : Es) (i : Nat) : List Nat := (List.range es.length).filter fun k => decide (cellAt es k = i)
def hereN (es : Es) (ns : List Nat) (i : Nat) : List Nat := ns.filter fun k => decide (k ∈ own es i)
def badN (es : Es) (ns : List Nat) (i : Nat) : Bool := !decide (own es i = []) && (decide (hereN es ns i = []) || !decide ((hereN es ns i).getLast? = (own es i).head?))
theorem here_is {es : Es} {ns : List Nat} {i : Nat} (hv : ∀ n ∈ ns, n < es.length) : (hereN es ns i).getLast? = lastOf es ns i := by
  unfold hereN lastOf
  congr 1
  refine List.filter_congr fun k hk => ?_
  refine decide_eq_decide.mpr ?_
  unfold own
  rw [List.mem_filter, List.mem_range, decide_eq_true_eq]
  exact ⟨fun h => h.2, fun h => ⟨hv k hk, h⟩⟩
theorem own_head {es : Es} {k : Nat} (hk : k ∈ firsts es) : (own es (cellAt es k)).head? = some k := by
  obtain ⟨h1, h2⟩ := firsts_mem.mp hk
  have e : List.range es.length = List.range k ++ (k :: (List.range' (k + 1) (es.length - (k + 1)))) := by
    have a := List.range'_append_1 (s := 0) (m := k) (n := es.length - k)
    rw [Nat.zero_add, show k + (es.length - k) = es.length by omega, show es.length - k = (es.length - (k + 1)) + 1 by omega, List.range'_succ] at a
    rw [List.range_eq_range', List.range_eq_range', ← a]
  unfold own
  rw [e, List.filter_append]
  have e2 : (List.range k).filter (fun j => decide (cellAt es j = cellAt es k)) = [] := by
    rw [List.filter_eq_nil_iff]
    intro j hj
    simp only [decide_eq_true_eq]
    exact h2 j (List.mem_range.mp hj)
  rw [e2, List.nil_append, List.filter_cons, if_pos (by simp)]
  rfl
theorem rest_law {es : Es} {ns : List Nat} (h3 : Ok3 es) (hv : ∀ n ∈ ns, n < es.length) : restB es ns = !(badN es ns 0 || (badN es ns 1 || badN es ns 2)) := by
  have bad : ∀ i, badN es ns i = true ↔ ∃ k ∈ firsts es, cellAt es k = i ∧ lastOf es ns i ≠ some k := by
    intro i
    unfold badN
    rw [Bool.and_eq_true, Bool.or_eq_true, here_is hv]
    constructor
    · rintro ⟨h1, h2⟩
      have hne : own es i ≠ [] := by simpa using h1
      obtain ⟨k, hk⟩ : ∃ k, k ∈ own es i := by
        cases q : own es i with
        | nil => exact absurd q hne
        | cons a r => exact ⟨a, List.mem_cons_self⟩
      unfold own at hk
      rw [List.mem_filter, List.mem_range, decide_eq_true_eq] at hk
      obtain ⟨j, hj, ej⟩ := has_first hk.1
      have ei : cellAt es j = i := ej.trans hk.2
      refine ⟨j, hj, ei, fun e => ?_⟩
      have oh := own_head hj
      rw [ei] at oh
      rcases h2 with h2 | h2
      · have h2 : hereN es ns i = [] := by simpa using h2
        have := here_is (es := es) (i := i) hv
        rw [h2, e] at this
        cases this
      · rw [e, oh] at h2
        simp at h2
    · rintro ⟨k, hk, ei, hl⟩
      have oh := own_head hk
      rw [ei] at oh
      refine ⟨?_, ?_⟩
      · cases q : own es i with
        | nil =>
          rw [q] at oh
          cases oh
        | cons a r => simp
      · rw [oh]
        exact .inr (by simp [hl])
  cases hr : restB es ns with
  | true =>
    have hr := restB_iff.mp hr
    have no : ∀ i, badN es ns i = false := fun i => by
      cases q : badN es ns i with
      | false => rfl
      | true =>
        obtain ⟨k, hk, ei, hl⟩ := (bad i).mp q
        rw [← ei] at hl
        exact absurd (hr k hk) hl
    rw [no, no, no]
    rfl
  | false =>
    have : ∃ k ∈ firsts es, lastOf es ns (cellAt es k) ≠ some k := by
      apply Classical.byContradiction
      intro q
      have : restB es ns = true := by
        rw [restB_iff]
        intro k hk
        apply Classical.byContradiction
        intro z
        exact q ⟨k, hk, z⟩
      rw [this] at hr
      cases hr
    obtain ⟨k, hk, hl⟩ := this
    have b := (bad (cellAt es k)).mpr ⟨k, hk, rfl, hl⟩
    have hc := cell_lt h3 (firsts_mem.mp hk).1
    rcases three hc with q | q | q <;> rw [q] at b <;> rw [b] <;> simp
end LG

set_option Elab.async false
set_option linter.all false
set_option maxRecDepth 100000
set_option maxHeartbeats 4000000
/-! How many orders restore. -/
namespace LO
open LG
def fac : Nat → Nat
  | 0 => 1
  | n + 1 => (n + 1) * fac n
def rem1 (m : Nat) : Nat := if m = 0 then 0 else if m = 1 then 1 else m - 1
def cntF : Nat → Nat → Nat → Nat → Nat
  | 0, _, _, _ => 1
  | n + 1, a, b, c => rem1 a * cntF n (a - 1) b c + (rem1 b * cntF n a (b - 1) c + rem1 c * cntF n a b (c - 1))
def mx (m : Nat) : Nat := if m = 0 then 1 else m
theorem cnt_prod : ∀ a : Fin 7, ∀ b : Fin 7, ∀ c : Fin 7, a.1 + b.1 + c.1 ≤ 6 → cntF (a.1 + b.1 + c.1) a.1 b.1 c.1 * mx a.1 * mx b.1 * mx c.1 = fac (a.1 + b.1 + c.1) := by decide +kernel
def ordersL : Nat → List Nat → List (List Nat)
  | 0, _ => [[]]
  | n + 1, L => (List.range L.length).flatMap fun i => (ordersL n (L.eraseIdx i)).map (L.getD i 0 :: ·)
theorem pick_perm {L : List Nat} {i : Nat} (h : i < L.length) : (L.getD i 0 :: L.eraseIdx i).Perm L := by
  have e : L.getD i 0 = L[i] := by rw [List.getD_eq_getElem?_getD, List.getElem?_eq_getElem h]; rfl
  rw [e, List.eraseIdx_eq_take_drop_succ]
  have e2 : L = L.take i ++ L[i] :: L.drop (i + 1) := by
    rw [List.getElem_cons_drop, List.take_append_drop]
  conv => rhs; rw [e2]
  exact List.perm_middle.symm
theorem orders_perm : ∀ (n : Nat) (L : List Nat), L.length = n → ∀ o ∈ ordersL n L, o.Perm L
  | 0, L, h, o, ho => by
    rw [List.length_eq_zero_iff.mp h]
    rw [List.mem_singleton.mp ho]
  | n + 1, L, h, o, ho => by
    unfold ordersL at ho
    obtain ⟨i, hi, h2⟩ := List.mem_flatMap.mp ho
    obtain ⟨o', h3, rfl⟩ := List.mem_map.mp h2
    have hi := List.mem_range.mp hi
    have le : (L.eraseIdx i).length = n := by rw [List.length_eraseIdx_of_lt hi, h]; rfl
    exact (List.Perm.cons _ (orders_perm n _ le o' h3)).trans (pick_perm hi)
theorem perm_orders : ∀ (n : Nat) (L : List Nat), L.length = n → ∀ o, o.Perm L → o ∈ ordersL n L
  | 0, L, h, o, ho => by
    have : o.length = 0 := by rw [ho.length_eq, h]
    rw [List.length_eq_zero_iff.mp this]
    exact List.mem_singleton.mpr rfl
  | n + 1, L, h, o, ho => by
    cases o with
    | nil =>
      have := ho.length_eq
      rw [h] at this
      cases this
    | cons x r =>
      have hx : x ∈ L := ho.subset List.mem_cons_self
      obtain ⟨i, hi, e⟩ := List.getElem_of_mem hx
      have e2 : L.getD i 0 = x := by rw [List.getD_eq_getElem?_getD, List.getElem?_eq_getElem hi, e]; rfl
      have p := pick_perm hi
      rw [e2] at p
      have le : (L.eraseIdx i).length = n := by rw [List.length_eraseIdx_of_lt hi, h]; rfl
      unfold ordersL
      exact List.mem_flatMap.mpr ⟨i, List.mem_range.mpr hi, List.mem_map.mpr ⟨r, perm_orders n _ le r (List.Perm.cons_inv (ho.trans p.symm)), by rw [e2]⟩⟩
theorem sum_const {α : Type} (l : List α) (f : α → Nat) (k : Nat) (h : ∀ x ∈ l, f x = k) : (l.map f).sum = l.length * k := by
  induction l with
  | nil => simp
  | cons a r ih =>
    rw [List.map_cons, List.sum_cons, h a List.mem_cons_self, ih fun x hx => h x (List.mem_cons_of_mem _ hx), List.length_cons, Nat.add_mul]
    omega
theorem orders_len : ∀ (n : Nat) (L : List Nat), L.length = n → (ordersL n L).length = fac n
  | 0, L, _ => rfl
  | n + 1, L, h => by
    unfold ordersL
    rw [List.length_flatMap, sum_const _ _ (fac n) fun i hi => ?_, List.length_range, h]
    · rfl
    · have hi := List.mem_range.mp hi
      rw [List.length_map]
      exact orders_len n _ (by rw [List.length_eraseIdx_of_lt hi, h]; rfl)
section
variable (cell tgt : Nat → Nat)
def has (L : List Nat) (i : Nat) : Bool := L.any fun x => decide (cell x = i)
def lastC (o : List Nat) (i : Nat) : Option Nat := (o.filter fun x => decide (cell x = i)).getLast?
def okI (L o : List Nat) (i : Nat) : Bool := !has cell L i || decide (lastC cell o i = some (tgt i))
def okL (L o : List Nat) : Bool := okI cell tgt L o 0 && (okI cell tgt L o 1 && okI cell tgt L o 2)
def mC (L : List Nat) (i : Nat) : Nat := (L.filter fun x => decide (cell x = i)).length
structure Fine (L : List Nat) : Prop where
  nd : L.Nodup
  lt : ∀ x ∈ L, cell x < 3
  tg : ∀ x ∈ L, tgt (cell x) ∈ L ∧ cell (tgt (cell x)) = cell x
variable {cell tgt}
theorem has_iff {L : List Nat} {i : Nat} : has cell L i = true ↔ ∃ y ∈ L, cell y = i := by
  unfold has
  rw [List.any_eq_true]
  constructor
  · exact fun ⟨y, h, e⟩ => ⟨y, h, of_decide_eq_true e⟩
  · exact fun ⟨y, h, e⟩ => ⟨y, h, decide_eq_true e⟩
theorem last_cons (x : Nat) (o : List Nat) (i : Nat) : lastC cell (x :: o) i = if cell x = i then (match lastC cell o i with | some y => some y | none => some x) else lastC cell o i := by
  unfold lastC
  by_cases h : cell x = i
  · rw [if_pos h, List.filter_cons_of_pos (by simp [h])]
    cases q : o.filter fun x => decide (cell x = i) with
    | nil => rfl
    | cons a r =>
      rw [List.getLast?_cons_cons]
      cases q2 : (a :: r).getLast? with
      | none => simp at q2
      | some y => rfl
  · rw [if_neg h, List.filter_cons_of_neg (by simp [h])]
theorem last_mem {o : List Nat} {i y : Nat} (h : lastC cell o i = some y) : y ∈ o ∧ cell y = i := by
  have := List.mem_of_getLast? h
  rw [List.mem_filter] at this
  exact ⟨this.1, of_decide_eq_true this.2⟩
theorem last_none {o : List Nat} {i : Nat} : lastC cell o i = none ↔ ∀ y ∈ o, cell y ≠ i := by
  unfold lastC
  rw [List.getLast?_eq_none_iff, List.filter_eq_nil_iff]
  constructor
  · exact fun h y hy e => h y hy (decide_eq_true e)
  · exact fun h y hy e => h y hy (of_decide_eq_true e)
theorem m_cons {L L' : List Nat} {x : Nat} (p : (x :: L').Perm L) (i : Nat) : mC cell L i = (if cell x = i then 1 else 0) + mC cell L' i := by
  unfold mC
  rw [← (p.filter _).length_eq]
  by_cases h : cell x = i
  · rw [if_pos h, List.filter_cons_of_pos (by simp [h]), List.length_cons]
    omega
  · rw [if_neg h, List.filter_cons_of_neg (by simp [h])]
    omega
theorem m_zero {L : List Nat} {i : Nat} : mC cell L i = 0 ↔ ∀ y ∈ L, cell y ≠ i := by
  unfold mC
  rw [List.length_eq_zero_iff, List.filter_eq_nil_iff]
  constructor
  · exact fun h y hy e => h y hy (decide_eq_true e)
  · exact fun h y hy e => h y hy (of_decide_eq_true e)
def bad (cell tgt : Nat → Nat) (L : List Nat) (x : Nat) : Prop := 2 ≤ mC cell L (cell x) ∧ x = tgt (cell x)
instance (L : List Nat) (x : Nat) : Decidable (bad cell tgt L x) := by unfold bad; infer_instance
theorem okI_other {L L' o : List Nat} {x i : Nat} (p : (x :: L').Perm L) (h : cell x ≠ i) : okI cell tgt L (x :: o) i = okI cell tgt L' o i := by
  have e : has cell L i = has cell L' i := by
    refine Bool.eq_iff_iff.mpr ?_
    rw [has_iff, has_iff]
    constructor
    · rintro ⟨y, hy, e⟩
      rcases List.mem_cons.mp (p.symm.subset hy) with q | q
      · exact absurd (q ▸ e) h
      · exact ⟨y, q, e⟩
    · rintro ⟨y, hy, e⟩
      exact ⟨y, p.subset (List.mem_cons_of_mem _ hy), e⟩
  unfold okI
  rw [e, last_cons, if_neg h]
theorem okI_own {L L' o : List Nat} {x : Nat} (F : Fine cell tgt L) (p : (x :: L').Perm L) (po : o.Perm L') : okI cell tgt L (x :: o) (cell x) = if bad cell tgt L x then false else okI cell tgt L' o (cell x) := by
  have hx : x ∈ L := p.subset List.mem_cons_self
  have nd : (x :: L').Nodup := p.symm.nodup F.nd
  have nx : x ∉ L' := (List.nodup_cons.mp nd).1
  have hh : has cell L (cell x) = true := has_iff.mpr ⟨x, hx, rfl⟩
  have mm := m_cons (cell := cell) p (cell x)
  rw [if_pos rfl] at mm
  obtain ⟨t1, t2⟩ := F.tg x hx
  unfold okI
  rw [hh, last_cons, if_pos rfl]
  cases hl : lastC cell o (cell x) with
  | none =>
    have hn := last_none.mp hl
    have hn2 : ∀ y ∈ L', cell y ≠ cell x := fun y hy => hn y (po.symm.subset hy)
    have m0 := m_zero.mpr hn2
    have tx : x = tgt (cell x) := by
      rcases List.mem_cons.mp (p.symm.subset t1) with q | q
      · exact q.symm
      · exact absurd t2 (hn2 _ q)
    have h0 : has cell L' (cell x) = false := by
      cases q : has cell L' (cell x) with
      | false => rfl
      | true =>
        obtain ⟨y, hy, e⟩ := has_iff.mp q
        exact absurd e (hn2 y hy)
    rw [if_neg (fun b : bad cell tgt L x => by have := b.1; omega), h0]
    show (!true || decide (some x = some (tgt (cell x)))) = _
    rw [← tx, decide_eq_true rfl]
    rfl
  | some y =>
    obtain ⟨hy, ey⟩ := last_mem hl
    have hy2 := po.subset hy
    have h1 : has cell L' (cell x) = true := has_iff.mpr ⟨y, hy2, ey⟩
    have m1 : mC cell L' (cell x) ≠ 0 := fun z => m_zero.mp z y hy2 ey
    rw [h1]
    by_cases tx : x = tgt (cell x)
    · rw [if_pos (show bad cell tgt L x from ⟨by omega, tx⟩)]
      show (!true || decide (some y = some (tgt (cell x)))) = false
      rw [decide_eq_false]
      · rfl
      · intro e
        have : y = x := by rw [Option.some.inj e, ← tx]
        rw [this] at hy2
        exact nx hy2
    · rw [if_neg (fun b : bad cell tgt L x => tx b.2)]
theorem okL_step {L L' o : List Nat} {x : Nat} (F : Fine cell tgt L) (p : (x :: L').Perm L) (po : o.Perm L') : okL cell tgt L (x :: o) = if bad cell tgt L x then false else okL cell tgt L' o := by
  have hx : x ∈ L := p.subset List.mem_cons_self
  have own := okI_own F p po
  unfold okL
  rcases three (F.lt x hx) with e | e | e
  · rw [e] at own
    rw [own, okI_other p (by omega), okI_other p (by omega)]
    split <;> simp
  · rw [e] at own
    rw [own, okI_other p (by omega), okI_other p (by omega)]
    split <;> simp
  · rw [e] at own
    rw [own, okI_other p (by omega), okI_other p (by omega)]
    split <;> simp
theorem fine_step {L L' : List Nat} {x : Nat} (F : Fine cell tgt L) (p : (x :: L').Perm L) (nb : ¬ bad cell tgt L x) : Fine cell tgt L' := by
  have nd : (x :: L').Nodup := p.symm.nodup F.nd
  have sub : ∀ y ∈ L', y ∈ L := fun y hy => p.subset (List.mem_cons_of_mem _ hy)
  refine ⟨(List.nodup_cons.mp nd).2, fun y hy => F.lt y (sub y hy), fun y hy => ?_⟩
  obtain ⟨t1, t2⟩ := F.tg y (sub y hy)
  refine ⟨?_, t2⟩
  rcases List.mem_cons.mp (p.symm.subset t1) with q | q
  · exfalso
    have ex : cell x = cell y := by rw [← q, t2]
    have mm := m_cons (cell := cell) p (cell x)
    rw [if_pos rfl] at mm
    have m1 : mC cell L' (cell x) ≠ 0 := fun z => m_zero.mp z y hy ex.symm
    exact nb ⟨by omega, by rw [ex]; exact q.symm⟩
  · exact q
theorem sum_split (h : Nat → Nat) : ∀ L : List Nat, (∀ x ∈ L, cell x < 3) → (L.map h).sum = ((L.filter fun x => decide (cell x = 0)).map h).sum + (((L.filter fun x => decide (cell x = 1)).map h).sum + ((L.filter fun x => decide (cell x = 2)).map h).sum)
  | [], _ => rfl
  | x :: r, hl => by
    have ih := sum_split h r fun y hy => hl y (List.mem_cons_of_mem _ hy)
    rw [List.map_cons, List.sum_cons, ih]
    rcases three (hl x List.mem_cons_self) with e | e | e
    · rw [List.filter_cons_of_pos (by simp [e]), List.filter_cons_of_neg (by simp [e]), List.filter_cons_of_neg (by simp [e]), List.map_cons, List.sum_cons]
      omega
    · rw [List.filter_cons_of_neg (by simp [e]), List.filter_cons_of_pos (by simp [e]), List.filter_cons_of_neg (by simp [e]), List.map_cons, List.sum_cons]
      omega
    · rw [List.filter_cons_of_neg (by simp [e]), List.filter_cons_of_neg (by simp [e]), List.filter_cons_of_pos (by simp [e]), List.map_cons, List.sum_cons]
      omega
theorem sum_but (t g : Nat) : ∀ M : List Nat, M.Nodup → t ∈ M → (M.map fun x => if x = t then 0 else g).sum = (M.length - 1) * g
  | [], _, h => nomatch h
  | x :: r, nd, h => by
    obtain ⟨nx, nr⟩ := List.nodup_cons.mp nd
    rw [List.map_cons, List.sum_cons, List.length_cons, Nat.add_sub_cancel]
    by_cases e : x = t
    · rw [if_pos e, sum_const r _ g fun y hy => ?_]
      · omega
      · exact if_neg fun q => nx (by rw [e, ← q]; exact hy)
    · rw [if_neg e]
      have ht : t ∈ r := by
        rcases List.mem_cons.mp h with q | q
        · exact absurd q.symm e
        · exact q
      rw [sum_but t g r nr ht]
      have : 0 < r.length := List.length_pos_of_mem ht
      obtain ⟨k, hk⟩ : ∃ k, r.length = k + 1 := ⟨r.length - 1, by omega⟩
      rw [hk, Nat.add_sub_cancel, Nat.add_mul]
      omega
theorem sum_own {L : List Nat} (F : Fine cell tgt L) (i g : Nat) (h : Nat → Nat) (hh : ∀ x ∈ L, cell x = i → h x = if bad cell tgt L x then 0 else g) : ((L.filter fun x => decide (cell x = i)).map h).sum = rem1 (mC cell L i) * g := by
  have hm : ∀ x ∈ L.filter fun x => decide (cell x = i), x ∈ L ∧ cell x = i := fun x hx => by
    rw [List.mem_filter] at hx
    exact ⟨hx.1, of_decide_eq_true hx.2⟩
  have nd := F.nd.filter (p := fun x => decide (cell x = i))
  have em : mC cell L i = (L.filter fun x => decide (cell x = i)).length := rfl
  unfold rem1
  by_cases z : mC cell L i = 0
  · rw [if_pos z]
    rw [em] at z
    rw [List.length_eq_zero_iff.mp z]
    simp
  · rw [if_neg z]
    by_cases z1 : mC cell L i = 1
    · rw [if_pos z1, sum_const _ h g fun x hx => ?_, ← em, z1]
      obtain ⟨h1, h2⟩ := hm x hx
      rw [hh x h1 h2, if_neg]
      intro b
      have := b.1
      rw [h2] at this
      omega
    · rw [if_neg z1]
      have ne : (L.filter fun x => decide (cell x = i)) ≠ [] := fun q => z (by rw [em, q]; rfl)
      obtain ⟨x0, hx0⟩ := List.exists_mem_of_ne_nil _ ne
      obtain ⟨a1, a2⟩ := hm x0 hx0
      obtain ⟨t1, t2⟩ := F.tg x0 a1
      rw [a2] at t1 t2
      have ht : tgt i ∈ L.filter fun x => decide (cell x = i) := List.mem_filter.mpr ⟨t1, decide_eq_true t2⟩
      rw [em, ← sum_but (tgt i) g _ nd ht]
      congr 1
      refine List.map_congr_left fun x hx => ?_
      obtain ⟨h1, h2⟩ := hm x hx
      rw [hh x h1 h2]
      by_cases q : x = tgt i
      · rw [if_pos q, if_pos ⟨by rw [h2]; omega, by rw [h2]; exact q⟩]
      · rw [if_neg q, if_neg fun b => q (by have := b.2; rwa [h2] at this)]
theorem range_getD (L : List Nat) (h : Nat → Nat) : ((List.range L.length).map fun i => h (L.getD i 0)) = L.map h := by
  refine List.ext_getElem? fun i => ?_
  rw [List.getElem?_map, List.getElem?_map]
  by_cases q : i < L.length
  · rw [List.getElem?_range q, List.getElem?_eq_getElem q]
    simp [List.getD_eq_getElem?_getD, q]
  · rw [List.getElem?_eq_none (by rw [List.length_range]; omega), List.getElem?_eq_none (by omega)]
    rfl
theorem count_ok : ∀ (n : Nat) (L : List Nat), L.length = n → Fine cell tgt L → (ordersL n L).countP (okL cell tgt L) = cntF n (mC cell L 0) (mC cell L 1) (mC cell L 2)
  | 0, L, h, F => by
    rw [List.length_eq_zero_iff.mp h]
    rfl
  | n + 1, L, h, F => by
    have turn : ∀ i ∈ List.range L.length, (ordersL n (L.eraseIdx i)).countP (fun o => okL cell tgt L (L.getD i 0 :: o)) = (fun x => if bad cell tgt L x then 0 else cntF n (mC cell L 0 - if cell x = 0 then 1 else 0) (mC cell L 1 - if cell x = 1 then 1 else 0) (mC cell L 2 - if cell x = 2 then 1 else 0)) (L.getD i 0) := fun i hi => by
      have hi := List.mem_range.mp hi
      have le : (L.eraseIdx i).length = n := by rw [List.length_eraseIdx_of_lt hi, h]; rfl
      have p := pick_perm hi
      generalize L.getD i 0 = x at p
      have mm := m_cons (cell := cell) p
      have hp := orders_perm n _ le
      generalize L.eraseIdx i = L' at p mm hp le
      dsimp only
      by_cases b : bad cell tgt L x
      · rw [if_pos b, List.countP_eq_zero]
        intro o ho
        rw [okL_step F p (hp o ho), if_pos b]
        exact Bool.false_ne_true
      · rw [if_neg b]
        have ih := count_ok n L' le (fine_step F p b)
        have e0 : mC cell L' 0 = mC cell L 0 - if cell x = 0 then 1 else 0 := by rw [mm 0]; omega
        have e1 : mC cell L' 1 = mC cell L 1 - if cell x = 1 then 1 else 0 := by rw [mm 1]; omega
        have e2 : mC cell L' 2 = mC cell L 2 - if cell x = 2 then 1 else 0 := by rw [mm 2]; omega
        rw [← e0, ← e1, ← e2, ← ih]
        refine List.countP_congr fun o ho => ?_
        rw [okL_step F p (hp o ho), if_neg b]
    unfold ordersL
    rw [List.countP_flatMap]
    have e : ((List.range L.length).map (List.countP (okL cell tgt L) ∘ fun i => (ordersL n (L.eraseIdx i)).map (L.getD i 0 :: ·))) = (List.range L.length).map fun i => (fun x => if bad cell tgt L x then 0 else cntF n (mC cell L 0 - if cell x = 0 then 1 else 0) (mC cell L 1 - if cell x = 1 then 1 else 0) (mC cell L 2 - if cell x = 2 then 1 else 0)) (L.getD i 0) := by
      refine List.map_congr_left fun i hi => ?_
      rw [← turn i hi, Function.comp, List.countP_map]
      rfl
    rw [e, range_getD L (fun x => if bad cell tgt L x then 0 else cntF n (mC cell L 0 - if cell x = 0 then 1 else 0) (mC cell L 1 - if cell x = 1 then 1 else 0) (mC cell L 2 - if cell x = 2 then 1 else 0)), sum_split (cell := cell) _ L F.lt]
    rw [sum_own F 0 (cntF n (mC cell L 0 - 1) (mC cell L 1) (mC cell L 2)) _ fun x hx hc => by simp [hc], sum_own F 1 (cntF n (mC cell L 0) (mC cell L 1 - 1) (mC cell L 2)) _ fun x hx hc => by simp [hc], sum_own F 2 (cntF n (mC cell L 0) (mC cell L 1) (mC cell L 2 - 1)) _ fun x hx hc => by simp [hc]]
    rfl
end
end LO

set_option Elab.async false
set_option linter.all false
set_option maxRecDepth 100000
set_option maxHeartbeats 4000000
/-! What was, what is, for worths told apart by any word; orders of the numbers 0 .. n - 1. -/
namespace LO
open LG
structure HistB (B : W → Prop) (u : Bool) (c0 : Cs) (es : Es) (c : Cs) : Prop where
  ok : Ok3 es
  one : ∀ k ∈ firsts es, worthAt es k = c0 (cellAt es k)
  no : ∀ i, i < 3 → (∀ k, k < es.length → cellAt es k ≠ i) → c i = c0 i
  big : u = true → ∀ k, k < es.length → k ∉ firsts es → B (worthAt es k)
  now : u = true → ∀ k, k < es.length → B (c (cellAt es k))
theorem HistB.nil {B : W → Prop} (u : Bool) (c0 : Cs) : HistB B u c0 [] c0 := by
  refine ⟨fun e he => ?_, fun k hk => ?_, fun _ _ _ => rfl, fun _ k hk => absurd hk (Nat.not_lt_zero _), fun _ k hk => absurd hk (Nat.not_lt_zero _)⟩
  · cases he
  · exact absurd (firsts_mem.mp hk).1 (Nat.not_lt_zero _)
theorem HistB.snoc {B : W → Prop} {u : Bool} {c0 c : Cs} {es : Es} (h : HistB B u c0 es c) {i : Nat} (hi : i < 3) {x : W} (hx : u = true → B x) : HistB B u c0 (es ++ [(i, c i)]) (setC c i x) := by
  have mem : ∀ k, k ∈ firsts (es ++ [(i, c i)]) → (k < es.length ∧ k ∈ firsts es) ∨ (k = es.length ∧ ∀ j, j < es.length → cellAt es j ≠ i) := fun k hk => by
    rw [firsts_snoc] at hk
    rcases List.mem_append.mp hk with q | q
    · exact .inl ⟨(firsts_mem.mp q).1, q⟩
    · by_cases z : ∃ j, j < es.length ∧ cellAt es j = (i, c i).1
      · rw [if_pos z] at q
        cases q
      · rw [if_neg z] at q
        exact .inr ⟨List.mem_singleton.mp q, fun j hj e => z ⟨j, hj, e⟩⟩
  have len : (es ++ [(i, c i)]).length = es.length + 1 := by simp
  refine ⟨fun e he => ?_, fun k hk => ?_, fun j hj hn => ?_, fun hu k hk hf => ?_, fun hu k hk => ?_⟩
  · rcases List.mem_append.mp he with q | q
    · exact h.ok e q
    · rw [List.mem_singleton.mp q]
      exact hi
  · rcases mem k hk with ⟨q1, q2⟩ | ⟨q1, q2⟩
    · rw [(cell_app q1).1, (cell_app q1).2]
      exact h.one k q2
    · rw [q1, (cell_snoc _ _).1, (cell_snoc _ _).2]
      exact h.no i hi q2
  · have hij : j ≠ i := fun q => hn es.length (by rw [len]; omega) (by rw [(cell_snoc _ _).1, q])
    unfold setC
    rw [if_neg hij]
    refine h.no j hj fun k hk => ?_
    have := hn k (by rw [len]; omega)
    rwa [(cell_app hk).1] at this
  · rw [len] at hk
    by_cases q : k < es.length
    · rw [(cell_app q).2]
      refine h.big hu k q fun z => hf ?_
      rw [firsts_snoc]
      exact List.mem_append_left _ z
    · have e : k = es.length := by omega
      subst e
      rw [(cell_snoc _ _).2]
      rw [firsts_snoc] at hf
      by_cases z : ∃ j, j < es.length ∧ cellAt es j = (i, c i).1
      · obtain ⟨j, hj, e⟩ := z
        have := h.now hu j hj
        rw [e] at this
        exact this
      · rw [if_neg z] at hf
        exact absurd (List.mem_append_right _ List.mem_cons_self) hf
  · rw [len] at hk
    by_cases q : k < es.length
    · rw [(cell_app q).1]
      unfold setC
      by_cases z : cellAt es k = i
      · rw [if_pos z]
        exact hx hu
      · rw [if_neg z]
        exact h.now hu k q
    · have e : k = es.length := by omega
      subst e
      rw [(cell_snoc _ _).1]
      unfold setC
      rw [if_pos rfl]
      exact hx hu
theorem right_backB {B : W → Prop} {u : Bool} {c0 c : Cs} {es : Es} {ns : List Nat} (h : HistB B u c0 es c) (hv : ∀ n ∈ ns, n < es.length) (hr : restB es ns = true) : Same (undo c es ns) c0 = true := by
  rw [same_iff]
  intro i hi
  rw [undo_at]
  have hr := restB_iff.mp hr
  by_cases q : ∃ k, k < es.length ∧ cellAt es k = i
  · obtain ⟨k, hk, e⟩ := q
    obtain ⟨j, hj, ej⟩ := has_first hk
    have := hr j hj
    rw [ej, e] at this
    rw [this]
    show worthAt es j = c0 i
    rw [h.one j hj, ej, e]
  · have hn : ∀ k, k < es.length → cellAt es k ≠ i := fun k hk e => q ⟨k, hk, e⟩
    cases hl : lastOf es ns i with
    | none => exact h.no i hi hn
    | some n =>
      obtain ⟨h1, h2⟩ := lastOf_mem hl
      exact absurd h2 (hn n (hv n h1))
theorem wrong_notB {B : W → Prop} {c0 c : Cs} {es : Es} {ns : List Nat} (h : HistB B true c0 es c) (hv : ∀ n ∈ ns, n < es.length) (h0 : ∀ i, i < 3 → ¬ B (c0 i)) (hr : restB es ns = false) : Same (undo c es ns) c0 = false := by
  cases hs : Same (undo c es ns) c0 with
  | false => rfl
  | true =>
    have hs := same_iff.mp hs
    have : restB es ns = true := by
      rw [restB_iff]
      intro k hk
      have hkl := (firsts_mem.mp hk).1
      have hc := cell_lt h.ok hkl
      have e := hs _ hc
      rw [undo_at] at e
      cases hl : lastOf es ns (cellAt es k) with
      | none =>
        rw [hl] at e
        have b := h.now rfl k hkl
        rw [show c (cellAt es k) = c0 (cellAt es k) from e] at b
        exact absurd b (h0 _ hc)
      | some n =>
        rw [hl] at e
        obtain ⟨h1, h2⟩ := lastOf_mem hl
        have hn := hv n h1
        by_cases q : n ∈ firsts es
        · rw [first_one q hk h2]
        · have b := h.big rfl n hn q
          rw [show worthAt es n = c0 (cellAt es k) from e] at b
          exact absurd b (h0 _ hc)
    rw [this] at hr
    cases hr

/-! ### orders that restore, counted -/
def tgtE (es : Es) (i : Nat) : Nat := ((own es i).head?).getD 0
def mE (es : Es) (i : Nat) : Nat := mC (cellAt es) (List.range es.length) i
theorem mE_own (es : Es) (i : Nat) : mE es i = (own es i).length := rfl
theorem fine_E {es : Es} (h3 : Ok3 es) : Fine (cellAt es) (tgtE es) (List.range es.length) := by
  refine ⟨List.nodup_range, fun x hx => cell_lt h3 (List.mem_range.mp hx), fun x hx => ?_⟩
  obtain ⟨j, hj, e⟩ := has_first (List.mem_range.mp hx)
  have h := own_head hj
  rw [e] at h
  unfold tgtE
  rw [h]
  exact ⟨List.mem_range.mpr (firsts_mem.mp hj).1, e⟩
theorem ok_rest {es : Es} (h3 : Ok3 es) (o : List Nat) : okL (cellAt es) (tgtE es) (List.range es.length) o = restB es o := by
  have one : ∀ i, okI (cellAt es) (tgtE es) (List.range es.length) o i = true ↔ ∀ k ∈ LG.firsts es, cellAt es k = i → lastOf es o i = some k := fun i => by
    unfold okI
    rw [Bool.or_eq_true, Bool.not_eq_true']
    constructor
    · rintro (h | h) k hk e
      · have : has (cellAt es) (List.range es.length) i = true := has_iff.mpr ⟨k, List.mem_range.mpr (firsts_mem.mp hk).1, e⟩
        rw [h] at this
        cases this
      · have ht := own_head hk
        rw [e] at ht
        have h := of_decide_eq_true h
        unfold tgtE at h
        rw [ht] at h
        exact h
    · intro h
      by_cases q : has (cellAt es) (List.range es.length) i = true
      · obtain ⟨x, hx, e⟩ := has_iff.mp q
        obtain ⟨j, hj, e2⟩ := has_first (List.mem_range.mp hx)
        have ht := own_head hj
        rw [e2, e] at ht
        refine .inr (decide_eq_true ?_)
        unfold tgtE
        rw [ht]
        exact h j hj (by rw [e2, e])
      · exact .inl (by simpa using q)
  refine Bool.eq_iff_iff.mpr ?_
  unfold okL
  rw [Bool.and_eq_true, Bool.and_eq_true, one 0, one 1, one 2, restB_iff]
  constructor
  · rintro ⟨h0, h1, h2⟩ k hk
    rcases three (cell_lt h3 (firsts_mem.mp hk).1) with e | e | e
    · rw [e]; exact h0 k hk e
    · rw [e]; exact h1 k hk e
    · rw [e]; exact h2 k hk e
  · intro h
    exact ⟨fun k hk e => e ▸ h k hk, fun k hk e => e ▸ h k hk, fun k hk e => e ▸ h k hk⟩
def every (es : Es) : List (List Nat) := ordersL es.length (List.range es.length)
def howmany (es : Es) : Nat := cntF es.length (mE es 0) (mE es 1) (mE es 2)
theorem count_rest {es : Es} (h3 : Ok3 es) : ((every es).filter fun o => restB es o).length = howmany es := by
  rw [← List.countP_eq_length_filter]
  have := count_ok es.length (List.range es.length) List.length_range (fine_E h3)
  unfold every howmany mE
  rw [← this]
  refine List.countP_congr fun o _ => ?_
  rw [ok_rest h3]
theorem m_sum {es : Es} (h3 : Ok3 es) : mE es 0 + mE es 1 + mE es 2 = es.length := by
  have := sum_split (cell := cellAt es) (fun _ => 1) (List.range es.length) (fun x hx => cell_lt h3 (List.mem_range.mp hx))
  have c : ∀ l : List Nat, (l.map fun _ => 1).sum = l.length := fun l => by rw [sum_const l _ 1 fun _ _ => rfl, Nat.mul_one]
  rw [c, c, c, c, List.length_range] at this
  unfold mE mC
  omega
theorem prod_all {es : Es} (h3 : Ok3 es) (le : es.length ≤ 6) : howmany es * mx (mE es 0) * mx (mE es 1) * mx (mE es 2) = fac es.length := by
  have s := m_sum h3
  have := cnt_prod ⟨mE es 0, by omega⟩ ⟨mE es 1, by omega⟩ ⟨mE es 2, by omega⟩ (by show mE es 0 + mE es 1 + mE es 2 ≤ 6; omega)
  dsimp only at this
  rw [s] at this
  exact this
theorem div_step : ∀ a : Fin 7, ∀ b : Fin 7, ∀ c : Fin 7, a.1 + b.1 + c.1 ≤ 6 →
    (fac (a.1 + b.1 + c.1) / mx a.1 / mx b.1 / mx c.1 = cntF (a.1 + b.1 + c.1) a.1 b.1 c.1) := by decide +kernel
theorem len_every (es : Es) : (every es).length = fac es.length := orders_len _ _ List.length_range
theorem every_perm {es : Es} {o : List Nat} (h : o ∈ every es) : o.Perm (List.range es.length) := orders_perm _ _ List.length_range o h
theorem every_lt {es : Es} {o : List Nat} (h : o ∈ every es) : (∀ n ∈ o, n < es.length) ∧ o.length = es.length := by
  have p := every_perm h
  exact ⟨fun n hn => List.mem_range.mp (p.subset hn), by rw [p.length_eq, List.length_range]⟩
theorem rev_every (es : Es) : (List.range es.length).reverse ∈ every es := perm_orders _ _ List.length_range _ (List.reverse_perm _)
theorem rev_rest (es : Es) : restB es (List.range es.length).reverse = true := by
  rw [restB_iff]
  intro k hk
  have h := own_head hk
  unfold lastOf
  rw [List.filter_reverse, List.getLast?_reverse]
  exact h
end LO

set_option Elab.async false
set_option linter.all false
set_option maxRecDepth 100000
set_option maxHeartbeats 4000000
/-! list.count of texts; math.factorial. -/
namespace LX
open PySem PySem.Spec PyProof.Rows L2
def rCntS (K : PySem.W.Frag) : V → List V → Hp → VK → Prop := fun x xs H Q => ∃ (p : Addr) (zs : List Str) (z : Str), x = .ref p ∧ xs = [.str z] ∧ SqL K H p (zs.map V.str) ∧ Q (.int ((zs.count z : Nat) : Int)) H
theorem strs_are : ∀ {zs : List Str} {us : List Value}, Vals (zs.map V.str) us → StrsAre us zs
  | [], _, h => by
    cases h
    exact .nil
  | z :: r, _, h => by
    cases h with
    | cons a b =>
      obtain ⟨t, rfl⟩ := a
      exact .cons z t (strs_are b)
theorem countIn_strs (z : Str) : ∀ zs : List Str, countIn (.str z) (zs.map PyData.str) = ((zs.count z : Nat) : Int)
  | [] => rfl
  | a :: r => by
    rw [List.map_cons, countIn, countIn_strs z r, List.count_cons]
    by_cases e : (a == z) = true
    · rw [if_pos (show same (PyData.str a) (PyData.str z) = true from e), if_pos e]
      push_cast
      omega
    · rw [if_neg (show ¬ same (PyData.str a) (PyData.str z) = true from e), if_neg e]
      push_cast
      omega
theorem mt_scount {X : Cx} : MtR X "list.count" (rCntS X.K) := by
  intro pins s σ H x xs v us Q I rx rxs h
  obtain ⟨p, zs, z, rfl, rfl, hs, q⟩ := h
  cases rx
  obtain ⟨u, rfl, ru⟩ := rxs.one
  obtain ⟨t, rfl⟩ := ru
  obtain ⟨its, rv, ⟨o, n, ho, hc, hdn, hd⟩, hlen⟩ := I.list hs
  refine count_list_strs (vs := its) ⟨o, ho, hc, n, hd⟩ (strs_are rv) ?_
  rw [countIn_strs]
  exact ⟨.int _, H, I.tok _, ⟨_, rfl⟩, q⟩
def rFact : List V → Hp → VK → Prop := fun vs H Q => ∃ n : Nat, vs = [.int ((n : Nat) : Int)] ∧ n ≤ 1000 ∧ Q (.int ((Builtin.Math.factorialNat n : Nat) : Int)) H
theorem cr_fact {X : Cx} : CallR X (.builtin "math.factorial") rFact := by
  intro pins s σ H vs us Q I r h
  obtain ⟨n, rfl, hn, q⟩ := h
  obtain ⟨u, rfl, ru⟩ := r.one
  obtain ⟨t, rfl⟩ := ru
  refine PySem.W.mc_factorial (by omega) (by omega) fun _ => ?_
  have e : (((n : Nat) : Int)).toNat = n := by omega
  rw [e]
  exact ⟨.int _, H, I.tok _, ⟨_, rfl⟩, q⟩
theorem fac_is : ∀ n : Fin 7, Builtin.Math.factorialNat n.1 = LO.fac n.1 := by decide +kernel
end LX

set_option Elab.async false
set_option linter.all false
set_option maxRecDepth 100000
set_option maxHeartbeats 8000000

namespace K73
open PySem PySem.Spec PyProof.Rows L2 He XH XV XR PEN TR XQ Evl XD PEN4
def top (i : Nat) : Stmt := PySem.Challenge.pw_tryback_k73_whole_orders_of_logs.main.body.getD i (.Pass ⟨0, 0, 0, 0⟩)
abbrev s_wall : Stmt := top 1
theorem sc_wall : FnScope ["k"] ["k"] (defScope s_wall) := ⟨rfl, rfl, rfl, by decide +kernel, rfl, by decide +kernel, by decide +kernel⟩
abbrev s_NoCell_init : Stmt := inClass (top 4) 0
theorem sc_NoCell_init : FnScope ["self", "name"] ["self", "name"] (defScope s_NoCell_init) := ⟨rfl, rfl, rfl, by decide +kernel, rfl, by decide +kernel, by decide +kernel⟩
abbrev s_NoEntry_init : Stmt := inClass (top 5) 0
theorem sc_NoEntry_init : FnScope ["self", "number"] ["self", "number"] (defScope s_NoEntry_init) := ⟨rfl, rfl, rfl, by decide +kernel, rfl, by decide +kernel, by decide +kernel⟩
abbrev s_Log_init : Stmt := inClass (top 7) 0
theorem sc_Log_init : FnScope ["self", "cells"] ["self", "cells"] (defScope s_Log_init) := ⟨rfl, rfl, rfl, by decide +kernel, rfl, by decide +kernel, by decide +kernel⟩
abbrev s_Log_now : Stmt := inClass (top 7) 1
theorem sc_Log_now : FnScope ["self"] ["self"] (defScope s_Log_now) := ⟨rfl, rfl, rfl, by decide +kernel, rfl, by decide +kernel, by decide +kernel⟩
abbrev s_Log_change : Stmt := inClass (top 7) 2
theorem sc_Log_change : FnScope ["self", "cell", "worth"] ["self", "cell", "worth"] (defScope s_Log_change) := ⟨rfl, rfl, rfl, by decide +kernel, rfl, by decide +kernel, by decide +kernel⟩
abbrev s_Log_undone : Stmt := inClass (top 7) 3
theorem sc_Log_undone : FnScope ["self", "order", "cells", "cell", "worth"] ["self", "order"] (defScope s_Log_undone) := ⟨rfl, rfl, rfl, by decide +kernel, rfl, by decide +kernel, by decide +kernel⟩
abbrev s_Log_restores : Stmt := inClass (top 7) 4
theorem sc_Log_restores : FnScope ["self", "order", "last", "firsts", "number", "cell"] ["self", "order"] (defScope s_Log_restores) := ⟨rfl, rfl, rfl, by decide +kernel, rfl, by decide +kernel, by decide +kernel⟩
abbrev s_Log_least : Stmt := inClass (top 7) 5
theorem sc_Log_least : FnScope ["self"] ["self"] (defScope s_Log_least) := ⟨rfl, rfl, rfl, by decide +kernel, rfl, by decide +kernel, by decide +kernel⟩
abbrev s_Log_orders : Stmt := inClass (top 7) 6
theorem sc_Log_orders : FnScope ["self", "many", "cell", "_", "found", "count"] ["self"] (defScope s_Log_orders) := ⟨rfl, rfl, rfl, by decide +kernel, rfl, by decide +kernel, by decide +kernel⟩
abbrev s_Log_firsts : Stmt := inClass (top 7) 7
theorem sc_Log_firsts : FnScope ["self", "found", "number", "cell", "_"] ["self"] (defScope s_Log_firsts) := ⟨rfl, rfl, rfl, by decide +kernel, rfl, by decide +kernel, by decide +kernel⟩
abbrev s_Log_check_order : Stmt := inClass (top 7) 8
theorem sc_Log_check_order : FnScope ["self", "order", "number"] ["self", "order"] (defScope s_Log_check_order) := ⟨rfl, rfl, rfl, by decide +kernel, rfl, by decide +kernel, by decide +kernel⟩
abbrev s_Log_entries_in : Stmt := inClass (top 7) 9
theorem sc_Log_entries_in : FnScope ["self", "order", "number"] ["self", "order"] (defScope s_Log_entries_in) := ⟨rfl, rfl, rfl, by decide +kernel, rfl, by decide +kernel, by decide +kernel⟩
abbrev s_law_start : Stmt := top 9
theorem sc_law_start : FnScope ["_law_script", "_law_first"] ["_law_script"] (defScope s_law_start) := ⟨rfl, rfl, rfl, by decide +kernel, rfl, by decide +kernel, by decide +kernel⟩
abbrev s_law_draw : Stmt := top 10
theorem sc_law_draw : FnScope ["_law_state", "_law_many", "_law_drawn", "_law_seed", "_law_mixed"] ["_law_state", "_law_many"] (defScope s_law_draw) := ⟨rfl, rfl, rfl, by decide +kernel, rfl, by decide +kernel, by decide +kernel⟩
abbrev s_law_orders : Stmt := top 11
theorem sc_law_orders : FnScope ["_law_rest", "_law_found", "_law_at", "_law_order"] ["_law_rest"] (defScope s_law_orders) := ⟨rfl, rfl, rfl, by decide +kernel, rfl, by decide +kernel, by decide +kernel⟩
abbrev s_law : Stmt := top 12
theorem sc_law : FnScope ["_law_script", "_law_pen", "_law_log", "_law_names", "_law_turn", "_law_name", "_law_begin", "_law_every", "_law_right", "_law_product", "_law_k", "_law_order"] ["_law_script"] (defScope s_law) := ⟨rfl, rfl, rfl, by decide +kernel, rfl, by decide +kernel, by decide +kernel⟩
abbrev FnP (K : PySem.W.Frag) (x qn : Str) (st : Stmt) (f : Addr) (fd : FuncData) : Prop := FunD K x qn (defArgs st) (defBody st) (defScope st) [] [] f fd
def globs : List Str := [("Log" : Str), ("NoCell" : Str), ("NoEntry" : Str), ("TryError" : Str), ("_law_draw" : Str), ("_law_orders" : Str), ("_law_start" : Str), ("_wall" : Str), ("law" : Str)]
def frees : List Str := ["range", "len", "int", "list", "tuple", "isinstance", "all", "dict", "enumerate", "max"]
def Cl (P : Program) (w : World) (K : PySem.W.Frag) (mg : Str → Option Value) (base : Heap) (CX : CXT) (k : Nat) (f : Addr) (ps : List Str) (sp : Sp) : Prop := ∃ fd, FnOk P w K mg base CX k f fd ps sp ∧ Binds K fd ps [] ∧ PySem.W.keepIn K (.ref f) = true
structure Txt (K : PySem.W.Frag) (w : World) (mg : Str → Option Value) : Prop where
  gl : ∀ x ∈ globs, mg x = some (.ref (ga K x))
  fr : ∀ x ∈ frees, mg x = none

section
variable {P : Program} {w : World} {K : PySem.W.Frag} {mg : Str → Option Value} {base : Heap}

theorem ok_law_start {fd : FuncData} (F : FnP K "_law_start" "_law_start" s_law_start (ga K "_law_start") fd) (T : Txt K w mg) : FnOk P w K mg base CX0 (0 + 1) (ga K "_law_start") fd ["_law_script"] (spStart4 K) := by
  refine FunD.ok F sc_law_start (fun vs H Q E h => ?_) (fun cdv A outer s H vs Q E hr h => ?_)
  · obtain ⟨a, ns, rfl, _⟩ := h
    rfl
  · obtain ⟨a, ns, rfl, hS, hl, kk⟩ := h
    have n_len := T.fr "len" (by decide +kernel)
    have n_list := T.fr "list" (by decide +kernel)
    refine ⟨_, PSs.nox (pss_cons (ps_set (i := 1) sc_law_start.nd rfl (Or.inl rfl) pe_int)
      (pss_cut (ps_if (pt_cmpR op_gt (pe_callB call_len_seq (by rfl) n_len (by decide +kernel) (pa_cons (pv 0) pa_nil)) pe_int (nomark _))
      (pss_one (ps_set (i := 1) sc_law_start.nd rfl (Or.inl rfl) (pe_ix ix_list (pv 0) pe_int (fun _ _ => rfl))))
      pss_nil)
      (pss_one (ps_ret (pe_lst (pa_cons (pe_callTy call_list_of (by rfl) n_list (by decide +kernel) (pa_cons (pv 0) pa_nil)) (pa_cons pe_int (pa_cons (pv 1) (pa_cons pe_int pa_nil))))))))), ?_⟩
    refine q_asg (v := .int 0) ev_c fun H1 e1 => ?_
    try dsimp only [gName, List.set]
    refine q_cut (M := fun σ' H' => ∃ x : Int, σ' = [some (.ref a), some (.int x)] ∧ Ex H H') ?_ fun σ' H2 hM => ?_
    · refine s_when (et_test (ev_op (ev_cb (ea_cons (ev_var rfl) ea_nil) (fun H7 e7 Q7 q7 => ⟨a, _, rfl, .inl (ex_l (e1.trans e7) hS), q7 H7 (Ex.refl _)⟩)) ev_c rv_I0)) (fun hb H2 e2 => ?_) (fun hb H2 e2 => ⟨0, rfl, e1.trans e2⟩)
      cases ns with
      | nil => cases hb
      | cons n r => exact s_asg (v := .int n) (ev_op (ev_var rfl) ev_c (rv_ixL (ex_l (e1.trans e2) hS) (atI_nat (j := 0) rfl))) fun H3 e3 => ⟨n, rfl, (e1.trans e2).trans e3⟩
    · obtain ⟨x, rfl, e2⟩ := hM
      refine ⟨.ref a, rfl, a, _, rfl, .inl (ex_l e2 hS), fun l hl0 => ⟨_, rfl, fits (show 4 ≤ 1000 by decide), fun p hp => kk p l _ ((e2.trans (Ex.new hl0)).trans (Ex.new hp)) (fresh_back (e2.trans (Ex.new hl0)) hp) ⟨1, 0, x, ns, upd_same, Ex.new hp _ _ upd_same, by decide⟩⟩⟩

theorem ok_law_draw {fd : FuncData} (F : FnP K "_law_draw" "_law_draw" s_law_draw (ga K "_law_draw") fd) (T : Txt K w mg) : FnOk P w K mg base CX0 (0 + 1) (ga K "_law_draw") fd ["_law_state", "_law_many"] spDraw4 := by
  refine FunD.ok F sc_law_draw (fun vs H Q E h => ?_) (fun cdv A outer s H vs Q E hr h => ?_)
  · obtain ⟨p, l, m, b, rfl, _⟩ := h
    rfl
  · obtain ⟨p, l, m, b, rfl, ⟨m0, m1⟩, hP, kk⟩ := h
    have n_int := T.fr "int" (by decide +kernel)
    have n_len := T.fr "len" (by decide +kernel)
    refine ⟨_, PSs.nox (pss_cons (ps_if (pt_cmpR op_ge (pe_ix ix_list (pv 0) pe_int (fun _ _ => rfl)) (pe_op op_pow pe_int pe_int) (nomark _))
      (pss_cons (ps_set (i := 2) sc_law_draw.nd rfl (Or.inl rfl) (pe_op op_mod (pe_callTy call_int1 (by rfl) n_int (by decide +kernel) (pa_cons (pe_ix ix_list (pv 0) pe_int (fun _ _ => rfl)) pa_nil)) (pv 1)))
      (pss_cons (ps_asg (pe_op op_fdiv (pe_ix ix_list (pv 0) pe_int (fun _ _ => rfl)) (pv 1)) (pg_sub (pv 0) pe_int set_list))
      (pss_one (ps_ret (pv 2)))))
      pss_nil)
      (pss_cons (ps_asg (pe_op op_add (pe_ix ix_list (pv 0) pe_int (fun _ _ => rfl)) pe_int) (pg_sub (pv 0) pe_int set_list)) (pss_cons (ps_set (i := 3) sc_law_draw.nd rfl (Or.inl rfl) (pe_op op_add (pe_op op_add (pe_op op_mod (pe_callTy call_int1 (by rfl) n_int (by decide +kernel) (pa_cons (pe_ix ix_list (pv 0) pe_int (fun _ _ => rfl)) pa_nil)) pe_int) (pe_op op_mul pe_int (pe_ix ix_list (pv 0) pe_int (fun _ _ => rfl)))) pe_int)) (pss_cons (ps_set (i := 4) sc_law_draw.nd rfl (Or.inl rfl) (pe_op op_mod (pe_op op_pow (pv 3) pe_int) pe_int)) (pss_cut (ps_if (pt_cmpR op_lt (pe_ix ix_list (pv 0) pe_int (fun _ _ => rfl)) (pe_callB call_len_seq (by rfl) n_len (by decide +kernel) (pa_cons (pe_ix ix_list (pv 0) pe_int (fun _ _ => rfl)) pa_nil)) (nomark _))
      (pss_cons (ps_asg (pe_ix ix_list (pe_ix ix_list (pv 0) pe_int (fun _ _ => rfl)) (pe_ix ix_list (pv 0) pe_int (fun _ _ => rfl)) (fun _ _ => rfl)) (pg_sub (pv 0) pe_int set_list))
      (pss_one (ps_asg (pe_op op_add (pe_ix ix_list (pv 0) pe_int (fun _ _ => rfl)) pe_int) (pg_sub (pv 0) pe_int set_list))))
      pss_nil)
      (pss_one (ps_ret (pe_op op_mod (pe_op op_fdiv (pe_callTy call_int1 (by rfl) n_int (by decide +kernel) (pa_cons (pv 4) pa_nil)) pe_int) (pv 1))))))))), ?_⟩
    have npl := hP.ne
    obtain ⟨c, t, x, ns, hp, hl, ht⟩ := hP
    refine q_when (et_test (ev_op (ev_op (ev_var rfl) ev_c (rv_ixL (sq_of hp) (atI_nat (j := 2) rfl))) (ev_op ev_c ev_c (rv_I ⟨by decide, by decide, by decide⟩)) rv_I0)) (fun hb H1 e1 => ?_) (fun hb H1 e1 => ?_)
    · have hp1 := e1 _ _ hp
      have hl1 := e1 _ _ hl
      refine q_asg (v := .int (x % m)) (ev_op (ev_cb (ea_cons (ev_op (ev_var rfl) ev_c (rv_ixL (sq_of hp1) (atI_nat (j := 2) rfl))) ea_nil) (fun H5 e5 Q5 q5 => .inl ⟨x, rfl, q5 H5 (Ex.refl _)⟩)) (ev_var rfl) (rv_I m0)) fun H2 e2 => ?_
      have hp2 := e2 _ _ hp1
      have hl2 := e2 _ _ hl1
      try dsimp only [gName, List.set]
      refine q_setL (l := p) (j := 2) hp2 (v := .int (x / m)) (ev_op (ev_op (ev_var rfl) ev_c (rv_ixL (sq_of hp2) (atI_nat (j := 2) rfl))) (ev_var rfl) (rv_I ⟨m0, by omega⟩)) (ev_var rfl) ev_c (show 2 < 4 by decide) fun H3 e3 => ?_
      have hp3 := e3 _ _ hp2
      have hl3 := e3 _ _ hl2
      refine s_ret (ev_var rfl) fun H4 e4 => kk _ H4 ⟨Int.emod_nonneg _ (by omega), Int.emod_lt_of_pos _ m0⟩ (((Px.of ((e1.trans e2).trans e3)).upd (.inl rfl)).trans (Px.of e4)) (Pen4.ex e4 ⟨c, t, x / m, ns, upd_same, (upd_ne npl.symm).trans hl3, by omega⟩)
    have hp1 := e1 _ _ hp
    have hl1 := e1 _ _ hl
    -- the count
    refine q_setL (l := p) (j := 3) hp1 (v := .int ((t : Nat) + 1)) (ev_op (ev_op (ev_var rfl) ev_c (rv_ixL (sq_of hp1) (atI_nat (j := 3) rfl))) ev_c rv_I0) (ev_var rfl) ev_c (show 3 < 4 by decide) fun H2 e2 => ?_
    have g2 : upd H2 p (.lst ([V.ref l, .int (c : Nat), .int x, .int (t : Nat)].set 3 (.int ((t : Nat) + 1)))) p = some (.lst [V.ref l, .int (c : Nat), .int x, .int (((t + 1 : Nat)) : Int)]) := upd_same
    have l2 : upd H2 p (.lst ([V.ref l, .int (c : Nat), .int x, .int (t : Nat)].set 3 (.int ((t : Nat) + 1)))) l = some (.lst (ns.map V.int)) := (upd_ne npl.symm).trans (e2 _ _ hl1)
    have px2 : Px p l H (upd H2 p (.lst ([V.ref l, .int (c : Nat), .int x, .int (t : Nat)].set 3 (.int ((t : Nat) + 1))))) := (Px.of (e1.trans e2)).upd (.inl rfl)
    generalize upd H2 p (.lst ([V.ref l, .int (c : Nat), .int x, .int (t : Nat)].set 3 (.int ((t : Nat) + 1)))) = H3 at g2 l2 px2
    -- the number
    have z0 := Int.emod_nonneg x (show (1000000007 : Int) ≠ 0 by decide)
    have z1 := Int.emod_lt_of_pos x (show (0 : Int) < 1000000007 by decide)
    refine q_asg (v := .int (x % 1000000007 + 69621 * ((t + 1 : Nat) : Int) + 48271)) (ev_op (ev_op (ev_op (ev_cb (ea_cons (ev_op (ev_var rfl) ev_c (rv_ixL (sq_of g2) (atI_nat (j := 2) rfl))) ea_nil) (fun H5 e5 Q5 q5 => .inl ⟨x, rfl, q5 H5 (Ex.refl _)⟩)) ev_c (rv_I (show (0 : Int) < 1000000007 by decide))) (ev_op ev_c (ev_op (ev_var rfl) ev_c (rv_ixL (sq_of g2) (atI_nat (j := 3) rfl))) (rv_I (.inl ⟨by decide, by decide⟩))) rv_I0) ev_c rv_I0) fun H4 e4 => ?_
    generalize x % 1000000007 = u at z0 z1
    try dsimp only [gName, List.set]
    refine q_asg (v := .int ((u + 69621 * ((t + 1 : Nat) : Int) + 48271) ^ (17 : Int).toNat % 170141183460469231731687303715884105727)) (ev_op (ev_op (ev_var rfl) ev_c (rv_I ⟨by decide, by decide, by omega⟩)) ev_c (rv_I (show (0 : Int) < 170141183460469231731687303715884105727 by decide))) fun H5 e5 => ?_
    generalize (u + 69621 * ((t + 1 : Nat) : Int) + 48271) ^ (17 : Int).toNat % 170141183460469231731687303715884105727 = mx
    try dsimp only [gName, List.set]
    have e45 := e4.trans e5
    have g5 := e45 _ _ g2
    have l5 := e45 _ _ l2
    have px5 := px2.trans (Px.of (p := p) (l := l) e45)
    clear g2 l2 px2 e4 e5 e45
    -- the next of the script
    refine q_cut (M := fun σ' H' => σ' = [some (.ref p), some (.int m), none, some (.int (u + 69621 * ((t + 1 : Nat) : Int) + 48271)), some (.int mx)] ∧ Px p l H H' ∧ Pen4 p l b H') ?_ fun σ' H6 hM => ?_
    · refine s_when (et_test (ev_op (ev_op (ev_var rfl) ev_c (rv_ixL (sq_of g5) (atI_nat (j := 1) rfl))) (ev_cb (ea_cons (ev_op (ev_var rfl) ev_c (rv_ixL (sq_of g5) (atI_nat (j := 0) rfl))) ea_nil) (fun H7 e7 Q7 q7 => ⟨l, _, rfl, .inl (sq_of (e7 _ _ l5)), q7 H7 (Ex.refl _)⟩)) rv_I0)) (fun hb H6 e6 => ?_) (fun hb H6 e6 => ⟨rfl, px5.trans (Px.of e6), Pen4.ex e6 ⟨c, t + 1, x, ns, g5, l5, by omega⟩⟩)
      have hc : c < ns.length := by
        have := of_decide_eq_true hb
        rw [List.length_map] at this
        omega
      have gj : (ns.map V.int)[c]? = some (.int ns[c]) := by
        rw [List.getElem?_map, List.getElem?_eq_getElem hc]
        rfl
      generalize ns[c] = y at gj
      have g6 := e6 _ _ g5
      have l6 := e6 _ _ l5
      refine q_setL (l := p) (j := 2) g6 (v := .int y) (ev_op (ev_op (ev_var rfl) ev_c (rv_ixL (sq_of g6) (atI_nat (j := 0) rfl))) (ev_op (ev_var rfl) ev_c (rv_ixL (sq_of g6) (atI_nat (j := 1) rfl))) (rv_ixL (sq_of l6) (atI_nat gj))) (ev_var rfl) ev_c (show 2 < 4 by decide) fun H7 e7 => ?_
      have g7 : upd H7 p (.lst ([V.ref l, .int (c : Nat), .int x, .int ((t + 1 : Nat) : Int)].set 2 (.int y))) p = some (.lst [V.ref l, .int (c : Nat), .int y, .int ((t + 1 : Nat) : Int)]) := upd_same
      have l7 : upd H7 p (.lst ([V.ref l, .int (c : Nat), .int x, .int ((t + 1 : Nat) : Int)].set 2 (.int y))) l = some (.lst (ns.map V.int)) := (upd_ne npl.symm).trans (e7 _ _ l6)
      have px7 : Px p l H (upd H7 p (.lst ([V.ref l, .int (c : Nat), .int x, .int ((t + 1 : Nat) : Int)].set 2 (.int y)))) := (px5.trans (Px.of (e6.trans e7))).upd (.inl rfl)
      generalize upd H7 p (.lst ([V.ref l, .int (c : Nat), .int x, .int ((t + 1 : Nat) : Int)].set 2 (.int y))) = H8 at g7 l7 px7
      refine s_setL (l := p) (j := 1) g7 (v := .int ((c : Nat) + 1)) (ev_op (ev_op (ev_var rfl) ev_c (rv_ixL (sq_of g7) (atI_nat (j := 1) rfl))) ev_c rv_I0) (ev_var rfl) ev_c (show 1 < 4 by decide) fun H9 e9 => ⟨rfl, (px7.trans (Px.of e9)).upd (.inl rfl), ⟨c + 1, t + 1, y, ns, upd_same, (upd_ne npl.symm).trans (e9 _ _ l7), by omega⟩⟩
    · obtain ⟨rfl, px6, pen6⟩ := hM
      refine s_ret (v := .int (mx / 64 % m)) (ev_op (ev_op (ev_cb (ea_cons (ev_var rfl) ea_nil) (fun H7 e7 Q7 q7 => .inl ⟨mx, rfl, q7 H7 (Ex.refl _)⟩)) ev_c (rv_I ⟨by decide, by decide⟩)) (ev_var rfl) (rv_I m0)) fun H7 e7 => kk _ H7 ⟨Int.emod_nonneg _ (by omega), Int.emod_lt_of_pos _ m0⟩ (px6.trans (Px.of e7)) (Pen4.ex e7 pen6)

end
end K73
set_option Elab.async false
set_option linter.all false
set_option maxRecDepth 100000
set_option maxHeartbeats 8000000
namespace K73
open PySem PySem.Spec PyProof.Rows L2 He XH XV XR PEN TR XQ Evl XD PEN4


open LG XE
structure Tx (K : PySem.W.Frag) (w : World) (mg : Str → Option Value) : Prop extends Txt K w mg where
  cl : Cls K (ga K "Log")
  no : ∀ x ∈ ["held", "entries"], NoAttr K (ga K "Log") x
  mkL : Mk K (ga K "Log") (ma K (ga K "Log") "__init__")
  mm : ∀ x ∈ ["change", "undone", "restores", "least", "orders", "firsts", "check_order", "entries_in"], Meth K (ga K "Log") x (ma K (ga K "Log") x)
  nc : Own K (ga K "NoCell") (ma K (ga K "NoCell") "__init__") ["name"]
  fc : mg "factorial" = some (.builtin "math.factorial")
  ne : Own K (ga K "NoEntry") (ma K (ga K "NoEntry") "__init__") ["number"]
structure LogIs (K : PySem.W.Frag) (H : Hp) (g h t dx : Addr) (c : Cs) (es : Es) : Prop where
  ins : H g = some (.ins (ga K "Log") dx [("held", .ref h), ("entries", .ref t)])
  held : H h = some (.dK (dk c))
  ents : Dp K H (.ref t) (.tuple (es.map ent))
theorem LogIs.mono {K : PySem.W.Frag} {H H' : Hp} {g h t dx : Addr} {c : Cs} {es : Es} (L : LogIs K H g h t dx c es) (e : Ex H H') : LogIs K H' g h t dx c es := ⟨e _ _ L.ins, e _ _ L.held, dpM e _ _ L.ents⟩
theorem et_chain {σ : L2.St} {H : Hp} {lo z n : Int} {tb tc : TE} (hb : Ev tb σ H (.int z)) (hc : Ev tc σ H (.int n)) : EvT (tTest (tChain (rI0 fun i j => V.bl (decide (i ≤ j))) (rI0 fun i j => V.bl (decide (i < j))) (tC (.int lo)) tb tc)) σ H (decide (lo ≤ z) && decide (z < n)) := fun H1 e Q q =>
  hb H1 e _ fun H2 e2 => ⟨lo, z, rfl, rfl, _, rfl, by
    by_cases h : lo ≤ z
    · rw [if_pos (decide_eq_true h)]
      refine hc H2 (e.trans e2) _ fun H3 e3 => ⟨z, n, rfl, rfl, _, rfl, ?_⟩
      have := q H3 (e2.trans e3)
      rwa [decide_eq_true h, Bool.true_and] at this
    · rw [if_neg (by rw [decide_eq_false h]; exact Bool.false_ne_true)]
      refine ⟨_, rfl, ?_⟩
      have := q H2 e2
      rwa [decide_eq_false h, Bool.false_and] at this⟩
/-- C(e) of an own exception with one field -/
theorem oe_made {K : PySem.W.Frag} {C : Addr} {f : Str} {σ : L2.St} {H : Hp} {Q : XK} {y : V} {i : Nat} (U : OexC K C) (n1 : PySem.W.findIn K (.ref C) f = some none) (hv : σ[i]? = some (some y))
    (h : ∀ d H', Ex H H' → H' d = some (.xd [(f, y)]) → Q (.ref C) (some d) H') : tMkO C (spI1 K C f) [] (tCons (tVar i) tNil) σ H Q := by
  refine ⟨y, hv, (show 1 ≤ 1000 by decide), fun a ha => ⟨a, y, rfl, U, n1, upd_same, fun d hd hda => ⟨rfl, d, _, upd_same, (upd_ne hda).trans upd_same, (upd_ne hda).symm.trans hd, h d _ ?_ upd_same⟩⟩⟩
  intro c o hc
  have c1 : c ≠ a := ne_of_none hc ha
  have c2 : c ≠ d := ne_of_none hc ((upd_ne hda).symm.trans hd)
  rw [upd_ne c2, del_ne c1, upd_ne c1, upd_ne c2, upd_ne c1]
  exact hc
theorem ent_tup {K : PySem.W.Frag} {H : Hp} {v : V} {e : Nat × W} (h : Dp K H v (ent e)) : ∃ a, v = .ref a ∧ SqT K H a [.str (keyN e.1), wv e.2] := by
  unfold ent at h
  cases h with
  | @tup a xs _ h1 h2 =>
    cases h2 with
    | cons p r =>
      cases p
      cases r with
      | cons q r2 =>
        cases r2
        have e2 : ∀ (x : W) (u : V), Dp K H u (wd x) → u = wv x := fun x u hu => by
          cases x <;> cases hu <;> rfl
        rw [e2 _ _ q] at h1
        exact ⟨a, rfl, h1⟩
theorem wv_dp {K : PySem.W.Frag} {H : Hp} (x : W) : Dp K H (wv x) (wd x) := by
  cases x
  · exact .non
  · exact .int _
theorem LogIs.tup {K : PySem.W.Frag} {H : Hp} {g h t dx : Addr} {c : Cs} {es : Es} (L : LogIs K H g h t dx c es) : ∃ vs, SqT K H t vs ∧ DpAll K H vs (es.map ent) ∧ vs.length = es.length := by
  cases L.ents with
  | tup h1 h2 => exact ⟨_, h1, h2, by rw [dpAll_len h2, List.length_map]⟩
def Nt (H : Hp) (D : Addr) : Prop := (∀ xs, H D ≠ some (.tup xs)) ∧ ∀ od u, H D ≠ some (.frz od u)
theorem Nt.dK {H : Hp} {D : Addr} {l : List (Key × V)} (h : H D = some (.dK l)) : Nt H D := ⟨fun xs q => (by rw [h] at q; cases q), fun od u q => (by rw [h] at q; cases q)⟩
theorem Nt.ins {H : Hp} {D C : Addr} {dx : Addr} {fs : List (Str × V)} (h : H D = some (.ins C dx fs)) : Nt H D := ⟨fun xs q => (by rw [h] at q; cases q), fun od u q => (by rw [h] at q; cases q)⟩
theorem Nt.lst {H : Hp} {D : Addr} {l : List V} (h : H D = some (.lst l)) : Nt H D := ⟨fun xs q => (by rw [h] at q; cases q), fun od u q => (by rw [h] at q; cases q)⟩
theorem st_upd {K : PySem.W.Frag} {H : Hp} {D a : Addr} {o : HO} {xs : List V} (n : Nt H D) (h : SqT K H a xs) : SqT K (upd H D o) a xs := by
  rcases h with (h | ⟨od, h⟩) | h
  · have : a ≠ D := fun e => by
      rw [e] at h
      exact n.1 _ h
    exact .inl (.inl ((upd_ne this).trans h))
  · have : a ≠ D := fun e => by
      rw [e] at h
      exact n.2 _ _ h
    exact .inl (.inr ⟨od, (upd_ne this).trans h⟩)
  · exact .inr h
theorem ents_upds {K : PySem.W.Frag} {H : Hp} {D : Addr} {o : HO} (n : Nt H D) : ∀ {es : Es} {vs : List V}, DpAll K H vs (es.map ent) → DpAll K (upd H D o) vs (es.map ent)
  | [], _, h => by
    cases h
    exact .nil
  | e :: r, _, h => by
    cases h with
    | cons h1 h2 =>
      obtain ⟨a, rfl, s⟩ := ent_tup h1
      exact .cons (.tup (st_upd n s) (.cons (.str _) (.cons (wv_dp _) .nil))) (ents_upds n h2)
theorem ents_upd {K : PySem.W.Frag} {H : Hp} {D : Addr} {o : HO} {v : V} {es : Es} (n : Nt H D) (h : Dp K H v (.tuple (es.map ent))) : Dp K (upd H D o) v (.tuple (es.map ent)) := by
  cases h with
  | tup h1 h2 => exact .tup (st_upd n h1) (ents_upds n h2)
def firstBad (n : Nat) (ns : List Int) : Option Int := ns.find? fun b => !(decide (0 ≤ b) && decide (b < (n : Nat)))
theorem good_all {n : Nat} {ns : List Int} (h : firstBad n ns = none) : ∀ b ∈ ns, 0 ≤ b ∧ b < (n : Nat) := fun b hb => by
  have := List.find?_eq_none.mp h b hb
  simp at this
  omega
def nat (ns : List Int) : List Nat := ns.map Int.toNat
def pick (es : Es) (n : Nat) : Nat × W := (cellAt es n, worthAt es n)
def SqE (K : PySem.W.Frag) (H : Hp) (o : Addr) (xs : List V) : Prop := SqL K H o xs ∨ SqT K H o xs
theorem SqE.mono {K : PySem.W.Frag} {H H' : Hp} {o : Addr} {xs : List V} (h : SqE K H o xs) (e : Ex H H') : SqE K H' o xs := h.imp (ex_l e) (ex_t e)
def eN (K : PySem.W.Frag) (E : XK) (b : Int) (H : Hp) : Prop := ∀ dd H', Ex H H' → H' dd = some (.xd [("number", .int b)]) → E (.ref (ga K "NoEntry")) (some dd) H'
def spLInit (K : PySem.W.Frag) : Sp := fun vs H Q _ => ∃ (g d dx : Addr) (c : Cs), vs = [.ref g, .ref d] ∧ H g = some (.ins (ga K "Log") dx []) ∧ H d = some (.dK (dk c)) ∧ ∀ h t H', Xa g H H' → H h = none → LogIs K H' g h t dx c [] → Q .non H'
def spNow (K : PySem.W.Frag) : Sp := fun vs H Q _ => ∃ (g h t dx : Addr) (c : Cs) (es : Es), vs = [.ref g] ∧ LogIs K H g h t dx c es ∧ ∀ q H', Ex H H' → H q = none → H' q = some (.dK (dk c)) → Q (.ref q) H'
def spChange (K : PySem.W.Frag) : Sp := fun vs H Q E => ∃ (g h t dx : Addr) (c : Cs) (es : Es) (z : Str) (v : V), vs = [.ref g, .str z, v] ∧ LogIs K H g h t dx c es ∧ es.length ≤ 100 ∧
  (∀ i x, i < 3 → z = keyN i → v = wv x → ∀ t' H', (∀ a o, a ≠ g → a ≠ h → H a = some o → H' a = some o) → LogIs K H' g h t' dx (setC c i x) (es ++ [(i, c i)]) → Q .non H') ∧
  ((∀ i, i < 3 → z ≠ keyN i) → ∀ dd H', Ex H H' → H' dd = some (.xd [("name", .str z)]) → E (.ref (ga K "NoCell")) (some dd) H') ∧ ((∃ i x, i < 3 ∧ z = keyN i ∧ v = wv x) ∨ ∀ i, i < 3 → z ≠ keyN i)
def spChkO (K : PySem.W.Frag) : Sp := fun vs H Q E => ∃ (g h t dx o : Addr) (c : Cs) (es : Es) (ns : List Int), vs = [.ref g, .ref o] ∧ LogIs K H g h t dx c es ∧ SqE K H o (ns.map V.int) ∧ (firstBad es.length ns = none → ∀ H', Ex H H' → Q .non H') ∧ (∀ b, firstBad es.length ns = some b → eN K E b H)
def spEIn (K : PySem.W.Frag) : Sp := fun vs H Q E => ∃ (g h t dx o : Addr) (c : Cs) (es : Es) (ns : List Int), vs = [.ref g, .ref o] ∧ LogIs K H g h t dx c es ∧ SqE K H o (ns.map V.int) ∧ ns.length ≤ 100 ∧
  (firstBad es.length ns = none → ∀ r ws H', Ex H H' → H' r = some (.lst ws) → DpAll K H' ws (((nat ns).map (pick es)).map ent) → Q (.ref r) H') ∧ (∀ b, firstBad es.length ns = some b → eN K E b H)
def spUndone (K : PySem.W.Frag) : Sp := fun vs H Q E => ∃ (g h t dx o : Addr) (c : Cs) (es : Es) (ns : List Int), vs = [.ref g, .ref o] ∧ LogIs K H g h t dx c es ∧ Ok3 es ∧ SqE K H o (ns.map V.int) ∧ ns.length ≤ 100 ∧
  (firstBad es.length ns = none → ∀ q H', Ex H H' → H q = none → H' q = some (.dK (dk (undo c es (nat ns)))) → Q (.ref q) H') ∧ (∀ b, firstBad es.length ns = some b → eN K E b H)
def fkv (es : Es) (l : List Nat) : List (Key × V) := l.map fun k => (kk (cellAt es k), .int (k : Nat))
def spFirsts (K : PySem.W.Frag) : Sp := fun vs H Q _ => ∃ (g h t dx : Addr) (c : Cs) (es : Es), vs = [.ref g] ∧ LogIs K H g h t dx c es ∧ Ok3 es ∧ es.length ≤ 100 ∧ ∀ q H', Ex H H' → H q = none → H' q = some (.dK (fkv es (LG.firsts es))) → Q (.ref q) H'
def spLeast (K : PySem.W.Frag) : Sp := fun vs H Q _ => ∃ (g h t dx : Addr) (c : Cs) (es : Es), vs = [.ref g] ∧ LogIs K H g h t dx c es ∧ Ok3 es ∧ es.length ≤ 100 ∧ ∀ q H', Ex H H' → SqT K H' q ((LG.firsts es).map fun k => V.int (k : Nat)) → Q (.ref q) H'
def spRestores (K : PySem.W.Frag) : Sp := fun vs H Q E => ∃ (g h t dx o : Addr) (c : Cs) (es : Es) (ns : List Int), vs = [.ref g, .ref o] ∧ LogIs K H g h t dx c es ∧ Ok3 es ∧ es.length ≤ 100 ∧ SqE K H o (ns.map V.int) ∧ ns.length ≤ 100 ∧
  (firstBad es.length ns = none → SqL K H o (ns.map V.int) ∧ ∀ H', Ex H H' → Q (.bl (restB es (nat ns))) H') ∧ (∀ b, firstBad es.length ns = some b → eN K E b H)

section
variable {P : Program} {w : World} {K : PySem.W.Frag} {mg : Str → Option Value} {base : Heap}

theorem ok_nocell_init {C f : Addr} {fd : FuncData} (F : FnP K "__init__" "NoCell.__init__" s_NoCell_init f fd) : FnOk P w K mg base CX0 1 f fd ["self", "name"] (spI1 K C "name") := by
  refine FunD.ok F sc_NoCell_init (fun vs H Q E h => ?_) (fun cdv A outer s H vs Q E hr h => ?_)
  · obtain ⟨a, y, rfl, _⟩ := h
    rfl
  · obtain ⟨a, y, rfl, U, no, ha, kk⟩ := h
    refine ⟨_, PSs.nox (pss_one (ps_ost (pv 0) (pv 1))), ?_⟩
    exact ⟨y, rfl, .ref a, rfl, a, C, rfl, U, no, .inl ⟨ha, fun dx h1 h2 => kk dx h1 h2⟩⟩

theorem ok_noentry_init {C f : Addr} {fd : FuncData} (F : FnP K "__init__" "NoEntry.__init__" s_NoEntry_init f fd) : FnOk P w K mg base CX0 1 f fd ["self", "number"] (spI1 K C "number") := by
  refine FunD.ok F sc_NoEntry_init (fun vs H Q E h => ?_) (fun cdv A outer s H vs Q E hr h => ?_)
  · obtain ⟨a, y, rfl, _⟩ := h
    rfl
  · obtain ⟨a, y, rfl, U, no, ha, kk⟩ := h
    refine ⟨_, PSs.nox (pss_one (ps_ost (pv 0) (pv 1))), ?_⟩
    exact ⟨y, rfl, .ref a, rfl, a, C, rfl, U, no, .inl ⟨ha, fun dx h1 h2 => kk dx h1 h2⟩⟩

theorem ok_Log_init {fd : FuncData} {f : Addr} (F : FnP K "__init__" "Log.__init__" s_Log_init f fd) (T : Tx K w mg) : FnOk P w K mg base CX0 (0 + 1) f fd ["self", "cells"] (spLInit K) := by
  refine FunD.ok F sc_Log_init (fun vs H Q E h => ?_) (fun cdv A outer s H vs Q E hr h => ?_)
  · obtain ⟨g, d, dx, c, rfl, _⟩ := h
    rfl
  · obtain ⟨g, d, dx, c, rfl, hg, hd, kk⟩ := h
    have n_dict := T.fr "dict" (by decide +kernel)
    refine ⟨_, PSs.nox (pss_cons (ps_fld (pv 0) (pe_callTy call_dictD (by rfl) n_dict (by decide +kernel) (pa_cons (pv 1) pa_nil)) rfl)
      (pss_one (ps_fld (pv 0) (pe_tup pa_nil) rfl))), ?_⟩
    refine ⟨.ref d, rfl, d, _, rfl, .inl hd, fun h hh => ?_⟩
    have e1 := Ex.new (o := .dK (dk c)) hh
    refine ⟨.ref g, rfl, g, _, dx, [], rfl, e1 _ _ hg, T.cl, T.no "held" (by decide +kernel), (by decide), ?_⟩
    have hn : h ≠ g := fun q => by
      rw [q, hg] at hh
      cases hh
    refine ⟨(show 0 ≤ sizeLine by decide), fun t ht => ?_⟩
    have tg : t ≠ g := fun q => by
      rw [q, upd_same] at ht
      cases ht
    refine ⟨.ref g, rfl, g, _, dx, _, rfl, (upd_ne tg.symm).trans upd_same, T.cl, T.no "entries" (by decide +kernel), (show 1 < 1000 by decide), ?_⟩
    have th : t ≠ h := fun q => by
      rw [q, upd_ne hn, upd_same] at ht
      cases ht
    refine kk h t _ ?_ hh ⟨upd_same, (upd_ne hn).trans ((upd_ne (Ne.symm th)).trans ((upd_ne hn).trans upd_same)), .tup (st_of ((upd_ne tg).trans upd_same)) .nil⟩
    intro a o hag ha
    have e2 : (upd (upd H h (.dK (dk c))) g (.ins (ga K "Log") dx (putF "held" (.ref h) []))) a = some o := (upd_ne hag).trans (e1 _ _ ha)
    exact (upd_ne hag).trans ((upd_ne (fun q => by rw [q] at e2; rw [ht] at e2; cases e2)).trans e2)

theorem ok_Log_change {fd : FuncData} {f : Addr} (F : FnP K "change" "Log.change" s_Log_change f fd) (T : Tx K w mg) (c_nocell : Cl P w K mg base CX0 1 (ma K (ga K "NoCell") "__init__") ["self", "name"] (spI1 K (ga K "NoCell") "name")) : FnOk P w K mg base (L2.CX P w) (2 + 1) f fd ["self", "cell", "worth"] (spChange K) := by
  obtain ⟨fd_nocell, G_nocell, b_nocell, kp_nocell⟩ := c_nocell
  refine FunD.ok F sc_Log_change (fun vs H Q E h => ?_) (fun cdv A outer s H vs Q E hr h => ?_)
  · obtain ⟨g, h, t, dx, c, es, z, v, rfl, _⟩ := h
    rfl
  · obtain ⟨g, h, t, dx, c, es, z, v, rfl, LI, le, kg, kb, cas⟩ := h
    have g_NoCell := T.gl "NoCell" (by decide +kernel)
    refine ⟨_, (pss_cons (ps_if (pt_cmp (pc_dnotin (Nat.lt_of_le_of_lt (Nat.add_le_add_left (by decide) _) hr.units) (pv 1) (pe_fldc (K := K) rfl (pv 0) rfl)))
      (pss_one (ps_raise rfl (takes_of rfl rfl rfl rfl) (pmk_oex T.nc.ox T.nc.iC T.nc.tI G_nocell (hr.mono (by decide)) b_nocell .nil pass0 (by rfl) g_NoCell (pa_cons (pv 1) pa_nil))))
      pss_nil)
      (pss_cons (ps_fld (pv 0) (pe_tup (StX.pa_star (pe_fldc (K := K) rfl (pv 0) rfl) (pa_cons (pe_tup (pa_cons (pv 1) (pa_cons (pe_dget (Nat.lt_of_le_of_lt (Nat.add_le_add_left (by decide) _) hr.units) (pe_fldc (K := K) rfl (pv 0) rfl) (pv 1) (fun _ _ => rfl)) pa_nil))) pa_nil) : PA _ _ (StX.tStar K _ _))) rfl)
      (pss_one (ps_dput (Nat.lt_of_le_of_lt (Nat.add_le_add_left (by decide) _) hr.units) (pe_fldc (K := K) rfl (pv 0) rfl) (pv 1) (pv 2) rfl)))), ?_⟩
    have hgh : g ≠ h := fun q => by
      have := LI.ins
      rw [q, LI.held] at this
      cases this
    refine ⟨.str z, rfl, .ref g, rfl, g, _, dx, _, .ref h, rfl, LI.ins, T.cl, T.no "held" (by decide +kernel), rfl, h, _, rfl, DGet.k (k := Sum.inr z) LI.held, _, rfl, ?_⟩
    rcases cas with ⟨i, x, hi, rfl, rfl⟩ | hno
    · have gd := get_dk c hi
      have gd2 : valV (dk c) (Sum.inr (keyN i)) = some (wv (c i)) := gd
      rw [gd2]
      refine iteF ?_
      obtain ⟨vs, ht, hvs, lvs⟩ := LI.tup
      refine ⟨.ref g, rfl, g, _, dx, _, .ref t, rfl, LI.ins, T.cl, T.no "entries" (by decide +kernel), rfl, t, vs, rfl, .inl ht, .str (keyN i), rfl, .ref g, rfl, g, _, dx, _, .ref h, rfl, LI.ins, T.cl, T.no "held" (by decide +kernel), rfl, .str (keyN i), rfl, h, wv (c i), rfl, (by have := DGet.k (k := Sum.inr (keyN i)) LI.held; rw [gd2] at this; exact this), (show 2 ≤ sizeLine by decide), fun q hq => ?_⟩
      refine ⟨(by rw [List.length_append, sizeLine_eq]; show vs.length + 1 ≤ _; omega), fun t2 ht2 => ?_⟩
      have e2 := (Ex.new (o := .tup [.str (keyN i), wv (c i)]) hq).trans (Ex.new (o := .tup (vs ++ [.ref q])) ht2)
      have gq : SqT K (upd (upd H q (.tup [.str (keyN i), wv (c i)])) t2 (.tup (vs ++ [.ref q]))) q [.str (keyN i), wv (c i)] := ex_t (Ex.new ht2) (st_of upd_same)
      have gt : SqT K (upd (upd H q (.tup [.str (keyN i), wv (c i)])) t2 (.tup (vs ++ [.ref q]))) t2 (vs ++ [.ref q]) := st_of upd_same
      have LJ := LI.mono e2
      have hv2 := dpMs e2 _ _ hvs
      generalize upd (upd H q (.tup [.str (keyN i), wv (c i)])) t2 (.tup (vs ++ [.ref q])) = H2 at e2 gq gt LJ hv2
      have dpt : Dp K H2 (.ref t2) (.tuple ((es ++ [(i, c i)]).map ent)) := by
        rw [List.map_append]
        exact .tup gt (dpAll_app hv2 (.cons (.tup gq (.cons (.str _) (.cons (wv_dp _) .nil))) .nil))
      refine ⟨.ref g, rfl, g, _, dx, _, rfl, LJ.ins, T.cl, T.no "entries" (by decide +kernel), (show 2 < 1000 by decide), ?_⟩
      refine ⟨wv x, rfl, .ref g, rfl, g, _, dx, _, .ref h, rfl, upd_same, T.cl, T.no "held" (by decide +kernel), rfl, .str (keyN i), rfl, h, _, rfl, DPut.k (k := Sum.inr (keyN i)) ((upd_ne (Ne.symm hgh)).trans LJ.held) (Nat.lt_of_lt_of_le (show 3 < 100 by decide) (by decide)), ?_⟩
      refine kg i x hi rfl rfl t2 _ (fun a o ag ah ha => (upd_ne ah).trans ((upd_ne ag).trans (e2 _ _ ha))) ⟨(upd_ne hgh).trans upd_same, ?_, ?_⟩
      · rw [upd_same]
        exact congrArg (fun l => some (HO.dK l)) (put_dk c hi x)
      · refine ents_upd (Nt.dK ((upd_ne (Ne.symm hgh)).trans LJ.held)) (ents_upd (Nt.ins LJ.ins) dpt)
    · have hv : valV (dk c) (Sum.inr z) = none := by
        cases q : valV (dk c) (Sum.inr z) with
        | none => rfl
        | some y => 
          unfold valV at q
          cases hf : (dk c).find? fun kv => decide (kv.1 = Sum.inr z) with
          | none =>
            rw [hf] at q
            cases q
          | some kv =>
            have m := List.mem_of_find?_eq_some hf
            have p0 := List.find?_some hf
            have p : kv.1 = Sum.inr z := of_decide_eq_true p0
            simp only [dk, List.mem_cons, List.not_mem_nil, or_false] at m
            rcases m with rfl | rfl | rfl
            · exact absurd (Sum.inr.inj p).symm (hno 0 (by decide))
            · exact absurd (Sum.inr.inj p).symm (hno 1 (by decide))
            · exact absurd (Sum.inr.inj p).symm (hno 2 (by decide))
      rw [hv]
      refine iteT ?_
      exact oe_made T.nc.ox (T.nc.no "name" (by decide +kernel)) rfl fun dd H' e hd => kb hno dd H' e hd

end
end K73
set_option Elab.async false
set_option linter.all false
set_option maxRecDepth 100000
set_option maxHeartbeats 8000000
namespace K73
open PySem PySem.Spec PyProof.Rows L2 He XH XV XR PEN TR XQ Evl XD PEN4


open LG XE
theorem ev_ixT {K : PySem.W.Frag} {ta tb : TE} {σ : L2.St} {H : Hp} {p : Addr} {xs : List V} {i : Int} {v : V} (ha : Ev ta σ H (.ref p)) (hb : Ev tb σ H (.int i)) (h : SqT K H p xs) (hi : atI xs i = some v) : Ev (tOp (rIxT K) ta tb) σ H v := ev_op ha hb (rv_ixT h hi)
theorem take_all {α : Type} {l : List α} {n : Nat} (h : l.length ≤ n) : l.take n = l := List.take_of_length_le h
theorem fb_step {n : Nat} {ns : List Int} {i : Nat} {b : Int} (h : ns[i]? = some b) (h0 : firstBad n (ns.take i) = none) : firstBad n (ns.take (i + 1)) = if 0 ≤ b ∧ b < (n : Nat) then none else some b := by
  rw [take_more h]
  unfold firstBad at h0 ⊢
  rw [List.find?_append, h0, Option.none_or, List.find?_singleton]
  by_cases q : 0 ≤ b ∧ b < ((n : Nat) : Int)
  · rw [if_pos q, if_neg]
    rw [decide_eq_true q.1, decide_eq_true q.2]
    exact Bool.false_ne_true
  · rw [if_neg q, if_pos]
    rw [← Bool.decide_and, decide_eq_false q]
    rfl
theorem fb_more {n : Nat} {ns : List Int} {i : Nat} {b : Int} (h : firstBad n (ns.take i) = some b) : firstBad n ns = some b := by
  have e : ns = ns.take i ++ ns.drop i := (List.take_append_drop ..).symm
  unfold firstBad at h ⊢
  rw [e, List.find?_append, h]
  rfl
theorem SqE.it {K : PySem.W.Frag} {H : Hp} {o : Addr} {xs : List V} {te : TE} {σ : L2.St} {R : It → Hp → Prop} (h : SqE K H o xs) (hv : ∀ {Q : VK}, Q (.ref o) H → te σ H Q) (h1 : SqL K H o xs → R (Itl K o) H) (h2 : SqT K H o xs → R (Itt K o) H) : (iList K te σ H R) ∨ (iTup K te σ H R) := by
  rcases h with h | h
  · exact .inl (hv ⟨o, rfl, ⟨xs, h⟩, h1 h⟩)
  · exact .inr (hv ⟨o, rfl, ⟨xs, h⟩, h2 h⟩)

section
variable {P : Program} {w : World} {K : PySem.W.Frag} {mg : Str → Option Value} {base : Heap}

theorem ok_Log_check_order {fd : FuncData} {f : Addr} (F : FnP K "check_order" "Log.check_order" s_Log_check_order f fd) (T : Tx K w mg) (c_noentry : Cl P w K mg base CX0 1 (ma K (ga K "NoEntry") "__init__") ["self", "number"] (spI1 K (ga K "NoEntry") "number")) : FnOk P w K mg base (L2.CX P w) (2 + 1) f fd ["self", "order"] (spChkO K) := by
  obtain ⟨fd_noentry, G_noentry, b_noentry, kp_noentry⟩ := c_noentry
  refine FunD.ok F sc_Log_check_order (fun vs H Q E h => ?_) (fun cdv A outer s H vs Q E hr h => ?_)
  · obtain ⟨g, h, t, dx, o, c, es, ns, rfl, _⟩ := h
    rfl
  · obtain ⟨g, h, t, dx, o, c, es, ns, rfl, LI, so, kg, kb⟩ := h
    have n_len := T.fr "len" (by decide +kernel)
    have g_NoEntry := T.gl "NoEntry" (by decide +kernel)
    refine ⟨_, (pss_one (ps_for (passes_of rfl) rfl (pi_or (pi_list (pv 1)) (pi_tup (pv 1))) (pg_name (i := 2) sc_Log_check_order.nd rfl (Or.inl rfl))
      (pss_one (ps_if (pt_not (pt_chain op_le op_lt pe_int (pv 2) (pe_callB call_len_seq (by rfl) n_len (by decide +kernel) (pa_cons (pe_fldc (K := K) rfl (pv 0) rfl) pa_nil))))
      (pss_one (ps_raise rfl (takes_of rfl rfl rfl rfl) (pmk_oex T.ne.ox T.ne.iC T.ne.tI G_noentry (hr.mono (by decide)) b_noentry .nil pass0 (by rfl) g_NoEntry (pa_cons (pv 2) pa_nil))))
      pss_nil)))), ?_⟩
    obtain ⟨vs, ht, hvs, lvs⟩ := LI.tup
    rcases so with so | so
    · refine .inl ⟨.ref o, rfl, o, rfl, ⟨_, so⟩, ?_⟩
      refine for_list (xs := ns.map V.int) (fun i σ' H' => ∃ v2, σ' = [some (.ref g), some (.ref o), v2] ∧ Ex H H' ∧ firstBad es.length (ns.take i) = none) ⟨_, rfl, Ex.refl _, rfl⟩ (fun i σ' H' _ hI => ?_) (fun i x σ' H' hx hI => ?_) (fun σ' H' hI => ?_)
      · obtain ⟨v2, rfl, e2, _⟩ := hI
        exact ex_l e2 so
      · obtain ⟨v2, rfl, e2, n2⟩ := hI
        rw [List.getElem?_map] at hx
        cases q : ns[i]? with
        | none =>
          rw [q] at hx
          cases hx
        | some b =>
        rw [q] at hx
        cases hx
        have st := fb_step q n2
        try dsimp only [gName, List.set]
        refine s_when (b := !(decide (0 ≤ b) && decide (b < (es.length : Nat)))) (et_not (et_chain (ev_var rfl) (ev_cb (ea_cons (ev_fld (ev_var rfl) (e2 _ _ LI.ins) T.cl (T.no "entries" (by decide +kernel)) rfl) ea_nil) (fun H5 e5 Q5 q5 => ⟨t, vs, rfl, .inr (ex_t (e2.trans e5) ht), by rw [lvs]; exact q5 H5 (Ex.refl _)⟩)))) (fun hb H5 e5 => ?_) (fun hb H5 e5 => ?_)
        · have nb : ¬ (0 ≤ b ∧ b < ((es.length : Nat) : Int)) := fun z => by
            rw [decide_eq_true z.1, decide_eq_true z.2] at hb
            cases hb
          rw [if_neg nb] at st
          exact oe_made T.ne.ox (T.ne.no "number" (by decide +kernel)) rfl fun dd H6 e6 hd => kb b (fb_more st) dd H6 ((e2.trans e5).trans e6) hd
        · have gb : 0 ≤ b ∧ b < ((es.length : Nat) : Int) := by
            by_cases z : 0 ≤ b ∧ b < ((es.length : Nat) : Int)
            · exact z
            · rw [← Bool.decide_and, decide_eq_false z] at hb
              cases hb
          rw [if_pos gb] at st
          exact ⟨_, rfl, e2.trans e5, st⟩
      · obtain ⟨v2, rfl, e2, n2⟩ := hI
        rw [take_all (by rw [List.length_map]; exact Nat.le_refl _)] at n2
        exact kg n2 H' e2
    · refine .inr ⟨.ref o, rfl, o, rfl, ⟨_, so⟩, ?_⟩
      refine for_tup (xs := ns.map V.int) (fun i σ' H' => ∃ v2, σ' = [some (.ref g), some (.ref o), v2] ∧ Ex H H' ∧ firstBad es.length (ns.take i) = none) ⟨_, rfl, Ex.refl _, rfl⟩ (fun i σ' H' _ hI => ?_) (fun i x σ' H' hx hI => ?_) (fun σ' H' hI => ?_)
      · obtain ⟨v2, rfl, e2, _⟩ := hI
        exact ex_t e2 so
      · obtain ⟨v2, rfl, e2, n2⟩ := hI
        rw [List.getElem?_map] at hx
        cases q : ns[i]? with
        | none =>
          rw [q] at hx
          cases hx
        | some b =>
        rw [q] at hx
        cases hx
        have st := fb_step q n2
        try dsimp only [gName, List.set]
        refine s_when (b := !(decide (0 ≤ b) && decide (b < (es.length : Nat)))) (et_not (et_chain (ev_var rfl) (ev_cb (ea_cons (ev_fld (ev_var rfl) (e2 _ _ LI.ins) T.cl (T.no "entries" (by decide +kernel)) rfl) ea_nil) (fun H5 e5 Q5 q5 => ⟨t, vs, rfl, .inr (ex_t (e2.trans e5) ht), by rw [lvs]; exact q5 H5 (Ex.refl _)⟩)))) (fun hb H5 e5 => ?_) (fun hb H5 e5 => ?_)
        · have nb : ¬ (0 ≤ b ∧ b < ((es.length : Nat) : Int)) := fun z => by
            rw [decide_eq_true z.1, decide_eq_true z.2] at hb
            cases hb
          rw [if_neg nb] at st
          exact oe_made T.ne.ox (T.ne.no "number" (by decide +kernel)) rfl fun dd H6 e6 hd => kb b (fb_more st) dd H6 ((e2.trans e5).trans e6) hd
        · have gb : 0 ≤ b ∧ b < ((es.length : Nat) : Int) := by
            by_cases z : 0 ≤ b ∧ b < ((es.length : Nat) : Int)
            · exact z
            · rw [← Bool.decide_and, decide_eq_false z] at hb
              cases hb
          rw [if_pos gb] at st
          exact ⟨_, rfl, e2.trans e5, st⟩
      · obtain ⟨v2, rfl, e2, n2⟩ := hI
        rw [take_all (by rw [List.length_map]; exact Nat.le_refl _)] at n2
        exact kg n2 H' e2


theorem ok_Log_entries_in {fd : FuncData} {f : Addr} (F : FnP K "entries_in" "Log.entries_in" s_Log_entries_in f fd) (T : Tx K w mg) (c_chko : Cl P w K mg base (L2.CX P w) 3 (ma K (ga K "Log") "check_order") ["self", "order"] (spChkO K)) : FnOk P w K mg base (L2.CX P w) (3 + 1) f fd ["self", "order"] (spEIn K) := by
  obtain ⟨fd_chko, G_chko, b_chko, kp_chko⟩ := c_chko
  refine FunD.ok F sc_Log_entries_in (fun vs H Q E h => ?_) (fun cdv A outer s H vs Q E hr h => ?_)
  · obtain ⟨g, h, t, dx, o, c, es, ns, rfl, _⟩ := h
    rfl
  · obtain ⟨g, h, t, dx, o, c, es, ns, rfl, LI, so, ln, kg, kb⟩ := h
    refine ⟨_, (pss_cons (ps_expr (pe_meth (pv 0) T.cl (T.mm "check_order" (by decide +kernel)) G_chko (hr.mono (by decide)) b_chko .nil (passes_call (takes_of rfl rfl rfl rfl) (fun _ _ _ _ h => h)) (pa_cons (pv 1) pa_nil)))
      (pss_one (ps_ret (pe_lc (own := [("number", 2)]) (g := gName 2) (by rfl) sc_Log_entries_in.nd (pi_or (pi_list (pv 1)) (pi_tup (pv 1))) (blkOk_by (own := [("number", 2)]) (N := ["self", "order", "number"]) (sc := defScope s_Log_entries_in) (by decide +kernel)) (fun _ _ _ _ _ => (pg_name (i := 2) sc_Log_entries_in.nd rfl (Or.inl rfl))) (fun _ _ _ _ _ => pts_nil) (fun _ _ _ _ _ => (pe_ix (ix_tup : IxR _ (rIxT K)) (pe_fldc (K := K) rfl (pv 0) rfl) (pv 2) (fun _ _ => rfl))))))), ?_⟩
    obtain ⟨vs, ht, hvs, lvs⟩ := LI.tup
    refine ⟨.ref g, rfl, g, dx, _, rfl, LI.ins, rfl, .ref o, rfl, g, h, t, dx, o, c, es, ns, rfl, LI, so, fun hn H1 e1 => ?_, kb⟩
    have LI := LI.mono e1
    have so := so.mono e1
    have ht := ex_t e1 ht
    have hvs := dpMs e1 _ _ hvs
    dsimp only
    rcases so with so | so
    · refine .inl ⟨.ref o, rfl, o, rfl, ⟨_, so⟩, fun D hD => ?_⟩
      refine lc_list (xs := ns.map V.int) (fun i H' => Ex H1 H' ∧ ∃ ws, H' D = some (.lst ws) ∧ DpAll K H' ws (((nat (ns.take i)).map (pick es)).map ent)) ⟨Ex.new hD, [], upd_same, .nil⟩ (fun i H' _ hI => ex_l hI.1 so) (fun i x H' hx hI => ?_) (fun H' hI => ?_)
      · obtain ⟨e2, ws, g2, d2⟩ := hI
        rw [List.getElem?_map] at hx
        cases q : ns[i]? with
        | none =>
          rw [q] at hx
          cases hx
        | some b =>
        rw [q] at hx
        cases hx
        obtain ⟨b0, b1⟩ := good_all hn b (List.mem_of_getElem? q)
        obtain ⟨k, rfl⟩ : ∃ k : Nat, b = (k : Nat) := ⟨b.toNat, by omega⟩
        have hk : k < es.length := by omega
        have hkv : k < vs.length := by omega
        have gv : vs[k]? = some vs[k] := List.getElem?_eq_getElem hkv
        obtain ⟨d, gd, dv⟩ := dpAll_at hvs gv
        rw [List.getElem?_map, getD_lt hk] at gd
        cases gd
        generalize vs[k] = v at gv dv
        refine ⟨rfl, yes_go ?_⟩
        refine (ev_ixT (ev_fld (ev_var rfl) (e2 _ _ LI.ins) T.cl (T.no "entries" (by decide +kernel)) rfl) (ev_var rfl) (ex_t e2 ht) (atI_nat gv)) H' (Ex.refl _) _ fun H3 e3 => ?_
        have lw := dpAll_len d2
        rw [List.length_map, List.length_map, nat, List.length_map, List.length_take] at lw
        refine ⟨ws, e3 _ _ g2, fits (by omega), (e2.trans e3).mut hD, _, upd_same, ?_⟩
        have dv2 : DpAll K H3 [v] ([pick es k].map ent) := .cons (dpM (e2.trans e3) _ _ dv) .nil
        have d3 := ents_upds (o := .lst (ws ++ [v])) (Nt.lst (e3 _ _ g2)) (dpMs e3 _ _ d2)
        have d4 := ents_upds (o := .lst (ws ++ [v])) (Nt.lst (e3 _ _ g2)) dv2
        have en : nat (ns.take (i + 1)) = nat (ns.take i) ++ [k] := by
          rw [take_more q]
          unfold nat
          rw [List.map_append]
          rfl
        rw [en, List.map_append, List.map_append]
        exact dpAll_app d3 d4
      · obtain ⟨e2, ws, g2, d2⟩ := hI
        rw [take_all (by rw [List.length_map]; exact Nat.le_refl _)] at d2
        exact kg hn D ws H' (e1.trans e2) g2 d2
    · refine .inr ⟨.ref o, rfl, o, rfl, ⟨_, so⟩, fun D hD => ?_⟩
      refine lc_tup (xs := ns.map V.int) (fun i H' => Ex H1 H' ∧ ∃ ws, H' D = some (.lst ws) ∧ DpAll K H' ws (((nat (ns.take i)).map (pick es)).map ent)) ⟨Ex.new hD, [], upd_same, .nil⟩ (fun i H' _ hI => ex_t hI.1 so) (fun i x H' hx hI => ?_) (fun H' hI => ?_)
      · obtain ⟨e2, ws, g2, d2⟩ := hI
        rw [List.getElem?_map] at hx
        cases q : ns[i]? with
        | none =>
          rw [q] at hx
          cases hx
        | some b =>
        rw [q] at hx
        cases hx
        obtain ⟨b0, b1⟩ := good_all hn b (List.mem_of_getElem? q)
        obtain ⟨k, rfl⟩ : ∃ k : Nat, b = (k : Nat) := ⟨b.toNat, by omega⟩
        have hk : k < es.length := by omega
        have hkv : k < vs.length := by omega
        have gv : vs[k]? = some vs[k] := List.getElem?_eq_getElem hkv
        obtain ⟨d, gd, dv⟩ := dpAll_at hvs gv
        rw [List.getElem?_map, getD_lt hk] at gd
        cases gd
        generalize vs[k] = v at gv dv
        refine ⟨rfl, yes_go ?_⟩
        refine (ev_ixT (ev_fld (ev_var rfl) (e2 _ _ LI.ins) T.cl (T.no "entries" (by decide +kernel)) rfl) (ev_var rfl) (ex_t e2 ht) (atI_nat gv)) H' (Ex.refl _) _ fun H3 e3 => ?_
        have lw := dpAll_len d2
        rw [List.length_map, List.length_map, nat, List.length_map, List.length_take] at lw
        refine ⟨ws, e3 _ _ g2, fits (by omega), (e2.trans e3).mut hD, _, upd_same, ?_⟩
        have dv2 : DpAll K H3 [v] ([pick es k].map ent) := .cons (dpM (e2.trans e3) _ _ dv) .nil
        have d3 := ents_upds (o := .lst (ws ++ [v])) (Nt.lst (e3 _ _ g2)) (dpMs e3 _ _ d2)
        have d4 := ents_upds (o := .lst (ws ++ [v])) (Nt.lst (e3 _ _ g2)) dv2
        have en : nat (ns.take (i + 1)) = nat (ns.take i) ++ [k] := by
          rw [take_more q]
          unfold nat
          rw [List.map_append]
          rfl
        rw [en, List.map_append, List.map_append]
        exact dpAll_app d3 d4
      · obtain ⟨e2, ws, g2, d2⟩ := hI
        rw [take_all (by rw [List.length_map]; exact Nat.le_refl _)] at d2
        exact kg hn D ws H' (e1.trans e2) g2 d2


end
end K73
set_option Elab.async false
set_option linter.all false
set_option maxRecDepth 100000
set_option maxHeartbeats 8000000
namespace K73
open PySem PySem.Spec PyProof.Rows L2 He XH XV XR PEN TR XQ Evl XD PEN4


open LG XE
theorem cell_take {es : Es} {i j : Nat} (h : j < i) (hi : i ≤ es.length) : cellAt (es.take i) j = cellAt es j := by
  have := (cell_app (es := es.take i) (ds := es.drop i) (k := j) (by rw [List.length_take]; omega)).1
  rw [List.take_append_drop] at this
  exact this.symm
theorem fkv_get {es : Es} {l : List Nat} {x : Key} {v : V} (h : valV (fkv es l) x = some v) : ∃ k ∈ l, kk (cellAt es k) = x ∧ v = .int (k : Nat) := by
  unfold valV fkv at h
  cases hf : (l.map fun k => (kk (cellAt es k), V.int (k : Nat))).find? fun kv => decide (kv.1 = x) with
  | none =>
    rw [hf] at h
    cases h
  | some kv =>
    rw [hf] at h
    cases h
    obtain ⟨k, hk, e⟩ := List.mem_map.mp (List.mem_of_find?_eq_some hf)
    have p0 := List.find?_some hf
    have p : kv.1 = x := of_decide_eq_true p0
    rw [← e] at p
    exact ⟨k, hk, p, by rw [← e]⟩
theorem fkv_none {es : Es} {l : List Nat} {x : Key} (h : valV (fkv es l) x = none) : ∀ k ∈ l, kk (cellAt es k) ≠ x := fun k hk e => by
  unfold valV at h
  rw [Option.map_eq_none_iff, List.find?_eq_none] at h
  have := h (kk (cellAt es k), V.int (k : Nat)) (List.mem_map.mpr ⟨k, hk, rfl⟩)
  exact this (decide_eq_true e)
theorem fkv_step {es : Es} (h3 : Ok3 es) {i : Nat} (hi : i < es.length) :
    (∀ v, valV (fkv es (LG.firsts (es.take i))) (kk (cellAt es i)) = some v → fkv es (LG.firsts (es.take i)) = fkv es (LG.firsts (es.take (i + 1)))) ∧
    (valV (fkv es (LG.firsts (es.take i))) (kk (cellAt es i)) = none → putK (fkv es (LG.firsts (es.take i))) (kk (cellAt es i)) (.int (i : Nat)) = fkv es (LG.firsts (es.take (i + 1)))) := by
  have lt : (es.take i).length = i := by rw [List.length_take]; omega
  rw [take_more (getD_lt hi), firsts_snoc, lt]
  constructor
  · intro v hv
    obtain ⟨k, hk, e, _⟩ := fkv_get hv
    have hki := (firsts_mem.mp hk).1
    rw [lt] at hki
    rw [if_pos ⟨k, hki, (cell_take hki (by omega)).trans ((kk_eq (cell_lt h3 (by omega)) (cell_lt h3 hi)).mp e)⟩, List.append_nil]
  · intro hv
    rw [if_neg, putK_new _ hv]
    · unfold fkv
      rw [List.map_append]
      rfl
    · rintro ⟨j, hj, e⟩
      obtain ⟨k, hk, ek⟩ := has_first (es := es.take i) (k := j) (by omega)
      have hki := (firsts_mem.mp hk).1
      rw [lt] at hki
      refine fkv_none hv k hk ?_
      rw [← cell_take hki (by omega), ek, e]
theorem undo_take {c : Cs} {es : Es} {ns : List Int} {i : Nat} {b : Int} (h : ns[i]? = some b) : undo c es (nat (ns.take (i + 1))) = setC (undo c es (nat (ns.take i))) (cellAt es b.toNat) (worthAt es b.toNat) := by
  rw [take_more h]
  unfold nat
  rw [List.map_append]
  exact undo_snoc _ _ _ _

section
variable {P : Program} {w : World} {K : PySem.W.Frag} {mg : Str → Option Value} {base : Heap}

theorem ok_Log_undone {fd : FuncData} {f : Addr} (F : FnP K "undone" "Log.undone" s_Log_undone f fd) (T : Tx K w mg) (c_ein : Cl P w K mg base (L2.CX P w) 4 (ma K (ga K "Log") "entries_in") ["self", "order"] (spEIn K)) : FnOk P w K mg base (L2.CX P w) (4 + 1) f fd ["self", "order"] (spUndone K) := by
  obtain ⟨fd_ein, G_ein, b_ein, kp_ein⟩ := c_ein
  refine FunD.ok F sc_Log_undone (fun vs H Q E h => ?_) (fun cdv A outer s H vs Q E hr h => ?_)
  · obtain ⟨g, h, t, dx, o, c, es, ns, rfl, _⟩ := h
    rfl
  · obtain ⟨g, h, t, dx, o, c, es, ns, rfl, LI, h3, so, ln, kg, kb⟩ := h
    have n_dict := T.fr "dict" (by decide +kernel)
    refine ⟨_, (pss_cons (ps_set (i := 2) sc_Log_undone.nd rfl (Or.inl rfl) (pe_callTy call_dictD (by rfl) n_dict (by decide +kernel) (pa_cons (pe_fldc (K := K) rfl (pv 0) rfl) pa_nil)))
      (pss_cons (ps_for (passes_of rfl) rfl (pi_list (pe_meth (pv 0) T.cl (T.mm "entries_in" (by decide +kernel)) G_ein (hr.mono (by decide)) b_ein .nil (passes_call (takes_of rfl rfl rfl rfl) (fun _ _ _ _ h => h)) (pa_cons (pv 1) pa_nil))) (pg_tup rfl (pgs_cons (pg_name (i := 3) sc_Log_undone.nd rfl (Or.inl rfl)) (pgs_cons (pg_name (i := 4) sc_Log_undone.nd rfl (Or.inl rfl)) pgs_nil)))
      (pss_one (ps_dput (Nat.lt_of_le_of_lt (Nat.add_le_add_left (by decide) _) hr.units) (pv 2) (pv 3) (pv 4) rfl)))
      (pss_one (ps_ret (pv 2))))), ?_⟩
    refine ⟨.ref g, rfl, g, _, dx, _, .ref h, rfl, LI.ins, T.cl, T.no "held" (by decide +kernel), rfl, h, _, rfl, .inl LI.held, fun q hq => ?_⟩
    have e1 := Ex.new (o := .dK (dk c)) hq
    have g1 : upd H q (.dK (dk c)) q = some (.dK (dk c)) := upd_same
    have LJ := LI.mono e1
    have so1 := so.mono e1
    generalize upd H q (.dK (dk c)) = H1 at e1 g1 LJ so1
    dsimp only [List.set]
    refine ⟨.ref g, rfl, g, dx, _, rfl, LJ.ins, rfl, .ref o, rfl, g, h, t, dx, o, c, es, ns, rfl, LJ, so1, ln, fun hn r ws H2 e2 g2 d2 => ?_, fun b hb dd H' e hd => kb b hb dd H' (e1.trans e) hd⟩
    have lw := dpAll_len d2
    rw [List.length_map, List.length_map, nat, List.length_map] at lw
    refine ⟨r, rfl, ⟨ws, sq_of g2⟩, ?_⟩
    refine for_list (xs := ws) (fun i σ' H' => ∃ v2 v3 v4, σ' = [some (.ref g), some (.ref o), some (.ref q), v3, v4] ∧ Xa q H2 H' ∧ H' q = some (.dK (dk (undo c es (nat (ns.take i))))) ∧ v2 = (0 : Nat)) ⟨_, _, _, rfl, Xa.of (Ex.refl _), e2 _ _ g1, rfl⟩ (fun i σ' H' _ hI => ?_) (fun i x σ' H' hx hI => ?_) (fun σ' H' hI => ?_)
    · obtain ⟨_, v3, v4, rfl, x2, gq, _⟩ := hI
      refine sq_of (x2 _ _ (fun e => ?_) g2)
      rw [e, e2 _ _ g1] at g2
      cases g2
    · obtain ⟨_, v3, v4, rfl, x2, gq, _⟩ := hI
      have hi : i < ns.length := by
        have := (List.getElem?_eq_some_iff.mp hx).1
        omega
      have gb : ns[i]? = some ns[i] := List.getElem?_eq_getElem hi
      generalize ns[i] = b at gb
      obtain ⟨b0, b1⟩ := good_all hn b (List.mem_of_getElem? gb)
      obtain ⟨k, rfl⟩ : ∃ k : Nat, b = (k : Nat) := ⟨b.toNat, by omega⟩
      have hk : k < es.length := by omega
      obtain ⟨d, gd, dv⟩ := dpAll_at d2 hx
      rw [List.getElem?_map, List.getElem?_map, nat, List.getElem?_map, gb] at gd
      cases gd
      obtain ⟨a, rfl, sa⟩ := ent_tup dv
      have qa : SqT K H' a [.str (keyN (cellAt es k)), wv (worthAt es k)] := by
        rcases sa with (sa | ⟨od, sa⟩) | sa
        · refine .inl (.inl (x2 _ _ (fun e => ?_) sa))
          rw [e, e2 _ _ g1] at sa
          cases sa
        · refine .inl (.inr ⟨od, x2 _ _ (fun e => ?_) sa⟩)
          rw [e, e2 _ _ g1] at sa
          cases sa
        · exact .inr sa
      refine ⟨a, _, rfl, qa, rfl, _, _, rfl, _, _, rfl, rfl, ?_⟩
      try dsimp only [gName, gSeq, List.set]
      refine ⟨wv (worthAt es k), rfl, .ref q, rfl, .str (keyN (cellAt es k)), rfl, q, _, rfl, DPut.k (k := Sum.inr (keyN (cellAt es k))) gq (Nat.lt_of_lt_of_le (show 3 < 100 by decide) (by decide)), ⟨_, _, _, rfl, fun z u hz hu => (upd_ne hz).trans (x2 _ _ hz hu), ?_, rfl⟩⟩
      rw [upd_same, undo_take gb]
      exact congrArg (fun l => some (HO.dK l)) (put_dk _ (cell_lt h3 hk) _)
    · obtain ⟨_, v3, v4, rfl, x2, gq, _⟩ := hI
      rw [take_all (by omega)] at gq
      dsimp only
      refine s_ret (ev_var rfl) fun H5 e5 => kg hn q H5 ?_ hq (e5 _ _ gq)
      intro z u hz
      have zq : z ≠ q := fun e => by
        rw [e, hq] at hz
        cases hz
      exact e5 _ _ (x2 _ _ zq (e2 _ _ (e1 _ _ hz)))

theorem ok_Log_firsts {fd : FuncData} {f : Addr} (F : FnP K "firsts" "Log.firsts" s_Log_firsts f fd) (T : Tx K w mg) : FnOk P w K mg base CX0 (0 + 1) f fd ["self"] (spFirsts K) := by
  refine FunD.ok F sc_Log_firsts (fun vs H Q E h => ?_) (fun cdv A outer s H vs Q E hr h => ?_)
  · obtain ⟨g, h, t, dx, c, es, rfl, _⟩ := h
    rfl
  · obtain ⟨g, h, t, dx, c, es, rfl, LI, h3, le, kq⟩ := h
    have n_enumerate := T.fr "enumerate" (by decide +kernel)
    refine ⟨_, PSs.nox (pss_cons (ps_set (i := 1) sc_Log_firsts.nd rfl (Or.inl rfl) pe_dnewK)
      (pss_cons (ps_for PassesOwn.never rfl (pi_enumT (by rfl) n_enumerate (pa_cons (pe_fldc (K := K) rfl (pv 0) rfl) pa_nil)) (pg_tup rfl (pgs_cons (pg_name (i := 2) sc_Log_firsts.nd rfl (Or.inl rfl)) (pgs_cons (pg_tup rfl (pgs_cons (pg_name (i := 3) sc_Log_firsts.nd rfl (Or.inl rfl)) (pgs_cons (pg_name (i := 4) sc_Log_firsts.nd rfl (Or.inl rfl)) pgs_nil))) pgs_nil)))
      (pss_one (ps_expr (pe_dsetd (pv 1) (pv 3) (pv 2) ⟨rfl, rfl, rfl, rfl⟩))))
      (pss_one (ps_ret (pv 1))))), ?_⟩
    obtain ⟨vs, ht, hvs, lvs⟩ := LI.tup
    intro q hq
    have e1 := Ex.new (o := .dK []) hq
    have g1 : upd H q (.dK []) q = some (.dK []) := upd_same
    generalize upd H q (.dK []) = H1 at e1 g1
    try dsimp only [gName, List.set]
    refine ⟨.ref g, rfl, g, _, dx, _, .ref t, rfl, e1 _ _ LI.ins, T.cl, T.no "entries" (by decide +kernel), rfl, t, vs, rfl, ex_t e1 ht, ?_⟩
    have xt : ∀ {H2 : Hp} {a : Addr} {xs : List V}, Xa q H1 H2 → SqT K H1 a xs → SqT K H2 a xs := fun x2 h => by
      rcases h with (h | ⟨od, h⟩) | h
      · refine .inl (.inl (x2 _ _ (fun e => ?_) h))
        rw [e, g1] at h
        cases h
      · refine .inl (.inr ⟨od, x2 _ _ (fun e => ?_) h⟩)
        rw [e, g1] at h
        cases h
      · exact .inr h
    refine for_it (walk_enumT (xs := vs)) (fun i σ' H' => ∃ v2 v3 v4, σ' = [some (.ref g), some (.ref q), v2, v3, v4] ∧ Xa q H1 H' ∧ H' q = some (.dK (fkv es (LG.firsts (es.take i))))) ⟨_, _, _, rfl, Xa.of (Ex.refl _), g1⟩ (fun i σ' H' _ hI => ?_) (fun i x σ' H3 H4 hi hI hy => ?_) (fun σ' H' hI => ?_)
    · obtain ⟨v2, v3, v4, rfl, x2, _⟩ := hI
      exact xt x2 (ex_t e1 ht)
    · obtain ⟨v2, v3, v4, rfl, x2, g2⟩ := hI
      obtain ⟨tq, x1, y1, rfl, hT, rfl, p1, p2⟩ := hy
      cases p1
      replace p2 : vs[i]? = some y1 := p2
      have hie : i < es.length := by omega
      obtain ⟨d, gd, dv⟩ := dpAll_at hvs p2
      rw [List.getElem?_map, getD_lt hie] at gd
      cases gd
      obtain ⟨a, rfl, sa⟩ := ent_tup dv
      have eT := Ex.new (o := .tup [.int (i : Nat), .ref a]) hT
      have sa4 := ex_t eT (xt x2 (ex_t e1 sa))
      have x4 := x2.trans (Xa.of eT)
      have g4 := eT _ _ g2
      refine ⟨tq, _, rfl, st_of upd_same, rfl, .int (i : Nat), [.ref a], rfl, .ref a, [], rfl, a, _, rfl, sa4, rfl, _, _, rfl, _, _, rfl, rfl, rfl, ?_⟩
      generalize upd H3 tq (.tup [.int (i : Nat), .ref a]) = H4 at x4 g4
      try dsimp only [gName, List.set]
      have fs := fkv_step h3 hie
      have lf : (fkv es (LG.firsts (es.take i))).length < sizeLine := by
        unfold fkv LG.firsts
        rw [List.length_map]
        refine Nat.lt_of_le_of_lt (List.length_filter_le _ _) ?_
        rw [List.length_range, List.length_take]
        exact fits (by omega)
      refine ⟨.ref q, rfl, q, rfl, .inl ⟨_, .inl g4⟩, .str (keyN (cellAt es i)), rfl, .int (i : Nat), rfl, _, kk (cellAt es i), g4, rfl, lf, fun v hv => ?_, fun hv => ?_⟩
      · refine ⟨_, _, _, rfl, x4, ?_⟩
        rw [g4, fs.1 v hv]
      · refine ⟨_, _, _, rfl, fun z u hz hu => (upd_ne hz).trans (x4 _ _ hz hu), ?_⟩
        rw [upd_same, fs.2 hv]
    · obtain ⟨v2, v3, v4, rfl, x2, g2⟩ := hI
      rw [take_all (by omega)] at g2
      dsimp only
      refine s_ret (ev_var rfl) fun H5 e5 => kq q H5 ?_ hq (e5 _ _ g2)
      intro z u hz
      have zq : z ≠ q := fun e => by
        rw [e, hq] at hz
        cases hz
      exact e5 _ _ (x2 _ _ zq (e1 _ _ hz))

end
end K73
set_option Elab.async false
set_option linter.all false
set_option maxRecDepth 100000
set_option maxHeartbeats 8000000
namespace K73
open PySem PySem.Spec PyProof.Rows L2 He XH XV XR PEN TR XQ Evl XD PEN4


open LG XE
def lastD (es : Es) (ns : List Nat) : List (Key × V) := ns.foldl (fun d n => putK d (kk (cellAt es n)) (.int (n : Nat))) []
theorem lastD_snoc (es : Es) (ns : List Nat) (n : Nat) : lastD es (ns ++ [n]) = putK (lastD es ns) (kk (cellAt es n)) (.int (n : Nat)) := by
  unfold lastD
  rw [List.foldl_append]
  rfl
theorem lastD_get {es : Es} {i : Nat} (hi : i < 3) (ns : List Nat) : (∀ n ∈ ns, cellAt es n < 3) → valV (lastD es ns) (kk i) = (lastOf es ns i).map fun n => V.int (n : Nat) := by
  revert ns
  refine snoc_ind (fun _ => rfl) fun ns n ih h => ?_
  rw [lastD_snoc, valV_put, lastOf_snoc, ih fun m hm => h m (List.mem_append_left _ hm)]
  have hn := h n (List.mem_append_right _ List.mem_cons_self)
  by_cases e : cellAt es n = i
  · rw [if_pos e, if_pos (by rw [e])]
    rfl
  · rw [if_neg e, if_neg]
    intro q
    exact e ((kk_eq hi hn).mp q).symm
theorem putK_len' (c : List (Key × V)) (k : Key) (x : V) : (putK c k x).length ≤ c.length + 1 := by
  unfold putK
  split
  · rw [List.length_map]
    omega
  · rw [List.length_append, List.length_singleton]
    omega
theorem lastD_len (es : Es) (ns : List Nat) : (lastD es ns).length ≤ ns.length := by
  revert ns
  refine snoc_ind (Nat.le_refl _) fun ns n ih => ?_
  rw [lastD_snoc, List.length_append]
  have := putK_len' (lastD es ns) (kk (cellAt es n)) (V.int (n : Nat))
  rw [List.length_singleton]
  omega
theorem st_fz {K : PySem.W.Frag} {H : Hp} {d : Addr} {l : List (Key × V)} (h : H d = some (.dK l)) : Nt H d := Nt.dK h

section
variable {K : PySem.W.Frag} {J : It} {n : Nat} {G : Hp → Prop} {Y : Nat → Hp → V → Hp → Prop} {a D : Addr} {xs : List V} {g : TG} {tt : TT} {tk tv : TE} {vs : List Nat} {σ : L2.St} {H1 : Hp} {Qd : Hp → Prop}
/-- one turn of a dict comprehension: what is put in, or left out, and what holds then -/
abbrev DcTurn (g : TG) (tt : TT) (tk tv : TE) (vs : List Nat) (σ : L2.St) (D : Addr) (Nx : Hp → Prop) (x : V) (H' : Hp) : Prop := g x (wipe σ vs) H' fun σ2 H2 => wipe σ2 vs = wipe σ vs ∧ tt σ2 H2 fun b H3 => if b = true then tk σ2 H3 fun y H4 => tv σ2 H4 fun z H5 => ∃ kvs k, y = kV k ∧ H5 D = some (.dK kvs) ∧ kvs.length < sizeLine ∧ Nx (upd H5 D (.dK (putK kvs k z))) else Nx H3
theorem dc_walk (w : Walk J n G Y) (Pv : Nat → Hp → Prop) (h0 : Pv 0 (upd H1 D (.dK []))) (hG : ∀ i H, i ≤ n → Pv i H → G H) (hs : ∀ i x H H', i < n → Pv i H → Y i H x H' → DcTurn g tt tk tv vs σ D (Pv (i + 1)) x H') (hd : ∀ H, Pv n H → Qd H) :
    ∃ W : Nat → Nat → Hp → Prop, (∃ m, W 0 m (upd H1 D (.dK []))) ∧ ∀ i m H, W i m H → (J.stop i H ∧ Qd H) ∨ (J.go i H ∧ ∃ Nx : Hp → Prop, (∀ H', Nx H' → ∃ m', m' < m ∧ W (i + 1) m' H') ∧ ∀ x H', J.yld i H x H' → DcTurn g tt tk tv vs σ D Nx x H') := by
  refine ⟨fun i m H => i + m = n ∧ Pv i H, ⟨n, Nat.zero_add n, h0⟩, fun i m H q => ?_⟩
  obtain ⟨q1, q2⟩ := q
  cases m with
  | zero =>
    have e : i = n := by omega
    subst e
    exact .inl ⟨w.stops H (hG _ H (Nat.le_refl _) q2), hd H q2⟩
  | succ m => exact .inr ⟨w.goes i H (by omega) (hG i H (by omega) q2), Pv (i + 1), fun H' p => ⟨m, by omega, by omega, p⟩, fun x H' y => hs i x H H' (by omega) q2 (w.yields i H x H' (by omega) (hG i H (by omega) q2) y)⟩
theorem dc_list (Pv : Nat → Hp → Prop) (h0 : Pv 0 (upd H1 D (.dK []))) (hl : ∀ i H, i ≤ xs.length → Pv i H → SqL K H a xs) (hs : ∀ i x H, xs[i]? = some x → Pv i H → DcTurn g tt tk tv vs σ D (Pv (i + 1)) x H) (hd : ∀ H, Pv xs.length H → Qd H) :
    ∃ W : Nat → Nat → Hp → Prop, (∃ m, W 0 m (upd H1 D (.dK []))) ∧ ∀ i m H, W i m H → ((Itl K a).stop i H ∧ Qd H) ∨ ((Itl K a).go i H ∧ ∃ Nx : Hp → Prop, (∀ H', Nx H' → ∃ m', m' < m ∧ W (i + 1) m' H') ∧ ∀ x H', (Itl K a).yld i H x H' → DcTurn g tt tk tv vs σ D Nx x H') :=
  dc_walk walk_list Pv h0 hl (fun i x H H' _ p y => by
    obtain ⟨rfl, hx⟩ := y
    exact hs i x _ hx p) hd
end

section
variable {P : Program} {w : World} {K : PySem.W.Frag} {mg : Str → Option Value} {base : Heap}

theorem ok_Log_restores {fd : FuncData} {f : Addr} (F : FnP K "restores" "Log.restores" s_Log_restores f fd) (T : Tx K w mg) (c_chko : Cl P w K mg base (L2.CX P w) 3 (ma K (ga K "Log") "check_order") ["self", "order"] (spChkO K)) (c_firsts : Cl P w K mg base CX0 1 (ma K (ga K "Log") "firsts") ["self"] (spFirsts K)) : FnOk P w K mg base (L2.CX P w) (3 + 1) f fd ["self", "order"] (spRestores K) := by
  obtain ⟨fd_chko, G_chko, b_chko, kp_chko⟩ := c_chko
  obtain ⟨fd_firsts, G_firsts, b_firsts, kp_firsts⟩ := c_firsts
  refine FunD.ok F sc_Log_restores (fun vs H Q E h => ?_) (fun cdv A outer s H vs Q E hr h => ?_)
  · obtain ⟨g, h, t, dx, o, c, es, ns, rfl, _⟩ := h
    rfl
  · obtain ⟨g, h, t, dx, o, c, es, ns, rfl, LI, h3, le, so, ln, kg, kb⟩ := h
    have n_all := T.fr "all" (by decide +kernel)
    refine ⟨_, (pss_cons (ps_expr (pe_meth (pv 0) T.cl (T.mm "check_order" (by decide +kernel)) G_chko (hr.mono (by decide)) b_chko .nil (passes_call (takes_of rfl rfl rfl rfl) (fun _ _ _ _ h => h)) (pa_cons (pv 1) pa_nil)))
      (pss_cons (ps_set (i := 2) sc_Log_restores.nd rfl (Or.inr rfl) (pe_dc (own := [("number", 4)]) (g := gName 4) (by rfl) sc_Log_restores.nd (pi_list (pv 1)) (blkOk_by (own := [("number", 4)]) (N := ["self", "order", "last", "firsts", "number", "cell"]) (sc := defScope s_Log_restores) (by decide +kernel)) (fun _ _ _ _ _ => (pg_name (i := 4) sc_Log_restores.nd rfl (Or.inl rfl))) (fun _ _ _ _ _ => pts_nil) (fun _ _ _ _ _ => (pe_ix (ix_tup : IxR _ (rIxT K)) (pe_ix (ix_tup : IxR _ (rIxT K)) (pe_fldc (K := K) rfl (pv 0) rfl) (pv 4) (fun _ _ => rfl)) pe_int (fun _ _ => rfl))) (fun _ _ _ _ _ => (pv 4))))
      (pss_cons (ps_set (i := 3) sc_Log_restores.nd rfl (Or.inl rfl) (pe_meth0 (pv 0) T.cl (T.mm "firsts" (by decide +kernel)) G_firsts (hr.mono (by decide)) b_firsts .nil pass0))
      (pss_one (ps_ret (pe_callB (cr_all rfl) (by rfl) n_all (by decide +kernel) (pa_cons (pe_lock (pe_lc (own := [("cell", 5), ("number", 4)]) (g := _) (by rfl) sc_Log_restores.nd (pi_items (pv 3)) (blkOk_by (own := [("cell", 5), ("number", 4)]) (N := ["self", "order", "last", "firsts", "number", "cell"]) (sc := defScope s_Log_restores) (by decide +kernel)) (fun _ _ _ _ _ => (pg_tupc (K := K) (n := 2) rfl rfl (pgs_cons (pg_name (i := 5) sc_Log_restores.nd rfl (Or.inl rfl)) (pgs_cons (pg_name (i := 4) sc_Log_restores.nd rfl (Or.inl rfl)) pgs_nil)))) (fun _ _ _ _ _ => pts_nil) (fun _ _ _ _ _ => (pe_cmpR op_eq (pe_dget1 (Nat.lt_of_le_of_lt (Nat.add_le_add_left (by decide) _) hr.units) (pv 2) (pv 5) ⟨rfl, rfl, rfl, rfl⟩) (pv 4) (nomark _))))) pa_nil))))))), ?_⟩
    refine ⟨.ref g, rfl, g, dx, _, rfl, LI.ins, rfl, .ref o, rfl, g, h, t, dx, o, c, es, ns, rfl, LI, so, fun hn H1 e1 => ?_, kb⟩
    obtain ⟨so, kg⟩ := kg hn
    have LI := LI.mono e1
    have so := ex_l e1 so
    have kg : ∀ H', Ex H1 H' → Q (V.bl (restB es (nat ns))) H' := fun H' e => kg H' (e1.trans e)
    obtain ⟨vs, ht, hvs, lvs⟩ := LI.tup
    have gn : ∀ n ∈ nat ns, cellAt es n < 3 := fun n hn2 => by
      obtain ⟨b, hb, rfl⟩ := List.mem_map.mp hn2
      have := good_all hn b hb
      exact cell_lt h3 (by omega)
    dsimp only
    refine ⟨.ref o, rfl, o, rfl, ⟨_, so⟩, fun D hD => ?_⟩
    refine dc_list (xs := ns.map V.int) (fun i H' => Ex H1 H' ∧ H' D = some (.dK (lastD es (nat (ns.take i))))) ⟨Ex.new hD, upd_same⟩ (fun i H' _ hI => ex_l hI.1 so) (fun i x H' hx hI => ?_) (fun H' hI => ?_)
    · obtain ⟨e2, g2⟩ := hI
      rw [List.getElem?_map] at hx
      cases q : ns[i]? with
      | none =>
        rw [q] at hx
        cases hx
      | some b =>
      rw [q] at hx
      cases hx
      obtain ⟨b0, b1⟩ := good_all hn b (List.mem_of_getElem? q)
      obtain ⟨k, rfl⟩ : ∃ k : Nat, b = (k : Nat) := ⟨b.toNat, by omega⟩
      have hk : k < es.length := by omega
      have hkv : k < vs.length := by omega
      have gv : vs[k]? = some vs[k] := List.getElem?_eq_getElem hkv
      obtain ⟨d, gd, dv⟩ := dpAll_at hvs gv
      rw [List.getElem?_map, getD_lt hk] at gd
      cases gd
      generalize vs[k] = v at gv dv
      obtain ⟨a, rfl, sa⟩ := ent_tup dv
      refine ⟨rfl, yes_go ?_⟩
      refine (ev_ixT (ev_ixT (ev_fld (ev_var rfl) (e2 _ _ LI.ins) T.cl (T.no "entries" (by decide +kernel)) rfl) (ev_var rfl) (ex_t e2 ht) (atI_nat gv)) ev_c (ex_t e2 sa) (atI_nat (j := 0) rfl)) H' (Ex.refl _) _ fun H3 e3 => ?_
      refine ⟨.int (k : Nat), rfl, _, kk (cellAt es k), rfl, e3 _ _ g2, ?_, (e2.trans e3).mut hD, ?_⟩
      · refine Nat.lt_of_le_of_lt (lastD_len _ _) ?_
        rw [nat, List.length_map, List.length_take]
        exact fits (by omega)
      · have en : nat (ns.take (i + 1)) = nat (ns.take i) ++ [k] := by
          rw [take_more q]
          unfold nat
          rw [List.map_append]
          rfl
        rw [upd_same, en, lastD_snoc]
    obtain ⟨e2, g2⟩ := hI
    rw [take_all (by rw [List.length_map]; exact Nat.le_refl _)] at g2
    have LI := LI.mono e2
    clear ht hvs
    try dsimp only [gName, List.set]
    refine ⟨.ref g, rfl, g, dx, _, rfl, LI.ins, rfl, g, h, t, dx, c, es, rfl, LI, h3, le, fun q H3 e3 hq g3 => ?_⟩
    try dsimp only [gName, List.set]
    refine ⟨q, _, g3, trivial, fun od => ⟨.ref q, rfl, q, od, _, rfl, upd_same, fun D2 hD2 => ?_⟩⟩
    have qD2 : D2 ≠ q := fun e => by
      rw [e, upd_same] at hD2
      cases hD2
    have gD : upd H3 q (.frz od (.dK (fkv es (LG.firsts es)))) D = some (.dK (lastD es (nat ns))) := by
      rw [upd_ne]
      · exact e3 _ _ g2
      · intro e
        rw [e, hq] at g2
        cases g2
    have gq : upd H3 q (.frz od (.dK (fkv es (LG.firsts es)))) q = some (.frz od (.dK (fkv es (LG.firsts es)))) := upd_same
    have x3 : ∀ z u, H1 z = some u → z ≠ q ∧ upd H3 q (.frz od (.dK (fkv es (LG.firsts es)))) z = some u := fun z u hz => by
      have zq : z ≠ q := fun e => by
        have := e2 _ _ hz
        rw [e, hq] at this
        cases this
      exact ⟨zq, (upd_ne zq).trans (e3 _ _ (e2 _ _ hz))⟩
    generalize upd H3 q (.frz od (.dK (fkv es (LG.firsts es)))) = H4 at gD gq x3 hD2
    refine lc_it walk_items (fun i H' => Ex H4 H' ∧ H' D2 = some (.lst ((((LG.firsts es).take i).map fun k => decide (lastOf es (nat ns) (cellAt es k) = some k)).map V.bl))) ⟨Ex.new hD2, upd_same⟩ (fun i H' _ hI => hI.1 _ _ gq) (fun i x H' H5 hi hI hy => ?_) (fun H' hI => ?_)
    · obtain ⟨e5, g5⟩ := hI
      obtain ⟨tq, x1, y1, rfl, hT, rfl, p1, p2⟩ := hy
      have hi2 : i < (LG.firsts es).length := by
        unfold fkv at hi
        rwa [List.length_map] at hi
      have gk : (LG.firsts es)[i]? = some (LG.firsts es)[i] := List.getElem?_eq_getElem hi2
      generalize (LG.firsts es)[i] = k at gk
      have hk : k < es.length := (firsts_mem.mp (List.mem_of_getElem? gk)).1
      dsimp only at p1 p2
      unfold fkv at p1 p2
      rw [List.getElem?_map, gk] at p1 p2
      cases p1
      cases p2
      have eT := Ex.new (o := .tup [kV (kk (cellAt es k)), .int (k : Nat)]) hT
      refine ⟨tq, _, rfl, st_of upd_same, rfl, _, _, rfl, _, _, rfl, rfl, ?_⟩
      have e6 := e5.trans eT
      have g6 := eT _ _ g5
      generalize upd H' tq (.tup [kV (kk (cellAt es k)), .int (k : Nat)]) = H6 at e6 g6
      try dsimp only [gName, List.set]
      refine ⟨rfl, yes_go ?_⟩
      refine ⟨.ref D, rfl, D, rfl, .inl ⟨_, .inl (e6 _ _ gD)⟩, .str (keyN (cellAt es k)), rfl, _, DGet.k (k := kk (cellAt es k)) (e6 _ _ gD), .int (k : Nat), rfl, ?_⟩
      rw [lastD_get (cell_lt h3 hk) _ gn]
      have ev : scal (((lastOf es (nat ns) (cellAt es k)).map fun n => V.int (n : Nat)).getD .non) (.int (k : Nat)) = true ∧ decide (((lastOf es (nat ns) (cellAt es k)).map fun n => V.int (n : Nat)).getD .non = .int (k : Nat)) = decide (lastOf es (nat ns) (cellAt es k) = some k) := by
        cases lastOf es (nat ns) (cellAt es k) with
        | none => exact ⟨rfl, rfl⟩
        | some n =>
          refine ⟨rfl, ?_⟩
          show decide (V.int ((n : Nat) : Int) = V.int ((k : Nat) : Int)) = _
          by_cases e : n = k
          · rw [e]
            simp
          · rw [decide_eq_false, decide_eq_false]
            · intro q
              exact e (Option.some.inj q)
            · intro q
              exact e (by have := V.int.inj q; omega)
      refine ⟨ev.1, ?_⟩
      rw [ev.2]
      refine ⟨_, g6, ?_, e6.mut hD2, ?_⟩
      · rw [List.length_map, List.length_map, List.length_take]
        have : (LG.firsts es).length ≤ es.length := by
          unfold LG.firsts
          refine Nat.le_trans (List.length_filter_le _ _) ?_
          rw [List.length_range]
          exact Nat.le_refl _
        exact fits (by omega)
      · rw [upd_same, take_more gk, List.map_append, List.map_append]
        rfl
    · obtain ⟨e5, g5⟩ := hI
      rw [take_all (by unfold fkv; rw [List.length_map]; exact Nat.le_refl _)] at g5
      refine ⟨e5 _ _ gq, D2, _, rfl, sq_of ((upd_ne qD2).trans g5), ?_⟩
      have er : ((LG.firsts es).map fun k => decide (lastOf es (nat ns) (cellAt es k) = some k)).all id = restB es (nat ns) := by
        rw [List.all_map]
        rfl
      rw [er]
      refine kg _ fun z u hz => ?_
      obtain ⟨zq, h4⟩ := x3 z u hz
      exact (upd_ne zq).trans (e5 _ _ h4)

end
end K73
set_option Elab.async false
set_option linter.all false
set_option maxRecDepth 100000
set_option maxHeartbeats 8000000
namespace K73
open PySem PySem.Spec PyProof.Rows L2 He XH XV XR PEN TR XQ Evl XD PEN4


open LG XE
def Kt (H H' : Hp) : Prop := ∀ c o, ((∃ xs, o = .tup xs) ∨ ∃ od u, o = .frz od u) → H c = some o → H' c = some o
theorem Kt.of {H H' : Hp} (e : Ex H H') : Kt H H' := fun c o _ h => e c o h
theorem Kt.upd {H : Hp} {D : Addr} {o : HO} (n : Nt H D) : Kt H (upd H D o) := fun c u hu h => (upd_ne (fun e => by
  rw [e] at h
  rcases hu with ⟨xs, rfl⟩ | ⟨od, w, rfl⟩
  · exact n.1 _ h
  · exact n.2 _ _ h)).trans h
theorem Kt.trans {H H' H2 : Hp} (a : Kt H H') (b : Kt H' H2) : Kt H H2 := fun c o h k => b c o h (a c o h k)
theorem Kt.px {p l : Addr} {b : Nat} {H H' : Hp} (pen : Pen4 p l b H) (x : Px p l H H') : Kt H H' := fun c o ho h => by
  have := pen.off h (fun xs e => by
    rcases ho with ⟨ys, rfl⟩ | ⟨od, w, rfl⟩ <;> cases e)
  exact x.get this.1 this.2 h
theorem st_kt {K : PySem.W.Frag} {H H' : Hp} {a : Addr} {xs : List V} (k : Kt H H') (h : SqT K H a xs) : SqT K H' a xs := by
  rcases h with (h | ⟨od, h⟩) | h
  · exact .inl (.inl (k _ _ (.inl ⟨_, rfl⟩) h))
  · exact .inl (.inr ⟨od, k _ _ (.inr ⟨_, _, rfl⟩) h⟩)
  · exact .inr h
theorem ents_kts {K : PySem.W.Frag} {H H' : Hp} (k : Kt H H') : ∀ {es : Es} {vs : List V}, DpAll K H vs (es.map ent) → DpAll K H' vs (es.map ent)
  | [], _, h => by
    cases h
    exact .nil
  | e :: r, _, h => by
    cases h with
    | cons h1 h2 =>
      obtain ⟨a, rfl, s⟩ := ent_tup h1
      exact .cons (.tup (st_kt k s) (.cons (.str _) (.cons (wv_dp _) .nil))) (ents_kts k h2)
theorem ents_kt {K : PySem.W.Frag} {H H' : Hp} {v : V} {es : Es} (k : Kt H H') (h : Dp K H v (.tuple (es.map ent))) : Dp K H' v (.tuple (es.map ent)) := by
  cases h with
  | tup h1 h2 => exact .tup (st_kt k h1) (ents_kts k h2)
theorem LogIs.kt {K : PySem.W.Frag} {H H' : Hp} {g h t dx : Addr} {c : Cs} {es : Es} (L : LogIs K H g h t dx c es) (k : Kt H H') (hg : ∀ o, H g = some o → H' g = some o) (hh : ∀ o, H h = some o → H' h = some o) : LogIs K H' g h t dx c es := ⟨hg _ L.ins, hh _ L.held, ents_kt k L.ents⟩
theorem LogIs.px {K : PySem.W.Frag} {p l : Addr} {b : Nat} {H H' : Hp} {g h t dx : Addr} {c : Cs} {es : Es} (L : LogIs K H g h t dx c es) (pen : Pen4 p l b H) (x : Px p l H H') : LogIs K H' g h t dx c es := by
  have n1 := pen.off L.ins (fun xs e => nomatch e)
  have n2 := pen.off L.held (fun xs e => nomatch e)
  exact L.kt (Kt.px pen x) (fun o h => x.get n1.1 n1.2 h) (fun o h => x.get n2.1 n2.2 h)
theorem LogIs.upd {K : PySem.W.Frag} {H : Hp} {g h t dx D : Addr} {o : HO} {c : Cs} {es : Es} (L : LogIs K H g h t dx c es) (n : Nt H D) (n1 : D ≠ g) (n2 : D ≠ h) : LogIs K (upd H D o) g h t dx c es :=
  L.kt (Kt.upd n) (fun _ k => (upd_ne (Ne.symm n1)).trans k) (fun _ k => (upd_ne (Ne.symm n2)).trans k)
theorem dk_px {p l D : Addr} {b : Nat} {H H' : Hp} {kv : List (Key × V)} (h : H D = some (.dK kv)) (pen : Pen4 p l b H) (x : Px p l H H') : H' D = some (.dK kv) := by
  have n := pen.off h (fun xs e => nomatch e)
  exact x.get n.1 n.2 h
theorem Pen4.keep {p l : Addr} {b : Nat} {H H' : Hp} (pen : Pen4 p l b H) (k : ∀ a xs, H a = some (.lst xs) → H' a = some (.lst xs)) : Pen4 p l b H' := by
  obtain ⟨c, t, x, ns, h1, h2, h3⟩ := pen
  exact ⟨c, t, x, ns, k _ _ h1, k _ _ h2, h3⟩
theorem fresh_back' {H H' : Hp} {a : Addr} (e : Ex H H') (h : H' a = none) : H a = none := fresh_back e h


def c1 : Cs := fun i => if i = 0 then some 1 else if i = 1 then some 2 else if i = 2 then some 3 else none
theorem disp1 : mergeK [] [(kk 0, V.int 1), (kk 1, V.int 2), (kk 2, V.int 3)] = dk c1 := by decide +kernel
def Ten : W → Prop
  | some n => 10 ≤ n
  | none => False
theorem c1_small : ∀ i, i < 3 → ¬ Ten (c1 i) := by
  intro i hi
  rcases three hi with rfl | rfl | rfl <;> (show ¬ _) <;> simp [c1, Ten]
open LO (mE mx fac howmany every prod_all)
/-! ### the numbers of entries, by the cells -/
def mv (es : Es) (i : Nat) : List (Key × V) := (LG.firsts (es.take i)).map fun k => (kk (cellAt es k), .int ((LO.mC (cellAt es) (List.range i) (cellAt es k) : Nat) : Int))
theorem mC_succ (es : Es) (i x : Nat) : LO.mC (cellAt es) (List.range (i + 1)) x = LO.mC (cellAt es) (List.range i) x + if cellAt es i = x then 1 else 0 := by
  unfold LO.mC
  rw [List.range_succ, List.filter_append, List.length_append]
  by_cases h : cellAt es i = x
  · rw [if_pos h, List.filter_cons_of_pos (by simp [h])]
    rfl
  · rw [if_neg h, List.filter_cons_of_neg (by simp [h])]
    rfl
theorem mv_get {es : Es} (h3 : Ok3 es) {i : Nat} (hi : i ≤ es.length) {x : Nat} (hx : x < 3) : (valV (mv es i) (kk x)).getD (.int 0) = .int ((LO.mC (cellAt es) (List.range i) x : Nat) : Int) ∧ (valV (mv es i) (kk x) = none ↔ ∀ j, j < i → cellAt es j ≠ x) := by
  have lt : (es.take i).length = i := by rw [List.length_take]; omega
  have fk : ∀ k ∈ LG.firsts (es.take i), k < i ∧ cellAt es k < 3 := fun k hk => by
    have := (firsts_mem.mp hk).1
    rw [lt] at this
    exact ⟨this, cell_lt h3 (by omega)⟩
  cases hv : valV (mv es i) (kk x) with
  | some v =>
    unfold valV mv at hv
    cases hf : ((LG.firsts (es.take i)).map fun k => (kk (cellAt es k), V.int ((LO.mC (cellAt es) (List.range i) (cellAt es k) : Nat) : Int))).find? fun kv => decide (kv.1 = kk x) with
    | none =>
      rw [hf] at hv
      cases hv
    | some kv =>
      rw [hf] at hv
      cases hv
      obtain ⟨k, hk, e⟩ := List.mem_map.mp (List.mem_of_find?_eq_some hf)
      have p0 := List.find?_some hf
      have p : kv.1 = kk x := of_decide_eq_true p0
      rw [← e] at p
      have ec := (kk_eq (fk k hk).2 hx).mp p
      rw [← e, ← ec]
      exact ⟨rfl, ⟨(fun z => nomatch z), fun z => absurd rfl (z k (fk k hk).1)⟩⟩
  | none =>
    have no : ∀ j, j < i → cellAt es j ≠ x := fun j hj e => by
      obtain ⟨k, hk, ek⟩ := has_first (es := es.take i) (k := j) (by omega)
      have hki := (fk k hk).1
      unfold valV mv at hv
      rw [Option.map_eq_none_iff, List.find?_eq_none] at hv
      refine hv _ (List.mem_map.mpr ⟨k, hk, rfl⟩) (decide_eq_true ?_)
      show kk (cellAt es k) = kk x
      rw [← cell_take hki hi, ek, cell_take hj hi, e]
    refine ⟨?_, ⟨fun _ => no, fun _ => rfl⟩⟩
    rw [LO.m_zero.mpr fun j hj => no j (List.mem_range.mp hj)]
    rfl
theorem mv_step {es : Es} (h3 : Ok3 es) {i : Nat} (hi : i < es.length) : putK (mv es i) (kk (cellAt es i)) (.int ((LO.mC (cellAt es) (List.range i) (cellAt es i) : Nat) + 1)) = mv es (i + 1) := by
  have lt : (es.take i).length = i := by rw [List.length_take]; omega
  have hx := cell_lt h3 hi
  have g := (mv_get h3 (Nat.le_of_lt hi) hx).2
  have fk : ∀ k ∈ LG.firsts (es.take i), k < i ∧ cellAt es k < 3 := fun k hk => by
    have := (firsts_mem.mp hk).1
    rw [lt] at this
    exact ⟨this, cell_lt h3 (by omega)⟩
  have last : (kk (cellAt es i), V.int ((LO.mC (cellAt es) (List.range i) (cellAt es i) : Nat) + 1)) = (kk (cellAt es i), V.int ((LO.mC (cellAt es) (List.range (i + 1)) (cellAt es i) : Nat) : Int)) := by
    rw [mC_succ, if_pos rfl]
    rfl
  have tk : LG.firsts (es.take (i + 1)) = LG.firsts (es.take i) ++ (if (∃ j, j < i ∧ cellAt (es.take i) j = cellAt es i) then [] else [i]) := by
    rw [take_more (getD_lt hi), firsts_snoc, lt]
  cases hv : valV (mv es i) (kk (cellAt es i)) with
  | none =>
    have no := g.mp hv
    rw [putK_new _ hv, last]
    unfold mv
    rw [tk, if_neg (fun ⟨j, hj, e⟩ => no j hj (by rw [← cell_take hj (by omega)]; exact e)), List.map_append]
    congr 1
    refine List.map_congr_left fun k hk => ?_
    rw [mC_succ, if_neg (no k (fk k hk).1).symm]
    rfl
  | some v =>
    have ex : ∃ j, j < i ∧ cellAt (es.take i) j = cellAt es i := by
      refine Classical.byContradiction fun q => ?_
      have : valV (mv es i) (kk (cellAt es i)) = none := g.mpr fun j hj e => q ⟨j, hj, by rw [cell_take hj (by omega)]; exact e⟩
      rw [hv] at this
      cases this
    have an : ((mv es i).any fun kv => decide (kv.1 = kk (cellAt es i))) = true := by
      cases q : (mv es i).any fun kv => decide (kv.1 = kk (cellAt es i)) with
      | true => rfl
      | false =>
        have : valV (mv es i) (kk (cellAt es i)) = none := by
          unfold valV
          rw [Option.map_eq_none_iff, List.find?_eq_none]
          intro kv hkv h
          have := List.any_eq_false.mp q kv hkv
          exact this h
        rw [hv] at this
        cases this
    unfold putK
    rw [if_pos an]
    unfold mv
    rw [tk, if_pos ex, List.append_nil, List.map_map]
    refine List.map_congr_left fun k hk => ?_
    show (if kk (cellAt es k) = kk (cellAt es i) then (kk (cellAt es k), V.int ((LO.mC (cellAt es) (List.range i) (cellAt es i) : Nat) + 1)) else _) = _
    by_cases e : cellAt es k = cellAt es i
    · rw [if_pos (by rw [e]), e, last]
    · rw [if_neg (fun q => e ((kk_eq (fk k hk).2 hx).mp q)), mC_succ, if_neg (fun q => e q.symm)]
      rfl
/-! ### divided, one after another -/
def divs (f : Nat) (ms : List Nat) : Nat := ms.foldl (fun f m => f / m) f
theorem divs_prod (ms : List Nat) : ∀ f, divs f ms = f / ms.foldr (fun m p => m * p) 1 := by
  induction ms with
  | nil => intro f; simp [divs]
  | cons m r ih =>
    intro f
    show divs (f / m) r = _
    rw [ih, Nat.div_div_eq_div_mul]
    rfl
theorem prod_split (cell h : Nat → Nat) : ∀ L : List Nat, (∀ x ∈ L, cell x < 3) → (L.map h).foldr (fun m p => m * p) 1 = ((L.filter fun x => decide (cell x = 0)).map h).foldr (fun m p => m * p) 1 * (((L.filter fun x => decide (cell x = 1)).map h).foldr (fun m p => m * p) 1 * ((L.filter fun x => decide (cell x = 2)).map h).foldr (fun m p => m * p) 1)
  | [], _ => rfl
  | x :: r, hl => by
    have ih := prod_split cell h r fun y hy => hl y (List.mem_cons_of_mem _ hy)
    rw [List.map_cons, List.foldr_cons, ih]
    rcases three (hl x List.mem_cons_self) with e | e | e
    · rw [List.filter_cons_of_pos (by simp [e]), List.filter_cons_of_neg (by simp [e]), List.filter_cons_of_neg (by simp [e]), List.map_cons, List.foldr_cons]
      simp only [Nat.mul_assoc]
    · rw [List.filter_cons_of_neg (by simp [e]), List.filter_cons_of_pos (by simp [e]), List.filter_cons_of_neg (by simp [e]), List.map_cons, List.foldr_cons]
      simp only [Nat.mul_left_comm, Nat.mul_assoc]
    · rw [List.filter_cons_of_neg (by simp [e]), List.filter_cons_of_neg (by simp [e]), List.filter_cons_of_pos (by simp [e]), List.map_cons, List.foldr_cons]
      simp only [Nat.mul_left_comm, Nat.mul_assoc]
theorem one_cell {es : Es} (i : Nat) : (((LG.firsts es).filter fun x => decide (cellAt es x = i)).map fun k => mE es (cellAt es k)).foldr (fun m p => m * p) 1 = mx (mE es i) := by
  have nd : ((LG.firsts es).filter fun x => decide (cellAt es x = i)).Nodup := (List.nodup_range.filter _).filter _
  have hm : ∀ x ∈ (LG.firsts es).filter fun x => decide (cellAt es x = i), x ∈ LG.firsts es ∧ cellAt es x = i := fun x hx => by
    rw [List.mem_filter] at hx
    exact ⟨hx.1, of_decide_eq_true hx.2⟩
  unfold mx
  generalize hL : ((LG.firsts es).filter fun x => decide (cellAt es x = i)) = M at nd hm
  match M, nd, hm, hL with
  | [], _, _, hL =>
    rw [if_pos]
    · rfl
    · refine LO.m_zero.mpr fun y hy e => ?_
      obtain ⟨k, hk, ek⟩ := has_first (List.mem_range.mp hy)
      have : k ∈ (LG.firsts es).filter fun x => decide (cellAt es x = i) := List.mem_filter.mpr ⟨hk, decide_eq_true (by rw [ek, e])⟩
      rw [hL] at this
      cases this
  | [a], _, hm, _ =>
    obtain ⟨h1, h2⟩ := hm a List.mem_cons_self
    rw [if_neg]
    · show mE es (cellAt es a) * 1 = _
      rw [h2, Nat.mul_one]
    · intro z
      exact LO.m_zero.mp z a (List.mem_range.mpr (firsts_mem.mp h1).1) h2
  | a :: b :: r, nd, hm, _ =>
    obtain ⟨h1, h2⟩ := hm a List.mem_cons_self
    obtain ⟨h3, h4⟩ := hm b (List.mem_cons_of_mem _ List.mem_cons_self)
    have e := first_one h1 h3 (by rw [h2, h4])
    have := (List.nodup_cons.mp nd).1
    rw [e] at this
    exact absurd List.mem_cons_self this
theorem divs_all {es : Es} (h3 : Ok3 es) (le : es.length ≤ 6) : divs (fac es.length) ((LG.firsts es).map fun k => mE es (cellAt es k)) = howmany es := by
  rw [divs_prod, prod_split (cellAt es) _ _ fun x hx => cell_lt h3 (firsts_mem.mp hx).1, one_cell, one_cell, one_cell, ← prod_all h3 le]
  have p : ∀ m, 0 < mx m := fun m => by unfold mx; split <;> omega
  rw [Nat.mul_assoc, Nat.mul_assoc]
  exact Nat.mul_div_cancel _ (Nat.mul_pos (p _) (Nat.mul_pos (p _) (p _)))
theorem mv_end (es : Es) : (mv es es.length).map Prod.snd = ((LG.firsts es).map fun k => mE es (cellAt es k)).map fun m : Nat => V.int ((m : Nat) : Int) := by
  unfold mv
  rw [List.take_length, List.map_map, List.map_map]
  rfl
def spOrders (K : PySem.W.Frag) : Sp := fun vs H Q _ => ∃ (g h t dx : Addr) (c : Cs) (es : Es), vs = [.ref g] ∧ LogIs K H g h t dx c es ∧ Ok3 es ∧ es.length ≤ 6 ∧ ∀ H', Ex H H' → Q (.int ((howmany es : Nat) : Int)) H'

theorem abc_at {i : Nat} (h : i < 3) : atI [V.str "a", V.str "b", V.str "c"] ((i : Nat) : Int) = some (.str (keyN i)) := by
  rcases three h with rfl | rfl | rfl <;> rfl

end K73
set_option Elab.async false
set_option linter.all false
set_option maxRecDepth 100000
set_option maxHeartbeats 8000000
namespace K73
open PySem PySem.Spec PyProof.Rows L2 He XH XV XR PEN TR XQ Evl XD PEN4


open LG XE
open LO (mE mx fac howmany every prod_all)
theorem divs_take (ms : List Nat) (f i m : Nat) (h : ms[i]? = some m) : divs f (ms.take (i + 1)) = divs f (ms.take i) / m := by
  rw [take_more h]
  unfold divs
  rw [List.foldl_append]
  rfl
theorem firsts_len' (es : Es) : (LG.firsts es).length ≤ es.length := by
  unfold LG.firsts
  refine Nat.le_trans (List.length_filter_le _ _) ?_
  rw [List.length_range]
  exact Nat.le_refl _

section
variable {P : Program} {w : World} {K : PySem.W.Frag} {mg : Str → Option Value} {base : Heap}

theorem ok_Log_orders {fd : FuncData} {f : Addr} (F : FnP K "orders" "Log.orders" s_Log_orders f fd) (T : Tx K w mg) : FnOk P w K mg base CX0 (0 + 1) f fd ["self"] (spOrders K) := by
  refine FunD.ok F sc_Log_orders (fun vs H Q E h => ?_) (fun cdv A outer s H vs Q E hr h => ?_)
  · obtain ⟨g, h, t, dx, c, es, rfl, _⟩ := h
    rfl
  · obtain ⟨g, h, t, dx, c, es, rfl, LI, h3, le, kq⟩ := h
    have n_len := T.fr "len" (by decide +kernel)
    refine ⟨_, PSs.nox (pss_cons (ps_set (i := 1) sc_Log_orders.nd rfl (Or.inl rfl) pe_dnewK)
      (pss_cons (ps_for PassesOwn.never rfl (pi_tup (pe_fldc (K := K) rfl (pv 0) rfl)) (pg_tup rfl (pgs_cons (pg_name (i := 2) sc_Log_orders.nd rfl (Or.inl rfl)) (pgs_cons (pg_name (i := 3) sc_Log_orders.nd rfl (Or.inl rfl)) pgs_nil)))
      (pss_one (ps_dput (Nat.lt_of_le_of_lt (Nat.add_le_add_left (by decide) _) hr.units) (pv 1) (pv 2) (pe_op op_add (pe_dget2 (Nat.lt_of_le_of_lt (Nat.add_le_add_left (by decide) _) hr.units) (pv 1) (pv 2) pe_int ⟨rfl, rfl, rfl, rfl⟩) pe_int) rfl)))
      (pss_cons (ps_set (i := 4) sc_Log_orders.nd rfl (Or.inl rfl) (pe_callBfun LX.cr_fact (by rfl) T.fc (pa_cons (pe_callB call_len_seq (by rfl) n_len (by decide +kernel) (pa_cons (pe_fldc (K := K) rfl (pv 0) rfl) pa_nil)) pa_nil)))
      (pss_cons (ps_lock (ps_for PassesOwn.never rfl (pi_values (pv 1)) (pg_name (i := 5) sc_Log_orders.nd rfl (Or.inl rfl))
      (pss_one (ps_set (i := 4) sc_Log_orders.nd rfl (Or.inl rfl) (pe_op op_fdiv (pv 4) (pv 5))))))
      (pss_one (ps_ret (pv 4))))))), ?_⟩
    obtain ⟨vs, ht, hvs, lvs⟩ := LI.tup
    intro q hq
    have e1 := Ex.new (o := .dK []) hq
    have g1 : upd H q (.dK []) q = some (.dK []) := upd_same
    generalize upd H q (.dK []) = H1 at e1 g1
    try dsimp only [gName, List.set]
    refine ⟨.ref g, rfl, g, _, dx, _, .ref t, rfl, e1 _ _ LI.ins, T.cl, T.no "entries" (by decide +kernel), rfl, t, rfl, ⟨vs, ex_t e1 ht⟩, ?_⟩
    refine for_tup (xs := vs) (fun i σ' H' => ∃ v2 v3, σ' = [some (.ref g), some (.ref q), v2, v3, none, none] ∧ Ex H H' ∧ H' q = some (.dK (mv es i))) ⟨_, _, rfl, e1, g1⟩ (fun i σ' H' _ hI => ?_) (fun i x σ' H' hx hI => ?_) (fun σ' H' hI => ?_)
    · obtain ⟨v2, v3, rfl, e2, _⟩ := hI
      exact ex_t e2 ht
    · obtain ⟨v2, v3, rfl, e2, g2⟩ := hI
      have hi := (List.getElem?_eq_some_iff.mp hx).1
      have hie : i < es.length := by omega
      obtain ⟨d, gd, dv⟩ := dpAll_at hvs hx
      rw [List.getElem?_map, getD_lt hie] at gd
      cases gd
      obtain ⟨a, rfl, sa⟩ := ent_tup dv
      have hc := cell_lt h3 hie
      have gm := (mv_get h3 (Nat.le_of_lt hie) hc).1
      refine ⟨a, _, rfl, ex_t e2 sa, rfl, _, _, rfl, _, _, rfl, rfl, ?_⟩
      try dsimp only [gName, List.set]
      refine ⟨.ref q, rfl, q, rfl, .inl ⟨_, .inl g2⟩, .str (keyN (cellAt es i)), rfl, _, DGet.k (k := kk (cellAt es i)) g2, ?_⟩
      rw [gm]
      refine ⟨_, 1, rfl, rfl, .ref q, rfl, .str (keyN (cellAt es i)), rfl, q, _, rfl, DPut.k (k := kk (cellAt es i)) g2 ?_, ⟨_, _, rfl, e2.mut hq, ?_⟩⟩
      · unfold mv
        rw [List.length_map]
        have := firsts_len' (es.take i)
        rw [List.length_take] at this
        exact fits (by omega)
      · rw [upd_same]
        exact congrArg (fun l => some (HO.dK l)) (mv_step h3 hie)
    obtain ⟨v2, v3, rfl, e2, g2⟩ := hI
    rw [lvs] at g2
    try dsimp only [gName, List.set]
    refine ⟨.ref g, rfl, g, _, dx, _, .ref t, rfl, e2 _ _ LI.ins, T.cl, T.no "entries" (by decide +kernel), rfl, t, vs, rfl, .inr (ex_t e2 ht), es.length, by rw [lvs], by omega, ?_⟩
    rw [LX.fac_is ⟨es.length, by omega⟩]
    try dsimp only [gName, List.set]
    refine ⟨q, _, g2, trivial, fun od => ⟨.ref q, rfl, q, od, _, rfl, upd_same, ?_⟩⟩
    have gq : upd H' q (.frz od (.dK (mv es es.length))) q = some (.frz od (.dK (mv es es.length))) := upd_same
    have lms : ((LG.firsts es).map fun k => mE es (cellAt es k)).length = (mv es es.length).length := by
      unfold mv
      rw [List.take_length, List.length_map, List.length_map]
    refine for_it walk_values (fun i σ' H2 => ∃ v5, σ' = [some (.ref g), some (.ref q), v2, v3, some (.int ((divs (fac es.length) (((LG.firsts es).map fun k => mE es (cellAt es k)).take i) : Nat) : Int)), v5] ∧ Ex (upd H' q (.frz od (.dK (mv es es.length)))) H2) ⟨_, rfl, Ex.refl _⟩ (fun i σ' H2 _ hI => ?_) (fun i x σ' H2 H3 hi hI hy => ?_) (fun σ' H2 hI => ?_)
    · obtain ⟨v5, rfl, e3⟩ := hI
      exact e3 _ _ gq
    · obtain ⟨v5, rfl, e3⟩ := hI
      obtain ⟨rfl, ky, hk⟩ := hy
      have hm : ((mv es es.length).map Prod.snd)[i]? = some x := by rw [List.getElem?_map, hk]; rfl
      rw [mv_end, List.getElem?_map] at hm
      cases hn : ((LG.firsts es).map fun k => mE es (cellAt es k))[i]? with
      | none =>
        rw [hn] at hm
        cases hm
      | some m =>
      rw [hn] at hm
      cases hm
      have mpos : 0 < m ∧ m ≤ es.length := by
        rw [List.getElem?_map] at hn
        cases hf : (LG.firsts es)[i]? with
        | none =>
          rw [hf] at hn
          cases hn
        | some k =>
          rw [hf] at hn
          cases hn
          refine ⟨Nat.pos_of_ne_zero fun z => ?_, Nat.le_trans (List.length_filter_le _ _) (by rw [List.length_range]; exact Nat.le_refl _)⟩
          exact LO.m_zero.mp z k (List.mem_range.mpr (firsts_mem.mp (List.mem_of_getElem? hf)).1) rfl
      try dsimp only [gName, List.set]
      refine s_asg (ev_op (ev_var rfl) (ev_var rfl) (rv_I ?_)) fun H4 e4 => ⟨some (.int ((m : Nat) : Int)), ?_, e3.trans e4⟩
      · exact ⟨by omega, by omega⟩
      · rw [divs_take _ _ _ _ hn]
        rfl
    · obtain ⟨v5, rfl, e3⟩ := hI
      rw [take_all (by rw [lms]; exact Nat.le_refl _), divs_all h3 le]
      refine ⟨e3 _ _ gq, ?_⟩
      refine s_ret (ev_var rfl) fun H4 e4 => kq H4 fun z u hz => ?_
      have zq : z ≠ q := fun e => by
        rw [e, hq] at hz
        cases hz
      exact e4 _ _ ((upd_ne zq).trans (e3 _ _ ((upd_ne zq).trans (e2 _ _ hz))))

end
end K73
set_option Elab.async false
set_option linter.all false
set_option maxRecDepth 100000
set_option maxHeartbeats 8000000
namespace K73
open PySem PySem.Spec PyProof.Rows L2 He XH XV XR PEN TR XQ Evl XD PEN4


open LG XE
open PZ (EvD EvDs ed_of ed_var eds_nil eds_cons ed_tup ed_str ed_int ev_neD ev_eqD ed_call)
open LO (mE mx fac howmany every prod_all ordersL orders_len)
def nvs (ns : List Nat) : List V := (ns.map fun n : Nat => (n : Int)).map V.int
theorem nvs_app (a b : List Nat) : nvs (a ++ b) = nvs a ++ nvs b := by
  unfold nvs
  rw [List.map_append, List.map_append]
theorem nvs_len (a : List Nat) : (nvs a).length = a.length := by
  unfold nvs
  rw [List.length_map, List.length_map]
theorem nvs_at {a : List Nat} {i n : Nat} (h : a[i]? = some n) : (nvs a)[i]? = some (.int ((n : Nat) : Int)) := by
  unfold nvs
  rw [List.getElem?_map, List.getElem?_map, h]
  rfl
theorem nvs_map (a : List Nat) : nvs a = a.map fun n : Nat => V.int (n : Int) := by
  unfold nvs
  rw [List.map_map]
  rfl
theorem nvs_flat (a : List Nat) : (nvs a).all flatV = true := by
  rw [nvs_map, List.all_map, List.all_eq_true]
  intro x _
  rfl
theorem inV_nvs (n : Nat) (a : List Nat) : inV (.int ((n : Nat) : Int)) (nvs a) = decide (n ∈ a) := by
  induction a with
  | nil => rfl
  | cons x r ih =>
    have e : inV (.int ((n : Nat) : Int)) (nvs (x :: r)) = (eqV (.int ((x : Nat) : Int)) (.int ((n : Nat) : Int)) || inV (.int ((n : Nat) : Int)) (nvs r)) := rfl
    rw [e, ih]
    have e2 : eqV (.int ((x : Nat) : Int)) (.int ((n : Nat) : Int)) = decide (n = x) := by
      by_cases q : n = x
      · rw [q]
        simp [eqV]
      · rw [decide_eq_false q]
        simp [eqV]
        omega
    rw [e2, ← Bool.decide_or]
    exact decide_eq_decide.mpr List.mem_cons.symm
theorem self_getD (a : List Nat) : a = (List.range a.length).map fun i => a.getD i 0 := by
  refine List.ext_getElem? fun i => ?_
  rw [List.getElem?_map]
  by_cases h : i < a.length
  · rw [List.getElem?_range h, List.getElem?_eq_getElem h]
    simp [List.getD_eq_getElem?_getD, h]
  · rw [List.getElem?_eq_none (by omega), List.getElem?_eq_none (by rw [List.length_range]; omega)]
    rfl
theorem given_list (a : List Nat) (f : Nat → Bool) : given a.length (fun i => f (a.getD i 0)) (fun i => V.int ((a.getD i 0 : Nat) : Int)) = nvs (a.filter f) := by
  rw [nvs_map]
  conv => rhs; rw [self_getD a]
  unfold given
  rw [List.filter_map, List.map_map]
  rfl
theorem getD_of {a : List Nat} {i n : Nat} (h : a[i]? = some n) : a.getD i 0 = n := by rw [List.getD_eq_getElem?_getD, h]; rfl
def listD (a : List Nat) : PyData := .list ((a.map fun n : Nat => (n : Int)).map PyData.int)
theorem dp_list {K : PySem.W.Frag} {H : Hp} {o : Addr} {a : List Nat} (h : SqL K H o (nvs a)) : Dp K H (.ref o) (listD a) := .lst h (by
  unfold nvs
  generalize (a.map fun n : Nat => (n : Int)) = b
  induction b with
  | nil => exact .nil
  | cons x r ih => exact .cons (.int x) ih)
theorem shp_list' (a : List Nat) : SeqAt.shaped (listD a) = true := by
  unfold listD
  generalize (a.map fun n : Nat => (n : Int)) = b
  have k := XQ.depth_nums b
  unfold SeqAt.shaped
  rw [Bool.and_eq_true]
  refine ⟨by simp [PyData.canLay0, PZ.layNums], decide_eq_true ?_⟩
  simp only [PyData.depth]
  omega
theorem eqv_nil (a : List Nat) : PyData.eqv (listD a) (.list []) = decide (a = []) := by
  cases a <;> rfl
theorem ed_nil {K : PySem.W.Frag} {σ : L2.St} {H : Hp} : EvD K (tLst tNil) σ H (.list []) := fun H1 e Q q => ⟨(show 0 ≤ sizeLine by decide), fun p hp => q (.ref p) _ (Ex.new hp) (.lst (sq_of upd_same) .nil)⟩
/-! ### new dicts, tuples -/
def EvK (te : TE) (σ : L2.St) (H : Hp) (kv : List (Key × V)) : Prop := ∀ H1, Ex H H1 → ∀ Q : VK, (∀ q H2, Ex H1 H2 → H2 q = some (.dK kv) → Q (.ref q) H2) → te σ H1 Q
def EvQ (K : PySem.W.Frag) (te : TE) (σ : L2.St) (H : Hp) (xs : List V) : Prop := ∀ H1, Ex H H1 → ∀ Q : VK, (∀ q H2, Ex H1 H2 → SqT K H2 q xs → Q (.ref q) H2) → te σ H1 Q
section
variable {K : PySem.W.Frag} {σ : L2.St} {H : Hp} {ta tb te : TE} {g h t dx : Addr} {c : Cs} {es : Es} {i : Nat}
theorem evk_cmp {neg : Bool} {a b : Cs} {q : Addr} (h1 : EvK ta σ H (dk a)) (h2 : Ev tb σ H (.ref q)) (hq : H q = some (.dK (dk b))) : Ev (tOp (rEqDct neg) ta tb) σ H (.bl (if neg then !Same a b else Same a b)) := fun H1 e Q k =>
  h1 H1 e _ fun p H2 e2 hp => h2 H2 (e.trans e2) _ fun H3 e3 => ⟨p, q, dk a, dk b, rfl, rfl, e3 _ _ hp, e3 _ _ (e2 _ _ (e _ _ hq)), flat_dk a, flat_dk b, by
    rw [dEq_dk]
    exact k H3 (e2.trans e3)⟩
theorem ek_var {a : Cs} {q : Addr} (hv : σ[i]? = some (some (.ref q))) (hq : H q = some (.dK (dk a))) : EvK (tVar i) σ H (dk a) := fun H1 e Q k => ⟨_, hv, k q H1 (Ex.refl _) (e _ _ hq)⟩
theorem ek_now (hv : σ[i]? = some (some (.ref g))) (LI : LogIs K H g h t dx c es) : EvK (tProp (ga K "Log") (spNow K) [] E0 (tVar i)) σ H (dk c) := fun H1 e Q k =>
  ⟨_, hv, g, dx, _, rfl, e _ _ LI.ins, g, h, t, dx, c, es, rfl, LI.mono e, fun q H2 e2 _ h2 => k q H2 e2 h2⟩
theorem nat_of' (ns : List Nat) : nat (ns.map fun n : Nat => (n : Int)) = ns := by
  unfold nat
  rw [List.map_map]
  exact List.map_id _
theorem good_none {n : Nat} {ns : List Nat} (h : ∀ k ∈ ns, k < n) : firstBad n (ns.map fun n : Nat => (n : Int)) = none := by
  unfold firstBad
  rw [List.find?_eq_none]
  intro b hb
  obtain ⟨k, hk, rfl⟩ := List.mem_map.mp hb
  have := h k hk
  simp
  omega
theorem bad_some {n : Nat} {ns : List Nat} {w : Int} (h : ∀ k ∈ ns, k < n) (hw : ¬ (0 ≤ w ∧ w < (n : Nat))) : firstBad n ((ns.map fun n : Nat => (n : Int)) ++ [w, 99]) = some w := by
  have h0 := good_none h
  unfold firstBad at h0 ⊢
  rw [List.find?_append, h0, Option.none_or, List.find?_cons_of_pos]
  rw [← Bool.decide_and, decide_eq_false hw]
  rfl
theorem ek_undL {E : XK} {j : Nat} {o : Addr} {ns : List Nat} (hv : σ[i]? = some (some (.ref g))) (hj : σ[j]? = some (some (.ref o))) (LI : LogIs K H g h t dx c es) (h3 : Ok3 es) (so : SqL K H o (nvs ns)) (ln : ns.length ≤ 100) (hn : ∀ n ∈ ns, n < es.length) : EvK (tMeth (ga K "Log") "undone" (spUndone K) [] E (tVar i) (tCons (tVar j) tNil)) σ H (dk (undo c es ns)) := fun H1 e Q k =>
  ⟨_, hv, g, dx, _, rfl, e _ _ LI.ins, rfl, _, hj, g, h, t, dx, o, c, es, _, rfl, LI.mono e, h3, .inl (ex_l e so), by rw [List.length_map]; exact ln, fun _ q H2 e2 _ h2 => k q H2 e2 (by rw [nat_of'] at h2; exact h2), fun b hb => by
    rw [good_none hn] at hb
    cases hb⟩
theorem eq_least (hv : σ[i]? = some (some (.ref g))) (LI : LogIs K H g h t dx c es) (h3 : Ok3 es) (le : es.length ≤ 100) : EvQ K (tMeth (ga K "Log") "least" (spLeast K) [] E0 (tVar i) tNil) σ H (nvs (LG.firsts es)) := fun H1 e Q k =>
  ⟨_, hv, g, dx, _, rfl, e _ _ LI.ins, rfl, g, h, t, dx, c, es, rfl, LI.mono e, h3, le, fun q H2 e2 h2 => k q H2 e2 (by rw [nvs_map]; exact h2)⟩
theorem eq_tup {o : Addr} {xs : List V} (hv : σ[i]? = some (some (.ref o))) (so : SqL K H o xs) : EvQ K (tCB (fun xs H Q => ∃ p ys, xs = [.ref p] ∧ ((SqL K H p ys ∧ ∀ l, H l = none → Q (.ref l) (upd H l (.tup ys))) ∨ (SqT K H p ys ∧ Q (.ref p) H))) (tCons (tVar i) tNil)) σ H xs := fun H1 e Q k =>
  ⟨_, hv, o, xs, rfl, .inl ⟨ex_l e so, fun l hl => k l _ (Ex.new hl) (st_of upd_same)⟩⟩
theorem ek_undQ {E : XK} {ns : List Nat} (hv : σ[i]? = some (some (.ref g))) (ha : EvQ K ta σ H (nvs ns)) (LI : LogIs K H g h t dx c es) (h3 : Ok3 es) (ln : ns.length ≤ 100) (hn : ∀ n ∈ ns, n < es.length) : EvK (tMeth (ga K "Log") "undone" (spUndone K) [] E (tVar i) (tCons ta tNil)) σ H (dk (undo c es ns)) := fun H1 e Q k =>
  ⟨_, hv, g, dx, _, rfl, e _ _ LI.ins, rfl, ha H1 e _ fun o H2 e2 so => ⟨g, h, t, dx, o, c, es, _, rfl, LI.mono (e.trans e2), h3, .inr so, by rw [List.length_map]; exact ln, fun _ q H3 e3 _ h2 => k q H3 (e2.trans e3) (by rw [nat_of'] at h2; exact h2), fun b hb => by
    rw [good_none hn] at hb
    cases hb⟩⟩
theorem ev_restL {E : XK} {j : Nat} {o : Addr} {ns : List Nat} (hv : σ[i]? = some (some (.ref g))) (hj : σ[j]? = some (some (.ref o))) (LI : LogIs K H g h t dx c es) (h3 : Ok3 es) (le : es.length ≤ 100) (so : SqL K H o (nvs ns)) (ln : ns.length ≤ 100) (hn : ∀ n ∈ ns, n < es.length) : Ev (tMeth (ga K "Log") "restores" (spRestores K) [] E (tVar i) (tCons (tVar j) tNil)) σ H (.bl (restB es ns)) := fun H1 e Q k =>
  ⟨_, hv, g, dx, _, rfl, e _ _ LI.ins, rfl, _, hj, g, h, t, dx, o, c, es, _, rfl, LI.mono e, h3, le, .inl (ex_l e so), by rw [List.length_map]; exact ln, fun _ => ⟨ex_l e so, fun H3 e3 => by
    rw [nat_of']
    exact k H3 e3⟩, fun b hb => by
    rw [good_none hn] at hb
    cases hb⟩
theorem ed_q {d : List PyData} {xs : List V} (h : EvQ K te σ H xs) (hd : ∀ H1, Ex H H1 → DpAll K H1 xs d) : EvD K te σ H (.tuple d) := fun H1 e Q k => h H1 e _ fun q H2 e2 sq => k _ H2 e2 (.tup sq (hd H2 (e.trans e2)))
end
theorem dps_nvs {K : PySem.W.Frag} {H : Hp} (a : List Nat) : DpAll K H (nvs a) ((a.map fun n : Nat => (n : Int)).map PyData.int) := by
  unfold nvs
  generalize (a.map fun n : Nat => (n : Int)) = b
  induction b with
  | nil => exact .nil
  | cons x r ih => exact .cons (.int x) ih
theorem lay_ent (e : Nat × W) : PyData.canLay0 (ent e) = true := by
  obtain ⟨i, w⟩ := e
  have hk : ∀ z ∈ [("a" : Str), "b", "c"], PyData.canLay0 (.str z) = true := by decide +kernel
  have h1 : PyData.canLay0 (.str (keyN i)) = true := by
    unfold keyN
    split
    · exact hk _ (by simp)
    · split
      · exact hk _ (by simp)
      · exact hk _ (by simp)
  have h2 : PyData.canLay0 (wd w) = true := by cases w <;> rfl
  have h1' : PyData.strOk (keyN i) = true := h1
  simp [ent, PyData.canLay0, PyData.canLayAll0, h1', h2]
theorem lay_ents : ∀ es : Es, PyData.canLayAll0 (es.map ent) = true
  | [] => by simp [PyData.canLayAll0]
  | e :: r => by simp [PyData.canLayAll0, lay_ent e, lay_ents r]
theorem dep_ents : ∀ es : Es, PyData.depthAll (es.map ent) ≤ 2
  | [] => by simp [PyData.depthAll]
  | e :: r => by
    have ih := dep_ents r
    obtain ⟨i, w⟩ := e
    cases w <;> simp [PyData.depthAll, PyData.depth, ent, wd] <;> omega
theorem shp_ents (es : Es) : SeqAt.shaped (.tuple (es.map ent)) = true := by
  have k := dep_ents es
  unfold SeqAt.shaped
  rw [Bool.and_eq_true]
  refine ⟨by simp [PyData.canLay0, lay_ents es], decide_eq_true ?_⟩
  simp only [PyData.depth]
  omega
theorem same_self (c : Cs) : Same c c = true := same_iff.mpr fun _ _ => rfl
theorem el_take {K : PySem.W.Frag} {te ti : TE} {σ : L2.St} {H : Hp} {a : Addr} {xs : List V} {i : Nat} (h : Ev te σ H (.ref a)) (h2 : Ev ti σ H (.int (i : Nat))) (hs : SqL K H a xs) : EvL (tSl (rSlL K) te tNoPart (tPart ti)) σ H (xs.take i) := by
  have := el_sl h eo_none (eo_some h2) hs
  rwa [cut_take] at this

theorem el_drop {K : PySem.W.Frag} {te ti : TE} {σ : L2.St} {H : Hp} {a : Addr} {xs : List V} {i : Nat} (h : Ev te σ H (.ref a)) (h2 : Ev ti σ H (.int ((i + 1 : Nat) : Int))) (hs : SqL K H a xs) : EvL (tSl (rSlL K) te (tPart ti) tNoPart) σ H (xs.drop (i + 1)) := by
  have := el_sl h (eo_some h2) eo_none hs
  rwa [cut_drop] at this
/-! ### lists of lists -/
inductive LLs (H : Hp) (D : Addr) : List V → List (List Nat) → Prop
  | nil : LLs H D [] []
  | cons {a : Addr} {ws : List V} {o : List Nat} {oss : List (List Nat)} : a ≠ D → H a = some (.lst (nvs o)) → LLs H D ws oss → LLs H D (.ref a :: ws) (o :: oss)
theorem LLs.ex {H H' : Hp} {D : Addr} {ws : List V} {oss : List (List Nat)} (e : Ex H H') (h : LLs H D ws oss) : LLs H' D ws oss := by
  induction h with
  | nil => exact .nil
  | cons n g _ ih => exact .cons n (e _ _ g) ih
theorem LLs.upd {H : Hp} {D : Addr} {o : HO} {ws : List V} {oss : List (List Nat)} (h : LLs H D ws oss) : LLs (upd H D o) D ws oss := by
  induction h with
  | nil => exact .nil
  | cons n g _ ih => exact .cons n ((upd_ne n).trans g) ih
theorem LLs.any {H : Hp} {D D' : Addr} {ws : List V} {oss : List (List Nat)} (h : LLs H D ws oss) (hD : H D' = none) : LLs H D' ws oss := by
  induction h with
  | nil => exact .nil
  | cons n g _ ih => exact .cons (fun e => by rw [e, hD] at g; cases g) g ih
theorem LLs.app {H : Hp} {D : Addr} {ws us : List V} {oss pss : List (List Nat)} (h : LLs H D ws oss) (k : LLs H D us pss) : LLs H D (ws ++ us) (oss ++ pss) := by
  induction h with
  | nil => exact k
  | cons n g _ ih => exact .cons n g ih
theorem LLs.len {H : Hp} {D : Addr} {ws : List V} {oss : List (List Nat)} (h : LLs H D ws oss) : ws.length = oss.length := by
  induction h with
  | nil => rfl
  | cons _ _ _ ih => rw [List.length_cons, List.length_cons, ih]
theorem LLs.at_ {H : Hp} {D : Addr} {ws : List V} {oss : List (List Nat)} (h : LLs H D ws oss) : ∀ {i : Nat} {v : V}, ws[i]? = some v → ∃ a o, v = .ref a ∧ oss[i]? = some o ∧ H a = some (.lst (nvs o)) := by
  induction h with
  | nil => intro i v hv; cases hv
  | @cons a ws o oss n g _ ih =>
    intro i v hv
    cases i with
    | zero =>
      cases hv
      exact ⟨a, o, rfl, rfl, g⟩
    | succ i => exact ih hv
theorem LLs.dp {K : PySem.W.Frag} {H : Hp} {D : Addr} {ws : List V} {oss : List (List Nat)} (h : LLs H D ws oss) : DpAll K H ws (oss.map listD) := by
  induction h with
  | nil => exact .nil
  | cons _ g _ ih => exact .cons (dp_list (sq_of g)) ih
def spLO (K : PySem.W.Frag) (n : Nat) : Sp := fun vs H Q _ => ∃ (r : Addr) (L : List Nat), vs = [.ref r] ∧ SqL K H r (nvs L) ∧ L.length = n ∧ n ≤ 6 ∧ ∀ q ws H', Ex H H' → H q = none → H' q = some (.lst ws) → LLs H' q ws (ordersL n L) → Q (.ref q) H'
def upto (n : Nat) (L : List Nat) (i : Nat) : List (List Nat) := (List.range i).flatMap fun j => (ordersL n (L.eraseIdx j)).map (L.getD j 0 :: ·)
theorem upto_succ (n : Nat) (L : List Nat) (i : Nat) : upto n L (i + 1) = upto n L i ++ (ordersL n (L.eraseIdx i)).map (L.getD i 0 :: ·) := by
  unfold upto
  rw [List.range_succ, List.flatMap_append, List.flatMap_singleton]
theorem upto_len {n : Nat} {L : List Nat} (h : L.length = n + 1) {i : Nat} (hi : i ≤ n + 1) : (upto n L i).length = i * fac n := by
  unfold upto
  rw [List.length_flatMap, LO.sum_const _ _ (fac n) fun j hj => ?_, List.length_range]
  have hj := List.mem_range.mp hj
  rw [List.length_map]
  exact orders_len n _ (by rw [List.length_eraseIdx_of_lt (by omega), h]; rfl)
theorem fac_le : ∀ n : Fin 7, fac n.1 ≤ 720 := by decide +kernel
theorem fac_small {n i : Nat} (h : n + 1 ≤ 6) (hi : i ≤ n + 1) : i * fac n ≤ 720 := by
  have h1 : i * fac n ≤ (n + 1) * fac n := Nat.mul_le_mul_right _ hi
  have h2 := fac_le ⟨n + 1, by omega⟩
  exact Nat.le_trans h1 h2

section
variable {P : Program} {w : World} {K : PySem.W.Frag} {mg : Str → Option Value} {base : Heap}

theorem ok_law_orders0 {fd : FuncData} (F : FnP K "_law_orders" "_law_orders" s_law_orders (ga K "_law_orders") fd) (T : Tx K w mg) : FnOk P w K mg base CX0 (0 + 1) (ga K "_law_orders") fd ["_law_rest"] (spLO K 0) := by
  refine FunD.ok F sc_law_orders (fun vs H Q E h => ?_) (fun cdv A outer s H vs Q E hr h => ?_)
  · obtain ⟨r, L, rfl, _⟩ := h
    rfl
  · obtain ⟨r, L, rfl, hS, hl, hn, kq⟩ := h
    refine ⟨_, PSs.nox (pss_cons (ps_if (pt_cmpR (op_eqD hr.units) (pv 0) (pe_lst pa_nil) (nomark _))
      (pss_one (ps_ret (pe_lst (pa_cons (pe_lst pa_nil) pa_nil))))
      pss_nil) (pss_cons ps_never (pss_cons ps_never (pss_one ps_never)))), ?_⟩
    have e0 : L = [] := List.length_eq_zero_iff.mp hl
    subst e0
    refine q_when (b := true) (et_is (et_test (ev_eqD (ed_var rfl (dp_list hS)) ed_nil (shp_list' _) (by rfl))) (by rw [eqv_nil]; rfl)) (fun _ H1 e1 => ?_) (fun z => nomatch z)
    refine ⟨(show 0 ≤ sizeLine by decide), fun a ha => ⟨(show 1 ≤ sizeLine by decide), fun q hq => ?_⟩⟩
    refine kq q _ _ ((e1.trans (Ex.new ha)).trans (Ex.new hq)) (fresh_back (e1.trans (Ex.new ha)) hq) upd_same (.cons (fun e => ?_) (Ex.new hq _ _ upd_same) .nil)
    rw [← e, upd_same] at hq
    cases hq

theorem ok_law_ordersS {fd : FuncData} {n k : Nat} (F : FnP K "_law_orders" "_law_orders" s_law_orders (ga K "_law_orders") fd) (T : Tx K w mg) (c_law_orders : Cl P w K mg base CX0 k (ga K "_law_orders") ["_law_rest"] (spLO K n)) : FnOk P w K mg base CX0 (k + 1) (ga K "_law_orders") fd ["_law_rest"] (spLO K (n + 1)) := by
  obtain ⟨fd_law_orders, G_law_orders, b_law_orders, kp_law_orders⟩ := c_law_orders
  refine FunD.ok F sc_law_orders (fun vs H Q E h => ?_) (fun cdv A outer s H vs Q E hr h => ?_)
  · obtain ⟨r, L, rfl, _⟩ := h
    rfl
  · obtain ⟨r, L, rfl, hS, hl, hn, kq⟩ := h
    have n_range := T.fr "range" (by decide +kernel)
    have n_len := T.fr "len" (by decide +kernel)
    have g_law_orders := T.gl "_law_orders" (by decide +kernel)
    refine ⟨_, PSs.nox (pss_cons (ps_if (pt_cmpR (op_eqD hr.units) (pv 0) (pe_lst pa_nil) (nomark _))
      (pss_one (ps_ret (pe_lst (pa_cons (pe_lst pa_nil) pa_nil))))
      pss_nil)
      (pss_cons (ps_set (i := 1) sc_law_orders.nd rfl (Or.inl rfl) (pe_lst pa_nil))
      (pss_cons (ps_for PassesOwn.never rfl (pi_range1 (by rfl) n_range (pa_cons (pe_callB call_len_seq (by rfl) n_len (by decide +kernel) (pa_cons (pv 0) pa_nil)) pa_nil)) (pg_name (i := 2) sc_law_orders.nd rfl (Or.inr rfl))
      (pss_one (ps_set (i := 1) sc_law_orders.nd rfl (Or.inl rfl) (pe_op op_cat (pv 1) (pe_lc (own := [("_law_order", 3)]) (g := gName 3) (by rfl) sc_law_orders.nd (pi_list (pe_call G_law_orders (hr.mono (by omega)) (by rfl) g_law_orders kp_law_orders b_law_orders .nil pass0 (pa_cons (pe_op op_cat (pe_slice sl_list (pv 0) po_none (po_some (pv 2))) (pe_slice sl_list (pv 0) (po_some (pe_op op_add (pv 2) pe_int)) po_none)) pa_nil))) (blkOk_by (own := [("_law_order", 3)]) (N := ["_law_rest", "_law_found", "_law_at", "_law_order"]) (sc := defScope s_law_orders) (by decide +kernel)) (fun _ _ _ _ _ => (pg_name (i := 3) sc_law_orders.nd rfl (Or.inl rfl))) (fun _ _ _ _ _ => pts_nil) (fun _ _ _ _ _ => (pe_op op_cat (pe_lst (pa_cons (pe_ix (ix_list : IxR _ (rIxL K)) (pv 0) (pv 2) (fun _ _ => rfl)) pa_nil)) (pv 3))))))))
      (pss_one (ps_ret (pv 1)))))), ?_⟩
    have lv : (nvs L).length = n + 1 := by rw [nvs_len, hl]
    refine q_when (b := false) (et_is (et_test (ev_eqD (ed_var rfl (dp_list hS)) ed_nil (shp_list' _) (by rfl))) (by rw [eqv_nil]; exact decide_eq_false (fun e => by rw [e] at hl; cases hl))) (fun z => nomatch z) (fun _ H1 e1 => ?_)
    refine ⟨(show 0 ≤ sizeLine by decide), fun F0 hF0 => ?_⟩
    have hF0' := fresh_back e1 hF0
    have e2 := e1.trans (Ex.new (o := .lst []) hF0)
    have g2 : upd H1 F0 (.lst []) F0 = some (.lst []) := upd_same
    generalize upd H1 F0 (.lst []) = H2 at e2 g2
    clear hF0 e1
    try dsimp only [gName, List.set]
    refine q_forR1 (n := ((n + 1 : Nat) : Int)) (ea_cons (ev_is (ev_len (ev_var rfl) (ex_l e2 hS)) (by rw [lv])) ea_nil) ⟨by omega, by omega⟩ (fun i σ' H' => ∃ (F : Addr) (ws : List V) (v2 v3 : Option V), σ' = [some (.ref r), some (.ref F), v2, v3] ∧ Ex H H' ∧ H F = none ∧ H' F = some (.lst ws) ∧ LLs H' F ws (upto n L i)) (fun H3 e3 => ⟨F0, [], _, _, rfl, e2.trans e3, hF0', e3 _ _ g2, .nil⟩) (fun i σ' H3 hi hI => ?_) (fun σ' H3 hI => ?_)
    · obtain ⟨F, ws, v2, v3, rfl, e3, hF, gF, dF⟩ := hI
      have hin : i < n + 1 := by omega
      have gi : L[i]? = some (L.getD i 0) := by
        rw [List.getD_eq_getElem?_getD, List.getElem?_eq_getElem (by omega)]
        rfl
      have gx := nvs_at gi
      have le : (L.eraseIdx i).length = n := by rw [List.length_eraseIdx_of_lt (by omega), hl]; rfl
      have ee : nvs (L.eraseIdx i) = (nvs L).take i ++ (nvs L).drop (i + 1) := by
        rw [List.eraseIdx_eq_take_drop_succ, nvs_app, nvs_map, nvs_map, nvs_map, List.map_take, List.map_drop]
      have lo := orders_len n _ le
      have lF := dF.len
      rw [upto_len hl (Nat.le_of_lt hin)] at lF
      have sm : (i + 1) * fac n ≤ 720 := fac_small hn hin
      have sm2 : (i + 1) * fac n = i * fac n + fac n := by rw [Nat.add_mul, Nat.one_mul]
      try dsimp only [gName, List.set]
      refine ⟨.ref F, rfl, ?_⟩
      refine (el_take (i := i) (ev_var rfl) (ev_var rfl) (ex_l e3 hS)) H3 (Ex.refl _) _ fun A1 H4 hA1 e4 g4 => ?_
      refine (el_drop (i := i) (ev_var rfl) (ev_op (ev_var rfl) ev_c rv_I0) (ex_l (e3.trans e4) hS)) H4 (Ex.refl _) _ fun A2 H5 hA2 e5 g5 => ⟨A1, A2, _, _, rfl, rfl, e5 _ _ g4, g5, fits (by rw [List.length_take, List.length_drop, lv]; omega), fun A3 hA3 => ?_⟩
      have e6 := ((e3.trans e4).trans e5).trans (Ex.new (o := .lst ((nvs L).take i ++ (nvs L).drop (i + 1))) hA3)
      have e36 := (e4.trans e5).trans (Ex.new (o := .lst ((nvs L).take i ++ (nvs L).drop (i + 1))) hA3)
      have g6 : upd H5 A3 (.lst ((nvs L).take i ++ (nvs L).drop (i + 1))) A3 = some (.lst (nvs (L.eraseIdx i))) := by rw [upd_same, ee]
      generalize upd H5 A3 (.lst ((nvs L).take i ++ (nvs L).drop (i + 1))) = H6 at e6 e36 g6
      refine ⟨A3, L.eraseIdx i, rfl, sq_of g6, le, by omega, fun q wq H7 e7 hq gq dq => ?_⟩
      have e37 := e36.trans e7
      have lq := dq.len
      rw [lo] at lq
      refine ⟨q, rfl, ⟨_, sq_of gq⟩, fun D hD => ?_⟩
      refine lc_list (xs := wq) (fun j H' => Ex H7 H' ∧ ∃ us, H' D = some (.lst us) ∧ LLs H' D us (((ordersL n (L.eraseIdx i)).take j).map (L.getD i 0 :: ·))) ⟨Ex.new hD, [], upd_same, .nil⟩ (fun j H' _ hI => sq_of (hI.1 _ _ gq)) (fun j x H8 hx hI => ?_) (fun H8 hI => ?_)
      · obtain ⟨e8, us, g8, d8⟩ := hI
        obtain ⟨a, o, rfl, ho, ga⟩ := dq.at_ hx
        have hj := (List.getElem?_eq_some_iff.mp hx).1
        have lo2 : o.length ≤ n := by
          have := (LO.orders_perm n _ le o (List.mem_of_getElem? ho)).length_eq
          omega
        have lu := d8.len
        rw [List.length_map, List.length_take] at lu
        have e38 := e37.trans e8
        refine ⟨rfl, yes_go ?_⟩
        refine (ev_op (ev_var rfl) (ev_var rfl) (rv_ixL (ex_l (e3.trans e38) hS) (atI_nat gx))) H8 (Ex.refl _) _ fun H9 e9 => ⟨(show 1 ≤ sizeLine by decide), fun B hB => ⟨.ref a, rfl, B, a, [.int ((L.getD i 0 : Nat) : Int)], nvs o, rfl, rfl, upd_same, Ex.new hB _ _ (e9 _ _ (e8 _ _ ga)), fits (by rw [nvs_len]; show 1 + o.length ≤ 1000; omega), fun C hC => ?_⟩⟩
        have e10 := (e9.trans (Ex.new (o := .lst [V.int ((L.getD i 0 : Nat) : Int)]) hB)).trans (Ex.new (o := .lst ([V.int ((L.getD i 0 : Nat) : Int)] ++ nvs o)) hC)
        have gC : upd (upd H9 B (.lst [V.int ((L.getD i 0 : Nat) : Int)])) C (.lst ([V.int ((L.getD i 0 : Nat) : Int)] ++ nvs o)) C = some (.lst (nvs (L.getD i 0 :: o))) := by
          rw [upd_same]
          rfl
        have CD : C ≠ D := fun e => by
          have : upd H9 B (.lst [V.int ((L.getD i 0 : Nat) : Int)]) D = some (.lst us) := Ex.new hB _ _ (e9 _ _ g8)
          rw [← e, hC] at this
          cases this
        generalize upd (upd H9 B (.lst [V.int ((L.getD i 0 : Nat) : Int)])) C (.lst ([V.int ((L.getD i 0 : Nat) : Int)] ++ nvs o)) = H10 at e10 gC
        refine ⟨us, e10 _ _ g8, fits (by omega), (e8.trans e10).mut hD, us ++ [.ref C], upd_same, ?_⟩
        rw [take_more ho, List.map_append]
        exact ((d8.ex e10).app (.cons CD gC .nil)).upd
      · obtain ⟨e8, us, g8, d8⟩ := hI
        rw [take_all (by omega)] at d8
        have lu := d8.len
        rw [List.length_map, lo] at lu
        have e38 := e37.trans e8
        refine ⟨F, D, ws, us, rfl, rfl, e38 _ _ gF, g8, fits (by rw [lF, lu]; omega), fun N hN => ?_⟩
        refine ⟨N, ws ++ us, _, _, rfl, (e3.trans e38).trans (Ex.new hN), fresh_back (e3.trans e38) hN, upd_same, ?_⟩
        rw [upto_succ]
        exact (((dF.ex e38).any hN).app (d8.any hN)).ex (Ex.new hN)
    · obtain ⟨F, ws, v2, v3, rfl, e3, hF, gF, dF⟩ := hI
      try dsimp only
      refine s_ret (ev_var rfl) fun H4 e4 => kq F ws H4 (e3.trans e4) hF (e4 _ _ gF) ?_
      have en : ordersL (n + 1) L = upto n L (n + 1) := by
        show (List.range L.length).flatMap _ = _
        rw [hl]
        rfl
      rw [en]
      exact dF.ex e4

end
end K73
set_option Elab.async false
set_option linter.all false
set_option maxRecDepth 100000
set_option maxHeartbeats 8000000
namespace K73
open PySem PySem.Spec PyProof.Rows L2 He XH XV XR PEN TR XQ Evl XD PEN4


open LG XE
open PZ (EvD EvDs ed_of ed_var eds_nil eds_cons ed_tup ed_str ed_int ev_neD ev_eqD ed_call)
open LO (mE mx fac howmany every prod_all ordersL orders_len HistB count_rest len_every every_lt)
def spLaw (K : PySem.W.Frag) : Sp := fun vs H Q _ => ∃ (a : Addr) (ns : List Int), vs = [.ref a] ∧ SqL K H a (ns.map V.int) ∧ ns.length ≤ 63 ∧ ∀ H', Q (.bl true) H'
def spLOa (K : PySem.W.Frag) : Sp := fun vs H Q E => ∃ n, n ≤ 6 ∧ spLO K n vs H Q E
theorem lo_all {P : Program} {w : World} {K : PySem.W.Frag} {mg : Str → Option Value} {base : Heap} {CX : CXT} {k : Nat} {f : Addr} {fd : FuncData} {ps : List Str} (h : ∀ n, n ≤ 6 → FnOk P w K mg base CX k f fd ps (spLO K n)) : FnOk P w K mg base CX k f fd ps (spLOa K) :=
  ⟨fun vs H Q E ⟨n, hn, q⟩ => (h n hn).len vs H Q E q, fun A outer s H args us vs Q E hr he hb hv ⟨n, hn, q⟩ => (h n hn).run A outer s H args us vs Q E hr he hb hv q⟩

structure Sg (K : PySem.W.Frag) (H : Hp) (p l g h t dx N : Addr) (c : Cs) (es : Es) (zs : List Str) (b : Nat) : Prop where
  pen : Pen4 p l b H
  li : LogIs K H g h t dx c es
  gn : H N = some (.lst (zs.map V.str))
theorem Sg.ex {K : PySem.W.Frag} {H H' : Hp} {p l g h t dx N : Addr} {c : Cs} {es : Es} {zs : List Str} {b : Nat} (s : Sg K H p l g h t dx N c es zs b) (e : Ex H H') : Sg K H' p l g h t dx N c es zs b := ⟨s.pen.ex e, s.li.mono e, e _ _ s.gn⟩
theorem names_count {es : Es} (h3 : Ok3 es) {i : Nat} (hi : i < 3) : (es.map fun e => keyN e.1).count (keyN i) = mE es i := by
  have e : es = (List.range es.length).map fun k => (cellAt es k, worthAt es k) := by
    refine List.ext_getElem? fun k => ?_
    rw [List.getElem?_map]
    by_cases q : k < es.length
    · rw [List.getElem?_range q, getD_lt q]
      rfl
    · rw [List.getElem?_eq_none (by omega), List.getElem?_eq_none (by rw [List.length_range]; omega)]
      rfl
  have e2 : (es.map fun e => keyN e.1) = (List.range es.length).map fun k => keyN (cellAt es k) := by
    conv => lhs; rw [e]
    rw [List.map_map]
    rfl
  rw [e2, List.count_eq_countP, List.countP_map, List.countP_eq_length_filter]
  unfold LO.mE LO.mC
  congr 1
  refine List.filter_congr fun k hk => ?_
  have hc := cell_lt h3 (List.mem_range.mp hk)
  show (keyN (cellAt es k) == keyN i) = _
  by_cases q : cellAt es k = i
  · rw [q]
    simp
  · rw [decide_eq_false q]
    have : keyN (cellAt es k) ≠ keyN i := fun z => q ((keyN_eq hc hi).mp z)
    simp [this]
def pr (es : Es) : Nat → Nat
  | 0 => howmany es
  | i + 1 => pr es i * mx (mE es i)
theorem pr_all {es : Es} (h3 : Ok3 es) (le : es.length ≤ 6) : pr es 3 = fac es.length := prod_all h3 le
theorem same_rest {c : Cs} {es : Es} {o : List Nat} (hist : HistB Ten true c1 es c) (ho : o ∈ every es) : Same (undo c es o) c1 = restB es o := by
  have hv := (every_lt ho).1
  cases hr : restB es o with
  | true => exact LO.right_backB hist hv hr
  | false => exact LO.wrong_notB hist hv c1_small hr
theorem lay_lists : ∀ oss : List (List Nat), PyData.canLayAll0 (oss.map listD) = true
  | [] => by simp [PyData.canLayAll0]
  | o :: r => by
    have h1 : PyData.canLay0 (listD o) = true := SeqAt.canLay_of_shaped (shp_list' o)
    simp [PyData.canLayAll0, h1, lay_lists r]
theorem dep_lists : ∀ oss : List (List Nat), PyData.depthAll (oss.map listD) ≤ 2
  | [] => by simp [PyData.depthAll]
  | o :: r => by
    have ih := dep_lists r
    have k := XQ.depth_nums (o.map fun n : Nat => (n : Int))
    have h : PyData.depth (listD o) ≤ 2 := by
      unfold listD
      simp only [PyData.depth]
      omega
    rw [List.map_cons]
    simp only [PyData.depthAll]
    omega
theorem shp_lists (oss : List (List Nat)) : SeqAt.shaped (.list (oss.map listD)) = true := by
  have k := dep_lists oss
  unfold SeqAt.shaped
  rw [Bool.and_eq_true]
  refine ⟨by simp [PyData.canLay0, lay_lists oss], decide_eq_true ?_⟩
  simp only [PyData.depth]
  omega
theorem any_list {oss : List (List Nat)} {o : List Nat} (h : o ∈ oss) : ((oss.map listD).any fun z => PyData.eqv z (listD o)) = true := by
  rw [List.any_eq_true]
  exact ⟨listD o, List.mem_map.mpr ⟨o, h, rfl⟩, PZ.eqv_same (shp_list' o)⟩
theorem nvs_rev (a : List Nat) : (nvs a).reverse = nvs a.reverse := by
  rw [nvs_map, nvs_map, List.map_reverse]
theorem range_given (n : Nat) : given n (fun _ => true) (fun k => V.int ((k : Nat) : Int)) = nvs (List.range n) := by
  unfold given
  rw [List.filter_eq_self.mpr (fun _ _ => rfl), nvs_map]
theorem none_given (n : Nat) (v : Nat → V) : given n (fun _ => false) v = [] := by
  unfold given
  rw [List.filter_eq_nil_iff.mpr (fun _ _ => Bool.false_ne_true)]
  rfl
theorem ed_ofL {K : PySem.W.Frag} {te : TE} {σ : L2.St} {H : Hp} (h : EvL te σ H []) : EvD K te σ H (.list []) := fun H1 e Q q => h H1 e _ fun p H2 _ e2 h2 => q _ H2 e2 (.lst (sq_of h2) .nil)
theorem mx_if (m : Nat) : (if ((m : Nat) : Int) > 1 then ((m : Nat) : Int) else 1) = ((mx m : Nat) : Int) := by
  unfold LO.mx
  by_cases z : m = 0
  · rw [if_pos z, if_neg (by omega)]
    rfl
  · rw [if_neg z]
    by_cases o : m = 1
    · rw [if_neg (by omega), o]
      rfl
    · rw [if_pos (by omega)]
theorem room65 {A : Around} (h : Room 10 A) : A.units + 65 < cLine := by
  have := h.un
  omega
section
variable {K : PySem.W.Frag} {σ : L2.St} {H : Hp} {g h t dx N : Addr} {c : Cs} {es : Es} {i j : Nat}
theorem ev_orders (hv : σ[i]? = some (some (.ref g))) (LI : LogIs K H g h t dx c es) (h3 : Ok3 es) (le : es.length ≤ 6) : Ev (tMeth (ga K "Log") "orders" (spOrders K) [] E0 (tVar i) tNil) σ H (.int ((howmany es : Nat) : Int)) := fun H1 e Q k =>
  ⟨_, hv, g, dx, _, rfl, e _ _ LI.ins, rfl, g, h, t, dx, c, es, rfl, LI.mono e, h3, le, fun H2 e2 => k H2 e2⟩
theorem ev_count {z : Nat} (hv : σ[i]? = some (some (.ref N))) (hj : σ[j]? = some (some (.str (keyN z)))) (gn : H N = some (.lst ((es.map fun e => keyN e.1).map V.str))) (h3 : Ok3 es) (hz : z < 3) : Ev (tBM K "list" (LX.rCntS K) (tVar i) (tCons (tVar j) tNil)) σ H (.int ((mE es z : Nat) : Int)) := fun H1 e Q k =>
  ⟨_, hv, .inl ⟨rfl, _, sq_of (e _ _ gn)⟩, _, hj, N, _, keyN z, rfl, rfl, sq_of (e _ _ gn), by
    rw [names_count h3 hz]
    exact k H1 (Ex.refl _)⟩
end
theorem q_callL {sp : Sp} {E : XK} {tl : TE} {i : Nat} {tz : TS} {D : Ends} {σ : L2.St} {H : Hp} {xs : List V} (h : EvL tl σ H xs) (k : ∀ p H1, H p = none → Ex H H1 → H1 p = some (.lst xs) → sp ([.ref p] ++ []) H1 (fun v H2 => tz D (σ.set i (some v)) H2) E) : tSeq (tAsg (tCall sp [] E (tCons tl tNil)) (gName i)) tz D σ H := h H (Ex.refl H) _ k
theorem ev_revNot {K : PySem.W.Frag} {tl : TE} {i : Nat} {σ : L2.St} {H : Hp} {xs : List V} {D : Addr} {d : PyData} {ds : List PyData} (h : EvL tl σ H xs) (hv : σ[i]? = some (some (.ref D))) (k : ∀ R H3, Ex H H3 → H3 R = some (.lst xs.reverse) → Dp K H3 (.ref R) d ∧ Dp K H3 (.ref D) (.list ds)) (sd : SeqAt.shaped d = true) (ss : SeqAt.shaped (.list ds) = true) : Ev (tOp (rNotInD K) (tRevL K tl) (tVar i)) σ H (.bl (!ds.any fun z => PyData.eqv z d)) := fun H1 e1 Q q =>
  h H1 e1 _ fun R2 H2 _ e2 g2 => ⟨R2, _, rfl, sq_of g2, fun R3 hR3 => ⟨_, hv, d, ds, (k R3 _ ((e1.trans e2).trans (Ex.new hR3)) upd_same).1, (k R3 _ ((e1.trans e2).trans (Ex.new hR3)) upd_same).2, sd, ss, q _ (e2.trans (Ex.new hR3))⟩⟩
theorem pr_small {es : Es} (h3 : Ok3 es) (le : es.length ≤ 6) : ∀ i, i ≤ 3 → pr es i ≤ 720 := by
  have pos : ∀ m, 0 < mx m := fun m => by unfold LO.mx; split <;> omega
  have h3' : pr es 3 ≤ 720 := by
    rw [pr_all h3 le]
    exact fac_le ⟨es.length, by omega⟩
  have up : ∀ i, pr es i ≤ pr es (i + 1) := fun i => Nat.le_mul_of_pos_right _ (pos _)
  intro i hi
  have a : pr es 0 ≤ pr es 1 := up 0
  have b : pr es 1 ≤ pr es 2 := up 1
  have c : pr es 2 ≤ pr es 3 := up 2
  rcases (show i = 0 ∨ i = 1 ∨ i = 2 ∨ i = 3 by omega) with rfl | rfl | rfl | rfl <;> omega

section
variable {P : Program} {w : World} {K : PySem.W.Frag} {mg : Str → Option Value} {base : Heap}

theorem ok_law {fd : FuncData} (F : FnP K "law" "law" s_law (ga K "law") fd) (T : Tx K w mg) (c_law_start : Cl P w K mg base CX0 1 (ga K "_law_start") ["_law_script"] (spStart4 K)) (c_law_draw : Cl P w K mg base CX0 1 (ga K "_law_draw") ["_law_state", "_law_many"] spDraw4) (c_linit : Cl P w K mg base CX0 1 (ma K (ga K "Log") "__init__") ["self", "cells"] (spLInit K)) (c_change : Cl P w K mg base (L2.CX P w) 6 (ma K (ga K "Log") "change") ["self", "cell", "worth"] (spChange K)) (c_undone : Cl P w K mg base (L2.CX P w) 6 (ma K (ga K "Log") "undone") ["self", "order"] (spUndone K)) (c_restores : Cl P w K mg base (L2.CX P w) 6 (ma K (ga K "Log") "restores") ["self", "order"] (spRestores K)) (c_orders : Cl P w K mg base CX0 1 (ma K (ga K "Log") "orders") ["self"] (spOrders K)) (c_law_orders : Cl P w K mg base CX0 8 (ga K "_law_orders") ["_law_rest"] (spLOa K)) : FnOk P w K mg base CX0 (10 + 1) (ga K "law") fd ["_law_script"] (spLaw K) := by
  obtain ⟨fd_law_start, G_law_start, b_law_start, kp_law_start⟩ := c_law_start
  obtain ⟨fd_law_draw, G_law_draw, b_law_draw, kp_law_draw⟩ := c_law_draw
  obtain ⟨fd_linit, G_linit, b_linit, kp_linit⟩ := c_linit
  obtain ⟨fd_change, G_change, b_change, kp_change⟩ := c_change
  obtain ⟨fd_undone, G_undone, b_undone, kp_undone⟩ := c_undone
  obtain ⟨fd_restores, G_restores, b_restores, kp_restores⟩ := c_restores
  obtain ⟨fd_orders, G_orders, b_orders, kp_orders⟩ := c_orders
  obtain ⟨fd_law_orders, G_law_orders, b_law_orders, kp_law_orders⟩ := c_law_orders
  refine FunD.ok F sc_law (fun vs H Q E h => ?_) (fun cdv A outer s H vs Q E hr h => ?_)
  · obtain ⟨a, ns, rfl, _⟩ := h
    rfl
  · obtain ⟨a, ns, rfl, hS, hl, kq⟩ := h
    have g_law_start := T.gl "_law_start" (by decide +kernel)
    have g_Log := T.gl "Log" (by decide +kernel)
    have n_range := T.fr "range" (by decide +kernel)
    have g_law_draw := T.gl "_law_draw" (by decide +kernel)
    have g_law_orders := T.gl "_law_orders" (by decide +kernel)
    have n_len := T.fr "len" (by decide +kernel)
    have n_max := T.fr "max" (by decide +kernel)
    refine ⟨_, PSs.nox (pss_cons (ps_set (i := 1) sc_law.nd rfl (Or.inl rfl) (pe_call G_law_start (hr.mono (by decide)) (by rfl) g_law_start kp_law_start b_law_start .nil pass0 (pa_cons (pv 0) pa_nil)))
      (pss_cons (ps_set (i := 2) sc_law.nd rfl (Or.inr rfl) (pe_make T.mkL G_linit (hr.mono (by decide)) (by rfl) g_Log b_linit .nil pass0 (pa_cons (pe_disp (pps_cons pe_str pe_int (pps_cons pe_str pe_int (pps_cons pe_str pe_int pps_nil))) rfl rfl (by simp) (by decide)) pa_nil)))
      (pss_cons (ps_set (i := 3) sc_law.nd rfl (Or.inl rfl) (pe_lst pa_nil))
      (pss_cons (ps_for PassesOwn.never rfl (pi_range1 (by rfl) n_range (pa_cons (pe_call G_law_draw (hr.mono (by decide)) (by rfl) g_law_draw kp_law_draw b_law_draw .nil pass0 (pa_cons (pv 1) (pa_cons pe_int pa_nil))) pa_nil)) (pg_name (i := 4) sc_law.nd rfl (Or.inl rfl))
      (pss_cons (ps_set (i := 5) sc_law.nd rfl (Or.inl rfl) (pe_ix ix_list (pe_lst (pa_cons pe_str (pa_cons pe_str (pa_cons pe_str pa_nil)))) (pe_call G_law_draw (hr.mono (by decide)) (by rfl) g_law_draw kp_law_draw b_law_draw .nil pass0 (pa_cons (pv 1) (pa_cons pe_int pa_nil))) (fun _ _ => rfl)))
      (pss_cons (ps_expr (pe_meth (pv 2) T.cl (T.mm "change" (by decide +kernel)) G_change (hr.mono (by decide)) b_change .nil (passes_call takes0 (fun _ _ _ _ h => h)) (pa_cons (pv 5) (pa_cons (pe_op op_add pe_int (pv 4)) pa_nil))))
      (pss_one (ps_expr (pe_bm PySem.F.plainAttrs_list PySem.F.slot_list_append PySem.F.type_list_append mt_append (pv 3) (pa_cons (pv 5) pa_nil)))))))
      (pss_cons (ps_set (i := 6) sc_law.nd rfl (Or.inr rfl) (pe_disp (pps_cons pe_str pe_int (pps_cons pe_str pe_int (pps_cons pe_str pe_int pps_nil))) rfl rfl (by simp) (by decide)))
      (pss_cons (ps_set (i := 7) sc_law.nd rfl (Or.inl rfl) (pe_call G_law_orders (hr.mono (by decide)) (by rfl) g_law_orders kp_law_orders b_law_orders .nil pass0 (pa_cons (pe_lc (own := [("_law_k", 10)]) (g := gName 10) (by rfl) sc_law.nd (pi_range1 (by rfl) n_range (pa_cons (pe_callB call_len_seq (by rfl) n_len (by decide +kernel) (pa_cons (pv 3) pa_nil)) pa_nil)) (blkOk_by (own := [("_law_k", 10)]) (N := ["_law_script", "_law_pen", "_law_log", "_law_names", "_law_turn", "_law_name", "_law_begin", "_law_every", "_law_right", "_law_product", "_law_k", "_law_order"]) (sc := defScope s_law) (by decide +kernel)) (fun _ _ _ _ _ => (pg_name (i := 10) sc_law.nd rfl (Or.inl rfl))) (fun _ _ _ _ _ => pts_nil) (fun _ _ _ _ _ => (pv 10))) pa_nil)))
      (pss_cons (ps_setLc (i := 8) (own := [("_law_order", 11)]) (g := gName 11) (by rfl) sc_law.nd rfl rfl (sw_true rfl rfl rfl (by decide +kernel)) (pi_list (pv 7)) (blkOk_by (own := [("_law_order", 11)]) (N := ["_law_script", "_law_pen", "_law_log", "_law_names", "_law_turn", "_law_name", "_law_begin", "_law_every", "_law_right", "_law_product", "_law_k", "_law_order"]) (sc := defScope s_law) (by decide +kernel)) (fun _ _ _ _ _ => (pg_name (i := 11) sc_law.nd rfl (Or.inl rfl))) (fun _ _ _ _ _ => (pts_one (pt_cmpR (op_eqDct (Nat.lt_of_le_of_lt (Nat.le_add_right _ _) hr.units)) (pe_meth (pv 2) T.cl (T.mm "undone" (by decide +kernel)) G_undone (hr.mono (by decide)) b_undone .nil (passes_call takes0 (fun _ _ _ _ h => h)) (pa_cons (pv 11) pa_nil)) (pv 6) (nomark _)))) (fun _ _ _ _ _ => (pv 11)))
      (pss_cons (ps_if (PW.pt (pw_or (pt_cmpR op_ne (pe_meth0 (pv 2) T.cl (T.mm "orders" (by decide +kernel)) G_orders (hr.mono (by decide)) b_orders .nil pass0) (pe_callB call_len_seq (by rfl) n_len (by decide +kernel) (pa_cons (pv 8) pa_nil)) (nomark _)) (pw_or1 (pt_cmpR (op_notInD (room65 hr)) (pe_revL (pe_lc (own := [("_law_k", 10)]) (g := gName 10) (by rfl) sc_law.nd (pi_range1 (by rfl) n_range (pa_cons (pe_callB call_len_seq (by rfl) n_len (by decide +kernel) (pa_cons (pv 3) pa_nil)) pa_nil)) (blkOk_by (own := [("_law_k", 10)]) (N := ["_law_script", "_law_pen", "_law_log", "_law_names", "_law_turn", "_law_name", "_law_begin", "_law_every", "_law_right", "_law_product", "_law_k", "_law_order"]) (sc := defScope s_law) (by decide +kernel)) (fun _ _ _ _ _ => (pg_name (i := 10) sc_law.nd rfl (Or.inl rfl))) (fun _ _ _ _ _ => pts_nil) (fun _ _ _ _ _ => (pv 10)))) (pv 8) (by rfl)))))
      (pss_one (ps_ret pe_bl))
      pss_nil)
      (pss_cons (ps_if (pt_cmpR (op_neD hr.units) (pe_lc (own := [("_law_order", 11)]) (g := gName 11) (by rfl) sc_law.nd (pi_list (pv 8)) (blkOk_by (own := [("_law_order", 11)]) (N := ["_law_script", "_law_pen", "_law_log", "_law_names", "_law_turn", "_law_name", "_law_begin", "_law_every", "_law_right", "_law_product", "_law_k", "_law_order"]) (sc := defScope s_law) (by decide +kernel)) (fun _ _ _ _ _ => (pg_name (i := 11) sc_law.nd rfl (Or.inl rfl))) (fun _ _ _ _ _ => (pts_one (pt_not (pt_val (pe_meth (pv 2) T.cl (T.mm "restores" (by decide +kernel)) G_restores (hr.mono (by decide)) b_restores .nil (passes_call takes0 (fun _ _ _ _ h => h)) (pa_cons (pv 11) pa_nil)))))) (fun _ _ _ _ _ => (pv 11))) (pe_lst pa_nil) (nomark _))
      (pss_one (ps_ret pe_bl))
      pss_nil)
      (pss_cons (ps_set (i := 9) sc_law.nd rfl (Or.inl rfl) (pe_meth0 (pv 2) T.cl (T.mm "orders" (by decide +kernel)) G_orders (hr.mono (by decide)) b_orders .nil pass0))
      (pss_cons (ps_for PassesOwn.never rfl (pi_list (pe_lst (pa_cons pe_str (pa_cons pe_str (pa_cons pe_str pa_nil))))) (pg_name (i := 5) sc_law.nd rfl (Or.inl rfl))
      (pss_one (ps_set (i := 9) sc_law.nd rfl (Or.inl rfl) (pe_op op_mul (pv 9) (pe_callB (call_max2 rfl) (by rfl) n_max (by decide +kernel) (pa_cons pe_int (pa_cons (pe_bm PySem.F.plainAttrs_list PySem.F.slot_list_count PySem.F.type_list_count LX.mt_scount (pv 3) (pa_cons (pv 5) pa_nil)) pa_nil)))))))
      (pss_one (ps_ret (pe_cmpR op_eq (pv 9) (pe_callB call_len_seq (by rfl) n_len (by decide +kernel) (pa_cons (pv 7) pa_nil)) (nomark _))))))))))))))), ?_⟩
    refine ⟨.ref a, rfl, a, ns, rfl, hS, hl, fun p l H1 e1 hp pen => ?_⟩
    try dsimp only [gName, List.set]
    intro q hq
    refine ⟨upd_same, [(kk 0, .int 1), (kk 1, .int 2), (kk 2, .int 3)], rfl, by decide, ?_⟩
    rw [disp1]
    have e2 : Ex H1 (upd (upd H1 q (.dK [])) q (.dK (dk c1))) := (Ex.new (o := .dK []) hq).mut hq
    have g2 : upd (upd H1 q (.dK [])) q (.dK (dk c1)) q = some (.dK (dk c1)) := upd_same
    generalize upd (upd H1 q (.dK [])) q (.dK (dk c1)) = H2 at e2 g2
    intro g dx hg hdx hdg
    have e3 : Ex H2 (upd (upd H2 dx (.own g)) g (.ins (ga K "Log") dx [])) := (Ex.new (o := .own g) hdx).trans (Ex.new ((upd_ne (Ne.symm hdg)).trans hg))
    have g3 : upd (upd H2 dx (.own g)) g (.ins (ga K "Log") dx []) g = some (.ins (ga K "Log") dx []) := upd_same
    generalize upd (upd H2 dx (.own g)) g (.ins (ga K "Log") dx []) = H3 at e3 g3
    refine ⟨g, q, dx, c1, rfl, g3, e3 _ _ g2, fun h t H4 x4 hh LI => ⟨rfl, ?_⟩⟩
    have e4 : Ex H2 H4 := fun z o hz => x4 z o (fun e => by
      rw [e, hg] at hz
      cases hz) (e3 _ _ hz)
    have pen4 := (pen.ex e2).ex e4
    clear e2 g2 e3 g3 x4 hh hg hdx hq pen e1 hS e4
    try dsimp only [gName, List.set]
    refine ⟨(show 0 ≤ sizeLine by decide), fun N hN => ?_⟩
    have nN := pen4.new hN
    have S5 : Sg K (upd H4 N (.lst [])) p l g h t dx N c1 [] [] 1000000 := ⟨pen4.ex (Ex.new hN), LI.mono (Ex.new hN), upd_same⟩
    generalize upd H4 N (.lst []) = H5 at S5
    clear LI pen4 hN
    try dsimp only [gName, List.set]
    refine ⟨.ref p, rfl, p, l, 7, 999999, rfl, ⟨by decide, by decide⟩, S5.pen.less (by decide), fun r H6 hr6 px6 pen6 => ⟨r, rfl, by omega, by omega, ?_⟩⟩
    obtain ⟨rn, rfl⟩ : ∃ k : Nat, r = (k : Nat) := ⟨r.toNat, by omega⟩
    have S6 : Sg K H6 p l g h t dx N c1 [] [] 999999 := ⟨pen6, S5.li.px S5.pen px6, px6.get nN.1 nN.2 S5.gn⟩
    clear S5 px6 pen6
    refine for_range (lo := 0) (n := ((rn : Nat) : Int).toNat) (fun i σ' H' => ∃ (t : Addr) (c : Cs) (es : Es) (v4 v5 : Option V), σ' = [some (.ref a), some (.ref p), some (.ref g), some (.ref N), v4, v5, none, none, none, none, none, none] ∧ Sg K H' p l g h t dx N c es (es.map fun e => keyN e.1) (900000 - 4 * i) ∧ es.length = i ∧ HistB Ten true c1 es c) ⟨t, c1, [], _, _, rfl, ⟨S6.pen.less (by omega), S6.li, S6.gn⟩, rfl, LO.HistB.nil true c1⟩ (fun i σ' H8 hi hI => ?_) (fun σ' H8 hI => ?_)
    · clear S6
      obtain ⟨t, c, es, v4, v5, rfl, S, le8, hist⟩ := hI
      have hi6 : i < 6 := by omega
      try dsimp only [gName, List.set]
      refine ⟨(show 3 ≤ sizeLine by decide), fun M hM => ?_⟩
      have nM := S.pen.new hM
      have eM := Ex.new (o := .lst [V.str "a", V.str "b", V.str "c"]) hM
      have gM : upd H8 M (.lst [V.str "a", V.str "b", V.str "c"]) M = some (.lst [V.str "a", V.str "b", V.str "c"]) := upd_same
      have S9 := S.ex eM
      generalize upd H8 M (.lst [V.str "a", V.str "b", V.str "c"]) = H9 at gM S9
      clear S eM hM
      refine ⟨.ref p, rfl, p, l, 3, 900000 - 4 * i - 1, rfl, ⟨by decide, by decide⟩, S9.pen.less (by omega), fun r1 H10 hr1 px10 pen10 => ?_⟩
      obtain ⟨k, rfl⟩ : ∃ k : Nat, r1 = (k : Nat) := ⟨r1.toNat, by omega⟩
      have hk : k < 3 := by omega
      refine ⟨M, _, _, _, rfl, rfl, sq_of (px10.get nM.1 nM.2 gM), abc_at hk, ?_⟩
      have LI10 := S9.li.px S9.pen px10
      have N10 := px10.get nN.1 nN.2 S9.gn
      clear S9 px10 gM
      try dsimp only [gName, List.set]
      refine ⟨.ref g, rfl, g, dx, _, rfl, LI10.ins, rfl, .str (keyN k), rfl, .int ((0 : Int) + (i : Nat)), rfl, 10, _, rfl, rfl, g, h, t, dx, c, es, keyN k, wv (some (10 + ((0 : Int) + (i : Nat)))), rfl, LI10, by omega, fun i' x' hi' ek ex t' H11 fr LI11 => ?_, fun hno => absurd rfl (hno k hk), .inl ⟨k, _, hk, rfl, rfl⟩⟩
      obtain rfl := (keyN_eq hk hi').mp ek
      obtain rfl := wv_inj ex
      have ng : ∀ {z : Addr} {o : HO}, H10 z = some o → (∀ C a b, o ≠ .ins C a b) → z ≠ g := fun hz ho e => by
        rw [e, LI10.ins] at hz
        exact ho _ _ _ (Option.some.inj hz).symm
      have nh : ∀ {z : Addr} {o : HO}, H10 z = some o → (∀ kv, o ≠ .dK kv) → z ≠ h := fun hz ho e => by
        rw [e, LI10.held] at hz
        exact ho _ (Option.some.inj hz).symm
      have N11 := fr _ _ (ng N10 (fun _ _ _ e => nomatch e)) (nh N10 (fun _ e => nomatch e)) N10
      have pen11 : Pen4 p l (900000 - 4 * i - 1) H11 := Pen4.keep pen10 fun a xs ha => fr a _ (ng ha (fun _ _ _ e => nomatch e)) (nh ha (fun _ e => nomatch e)) ha
      clear fr ng nh LI10 N10 pen10
      try dsimp only
      have Ng : N ≠ g := fun e => by
        have := LI11.ins
        rw [← e, N11] at this
        cases this
      have Nh : N ≠ h := fun e => by
        have := LI11.held
        rw [← e, N11] at this
        cases this
      refine ⟨.ref N, rfl, .inl ⟨rfl, _, sq_of N11⟩, .str (keyN k), rfl, N, _, .str (keyN k), rfl, rfl, N11, fits (by rw [List.length_map, List.length_map]; omega), ⟨t', _, es ++ [(k, c k)], _, _, rfl, ⟨(pen11.upd nN.1 nN.2).less (by omega), LI11.upd (Nt.lst N11) Ng Nh, ?_⟩, by rw [List.length_append, le8]; rfl, hist.snoc hk fun _ => ?_⟩⟩
      · rw [upd_same, List.map_append, List.map_append]
        rfl
      · show (10 : Int) ≤ _
        omega
    obtain ⟨t, c, es, v4, v5, rfl, S, le8, hist⟩ := hI
    have le6 : es.length ≤ 6 := by omega
    have h3 := hist.ok
    clear S6 le8
    try dsimp only [gName, List.set]
    intro BG hBG
    refine ⟨upd_same, [(kk 0, .int 1), (kk 1, .int 2), (kk 2, .int 3)], rfl, by decide, ?_⟩
    rw [disp1]
    have eB : Ex H8 (upd (upd H8 BG (.dK [])) BG (.dK (dk c1))) := (Ex.new (o := .dK []) hBG).mut hBG
    have gB : upd (upd H8 BG (.dK [])) BG (.dK (dk c1)) BG = some (.dK (dk c1)) := upd_same
    have S1 := S.ex eB
    generalize upd (upd H8 BG (.dK [])) BG (.dK (dk c1)) = HB at gB S1
    clear S eB hBG
    try dsimp only [gName, List.set]
    have lz : ((es.map fun e => keyN e.1).map V.str).length = es.length := by rw [List.length_map, List.length_map]
    refine q_callL (el_lcR1 (j := 10) (n := ((((es.map fun e => keyN e.1).map V.str).length : Nat) : Int)) (fun _ => true) (fun k => .int ((k : Nat) : Int)) (ea_cons (ev_len (ev_var rfl) (sq_of S1.gn)) ea_nil) ⟨by omega, by omega⟩ (fun x => rfl) (fun k H1 e1 hk H4 e4 Q q => q H4 (Ex.refl _)) (fun k H1 e1 hk hf => ev_var rfl)) fun R H9 hR e9 g9 => ?_
    rw [lz, show ((es.length : Nat) : Int).toNat = es.length by omega, range_given] at g9
    refine ⟨es.length, le6, R, List.range es.length, rfl, sq_of g9, List.length_range, le6, fun EV wv H10 e10 hEV gEV dEV => ?_⟩
    replace dEV : LLs H10 EV wv (every es) := dEV
    have S2 := (S1.ex e9).ex e10
    have gB2 := e10 _ _ (e9 _ _ gB)
    have lwv : wv.length = fac es.length := by rw [dEV.len, len_every]
    have f720 := fac_le ⟨es.length, by omega⟩
    dsimp only at f720
    clear S1 gB g9 hR e9 e10 hEV
    try dsimp only [gName, List.set]
    refine ⟨.ref EV, rfl, EV, rfl, ⟨_, sq_of gEV⟩, fun D hD => ?_⟩
    refine lc_list (xs := wv) (fun j H' => Ex H10 H' ∧ ∃ us, H' D = some (.lst us) ∧ LLs H' D us (((every es).take j).filter fun o => restB es o)) ⟨Ex.new hD, [], upd_same, .nil⟩ (fun j H' _ hI => sq_of (hI.1 _ _ gEV)) (fun j x H11 hx hI => ?_) (fun H11 hI => ?_)
    · obtain ⟨e11, us, g11, d11⟩ := hI
      obtain ⟨aa, o, rfl, ho, ga⟩ := dEV.at_ hx
      have hj := (List.getElem?_eq_some_iff.mp hx).1
      have hoe := List.mem_of_getElem? ho
      obtain ⟨hv, lo⟩ := every_lt hoe
      have lu := d11.len
      have lu2 := List.length_filter_le (fun o => restB es o) ((every es).take j)
      rw [List.length_take] at lu2
      have aD : aa ≠ D := fun e => by
        rw [e, hD] at ga
        cases ga
      refine ⟨rfl, (et_test (b := restB es o) (ev_is (evk_cmp (neg := false) (ek_undL (i := 2) (j := 11) rfl rfl (S2.li.mono e11) h3 (sq_of (e11 _ _ ga)) (by omega) hv) (ev_var rfl) (e11 _ _ gB2)) (by rw [same_rest hist hoe]; rfl))) H11 (Ex.refl _) _ fun H12 e12 => ite2 (fun hb => ?_) (fun hb => ?_)⟩
      · refine ⟨.ref aa, rfl, us, e12 _ _ g11, fits (by omega), (e11.trans e12).mut hD, us ++ [.ref aa], upd_same, ?_⟩
        rw [take_more ho, List.filter_append, List.filter_cons_of_pos hb]
        exact ((d11.ex e12).app (.cons aD (e12 _ _ (e11 _ _ ga)) .nil)).upd
      · refine ⟨e11.trans e12, us, e12 _ _ g11, ?_⟩
        rw [take_more ho, List.filter_append, List.filter_cons_of_neg hb, List.filter_nil, List.append_nil]
        exact d11.ex e12
    obtain ⟨e11, us, g11, d11⟩ := hI
    rw [take_all (by rw [dEV.len]; exact Nat.le_refl _)] at d11
    have S3 := S2.ex e11
    have gB3 := e11 _ _ gB2
    have gEV3 := e11 _ _ gEV
    have lus : us.length = howmany es := by rw [d11.len, count_rest h3]
    have lus2 : us.length ≤ 720 := by
      have := List.length_filter_le (fun o => restB es o) (every es)
      rw [len_every] at this
      rw [d11.len]
      omega
    clear S2 gB2 gEV dEV hD e11
    try dsimp only [gName, List.set]
    refine q_when (b := false) (et_is (et_or (a := false) (b := false) (et_test (ev_is (ev_op (ev_orders rfl S3.li h3 le6) (ev_len (ev_var rfl) (sq_of g11)) (rv_ne rfl)) (by rw [lus, decide_eq_true rfl]; rfl))) fun _ => et_test (ev_is (ev_revNot (d := listD (List.range es.length).reverse) (ds := ((every es).filter fun o => restB es o).map listD) (el_lcR1 (j := 10) (n := ((((es.map fun e => keyN e.1).map V.str).length : Nat) : Int)) (fun _ => true) (fun k => .int ((k : Nat) : Int)) (ea_cons (ev_len (ev_var rfl) (sq_of S3.gn)) ea_nil) ⟨by omega, by omega⟩ (fun x => rfl) (fun k H1 e1 hk H4 e4 Q q => q H4 (Ex.refl _)) (fun k H1 e1 hk hf => ev_var rfl)) rfl (fun R3 H3 e3 g3 => ?_) (shp_list' _) (shp_lists _)) (by rw [any_list (List.mem_filter.mpr ⟨LO.rev_every es, LO.rev_rest es⟩)]; rfl))) rfl) (fun z => nomatch z) (fun _ H12 e12 => ?_)
    · rw [lz, show ((es.length : Nat) : Int).toNat = es.length by omega, range_given, nvs_rev] at g3
      exact ⟨dp_list (sq_of g3), .lst (sq_of (e3 _ _ g11)) ((d11.ex e3).dp)⟩
    have S4 := S3.ex e12
    have g12 := e12 _ _ g11
    have d12 := d11.ex e12
    have gEV4 := e12 _ _ gEV3
    clear S3 gB3 g11 d11 gEV3 e12
    refine q_when (b := false) (et_test (ev_is (ev_neD (d := .list []) (e := .list []) (ed_ofL ?_) ed_nil (by rfl) (by rfl)) (by rfl))) (fun z => nomatch z) (fun _ H13 e13 => ?_)
    · have := el_lcL (K := K) (σ := [some (.ref a), some (.ref p), some (.ref g), some (.ref N), v4, v5, some (.ref BG), some (.ref EV), some (.ref D), none, none, none]) (H := H12) (t := tNot (tB (tMeth (ga K "Log") "restores" (spRestores K) [] (fun _ _ _ => False) (tVar 2) (tCons (tVar 11) tNil)))) (te := tVar 11) (tl := tVar 8) (j := 11) (vs := [11]) (xs := us) (fun _ => false) (fun _ => .non) (ev_var rfl) (sq_of g12) (by omega) (fun x => rfl) (fun i x H1 e1 hx => ?_) (fun i x H1 e1 hx hf => nomatch hf)
      · rw [none_given] at this
        exact this
      · obtain ⟨aa, o, rfl, ho, ga⟩ := d12.at_ hx
        obtain ⟨hoe, hr⟩ := List.mem_filter.mp (List.mem_of_getElem? ho)
        obtain ⟨hv, lo⟩ := every_lt hoe
        exact et_is (et_not (et_B (ev_restL (i := 2) (j := 11) rfl rfl (S4.li.mono e1) h3 (by omega) (sq_of (e1 _ _ ga)) (by omega) hv))) (by rw [hr]; rfl)
    have S5 := S4.ex e13
    have gEV5 := e13 _ _ gEV4
    clear S4 g12 d12 gEV4 e13
    refine q_asg (ev_orders rfl S5.li h3 le6) fun H14 e14 => ?_
    have S6 := S5.ex e14
    have gEV6 := e14 _ _ gEV5
    clear S5 gEV5 e14
    try dsimp only [gName, List.set]
    refine q_forNLn (el_lst (ea_cons (ev_c (v := .str "a")) (ea_cons (ev_c (v := .str "b")) (ea_cons (ev_c (v := .str "c")) ea_nil))) (by decide)) (fun NN i σ' H' => ∃ w5, σ' = [some (.ref a), some (.ref p), some (.ref g), some (.ref N), v4, w5, some (.ref BG), some (.ref EV), some (.ref D), some (.int ((pr es i : Nat) : Int)), none, none] ∧ Ex H14 H' ∧ H' NN = some (.lst [.str "a", .str "b", .str "c"])) (fun NN H1 hN e1 g1 => ⟨_, rfl, e1, g1⟩) (fun NN i σ' H' _ hI => ?_) (fun NN i x σ' H' hx hI => ?_) (fun NN σ' H' hI => ?_)
    · obtain ⟨w5, rfl, e1, g1⟩ := hI
      exact sq_of g1
    · obtain ⟨w5, rfl, e1, g1⟩ := hI
      have hi3 : i < 3 := (List.getElem?_eq_some_iff.mp hx).1
      have hxx : x = .str (keyN i) := by
        rcases three hi3 with rfl | rfl | rfl <;> (cases hx; rfl)
      subst hxx
      have ps := pr_small h3 le6 i (by omega)
      try dsimp only [List.set]
      refine s_asg (v := .int ((pr es (i + 1) : Nat) : Int)) (ev_is (v := .int (((pr es i : Nat) : Int) * ((mx (mE es i) : Nat) : Int))) (ev_op (ev_var rfl) (ev_is (ev_max2 ev_c (ev_count rfl rfl (e1 _ _ S6.gn) h3 hi3)) (congrArg V.int (mx_if _))) (rv_I (.inl ⟨by omega, by omega⟩))) ?_) fun H2 e2 => ⟨_, rfl, e1.trans e2, e2 _ _ g1⟩
      show V.int (((pr es i : Nat) : Int) * ((mx (mE es i) : Nat) : Int)) = _
      rw [← Int.natCast_mul]
      rfl
    · obtain ⟨w5, rfl, e1, g1⟩ := hI
      refine s_ret (ev_is (ev_op (ev_var rfl) (ev_len (ev_var rfl) (sq_of (e1 _ _ gEV6))) (rv_eq rfl)) ?_) fun H5 e5 => kq H5
      show V.bl (decide (V.int ((pr es 3 : Nat) : Int) = V.int ((wv.length : Nat) : Int))) = _
      rw [pr_all h3 le6, lwv, decide_eq_true rfl]

end
end K73
set_option Elab.async false
set_option linter.all false
set_option maxRecDepth 100000
set_option maxHeartbeats 8000000

namespace K73
open PySem PySem.Spec PyProof.Rows L2 He XH XV XR PEN TR XQ Evl XD PEN4 XT LG XE
def steps : Nat := 60000

/-! ### the head -/
def fn : List He.DefD := [⟨("NoCell", some "__init__"), "__init__", "NoCell.__init__", defArgs s_NoCell_init, defBody s_NoCell_init, defScope s_NoCell_init, [], []⟩,
  ⟨("NoEntry", some "__init__"), "__init__", "NoEntry.__init__", defArgs s_NoEntry_init, defBody s_NoEntry_init, defScope s_NoEntry_init, [], []⟩,
  ⟨("Log", some "__init__"), "__init__", "Log.__init__", defArgs s_Log_init, defBody s_Log_init, defScope s_Log_init, [], []⟩,
  ⟨("Log", some "change"), "change", "Log.change", defArgs s_Log_change, defBody s_Log_change, defScope s_Log_change, [], []⟩,
  ⟨("Log", some "undone"), "undone", "Log.undone", defArgs s_Log_undone, defBody s_Log_undone, defScope s_Log_undone, [], []⟩,
  ⟨("Log", some "restores"), "restores", "Log.restores", defArgs s_Log_restores, defBody s_Log_restores, defScope s_Log_restores, [], []⟩,
  ⟨("Log", some "orders"), "orders", "Log.orders", defArgs s_Log_orders, defBody s_Log_orders, defScope s_Log_orders, [], []⟩,
  ⟨("Log", some "firsts"), "firsts", "Log.firsts", defArgs s_Log_firsts, defBody s_Log_firsts, defScope s_Log_firsts, [], []⟩,
  ⟨("Log", some "check_order"), "check_order", "Log.check_order", defArgs s_Log_check_order, defBody s_Log_check_order, defScope s_Log_check_order, [], []⟩,
  ⟨("Log", some "entries_in"), "entries_in", "Log.entries_in", defArgs s_Log_entries_in, defBody s_Log_entries_in, defScope s_Log_entries_in, [], []⟩,
  ⟨("_law_start", none), "_law_start", "_law_start", defArgs s_law_start, defBody s_law_start, defScope s_law_start, [], []⟩,
  ⟨("_law_draw", none), "_law_draw", "_law_draw", defArgs s_law_draw, defBody s_law_draw, defScope s_law_draw, [], []⟩,
  ⟨("_law_orders", none), "_law_orders", "_law_orders", defArgs s_law_orders, defBody s_law_orders, defScope s_law_orders, [], []⟩,
  ⟨("law", none), "law", "law", defArgs s_law, defBody s_law, defScope s_law, [], []⟩]
def fa : List Fc := [glosB globs, freesB frees, fun K => (Fa.cls "Log").ok K, fun K => ["held", "entries"].all fun x => (Fa.noat "Log" x).ok K, fun K => (Fa.mkr "Log").ok K, fun K => ["change", "undone", "restores", "least", "orders", "firsts", "check_order", "entries_in"].all fun x => (Fa.meth "Log" x).ok K, fun K => ownB K "NoCell" ["name"], fun K => ownB K "NoEntry" ["number"], fun K => eqO (PySem.W.nsIn K mainGlobals "factorial") (some (some (.builtin "math.factorial")))]
abbrev R : PySem.W.OpenRow := PySem.W.OpenLaw.row PySem.Challenge.rw_tryback_k73_whole_orders_of_logs
abbrev hk : PySem.W.Hook := hookB 5 fa fn
def ob (s : PySem.W.SharedT) : He.AlD := obsBG 5 fa fn (HandSHeadRun.getT s)
theorem ob_eq (s : PySem.W.SharedT) : ob s = hk.obs s.abs := obsBG_eq (HandSHeadRun.getT_eq s)
def loose : List Str := [("Log" : Str), ("NoCell" : Str), ("NoEntry" : Str), ("TryError" : Str), ("__name__" : Str), ("_law_draw" : Str), ("_law_orders" : Str), ("_law_start" : Str), ("_wall" : Str)]
theorem run (w : World) : HandSHeadRun.RunEqI R (PySem.W.view R.prog [0, 12]) hk ob 60000 loose w := by
  unfold HandSHeadRun.RunEqI
  kernel_rfl

theorem facts {P : Program} {w : World} {K : PySem.W.Frag} {h : Heap} {mg : Str → Option Value} {f : Addr} (X : K.In h) (G : h.Ns mainGlobals mg) (hfa : mg ("law" : Str) = some (.ref f)) (c : SaysB fa fn K) :
    ∃ fd : FuncData, (∀ (s : Shared) (v : Value), BindsTo s fd ⟨[v], []⟩ [("_law_script", v)]) ∧ ∀ base : Heap, K.In base → base.Ns mainGlobals mg → FnOk P w K mg base CX0 11 f fd ["_law_script"] (spLaw K) := by
  have T0 : Txt K w mg := {
    gl := fun x hx => glos_ok X G (c.fact 0 rfl) x hx
    fr := fun x hx => frees_ok X G (c.fact 1 rfl) x hx }
  have T1 : Tx K w mg := { T0 with
    cl := cls_ok (c.fact 2 rfl)
    no := fun x hx => noat_ok (List.all_eq_true.mp (c.fact 3 rfl) x hx)
    mkL := mkr_ok (c.fact 4 rfl)
    mm := fun x hx => meth_ok (List.all_eq_true.mp (c.fact 5 rfl) x hx)
    nc := own_ok (c.fact 6 rfl)
    ne := own_ok (c.fact 7 rfl)
    fc := PySem.W.mg_of X G (eqO_ok (c.fact 8 rfl)) }
  obtain ⟨d0, F0⟩ := c.def_ 0 rfl
  obtain ⟨d1, F1⟩ := c.def_ 1 rfl
  obtain ⟨d2, F2⟩ := c.def_ 2 rfl
  obtain ⟨d3, F3⟩ := c.def_ 3 rfl
  obtain ⟨d4, F4⟩ := c.def_ 4 rfl
  obtain ⟨d5, F5⟩ := c.def_ 5 rfl
  obtain ⟨d6, F6⟩ := c.def_ 6 rfl
  obtain ⟨d7, F7⟩ := c.def_ 7 rfl
  obtain ⟨d8, F8⟩ := c.def_ 8 rfl
  obtain ⟨d9, F9⟩ := c.def_ 9 rfl
  obtain ⟨d10, F10⟩ := c.def_ 10 rfl
  obtain ⟨d11, F11⟩ := c.def_ 11 rfl
  obtain ⟨d12, F12⟩ := c.def_ 12 rfl
  obtain ⟨d13, F13⟩ := c.def_ 13 rfl
  have e := hfa.symm.trans (T0.gl "law" (by decide +kernel))
  cases e
  have b := FunD.bindsA (ps := ["_law_script"]) F13 fun _ _ _ _ _ _ us hl => match us, hl with | [_], _ => rfl
  refine ⟨d13, fun s v => b s [v] rfl, fun base _ _ => ?_⟩
  have c_nc : Cl P w K mg base CX0 1 (ma K (ga K "NoCell") "__init__") ["self", "name"] (spI1 K (ga K "NoCell") "name") := ⟨d0, (ok_nocell_init F0).mono (by decide), FunD.bindsN (ps := ["self", "name"]) F0 fun _ _ _ _ _ _ us hl => match us, hl with | [_, _], _ => rfl, F0.kp⟩
  have c_ne : Cl P w K mg base CX0 1 (ma K (ga K "NoEntry") "__init__") ["self", "number"] (spI1 K (ga K "NoEntry") "number") := ⟨d1, (ok_noentry_init F1).mono (by decide), FunD.bindsN (ps := ["self", "number"]) F1 fun _ _ _ _ _ _ us hl => match us, hl with | [_, _], _ => rfl, F1.kp⟩
  have c_init : Cl P w K mg base CX0 1 (ma K (ga K "Log") "__init__") ["self", "cells"] (spLInit K) := ⟨d2, (ok_Log_init F2 T1).mono (by decide), FunD.bindsN (ps := ["self", "cells"]) F2 fun _ _ _ _ _ _ us hl => match us, hl with | [_, _], _ => rfl, F2.kp⟩
  have c_chg : Cl P w K mg base (L2.CX P w) 3 (ma K (ga K "Log") "change") ["self", "cell", "worth"] (spChange K) := ⟨d3, (ok_Log_change F3 T1 c_nc).mono (by decide), FunD.bindsN (ps := ["self", "cell", "worth"]) F3 fun _ _ _ _ _ _ us hl => match us, hl with | [_, _, _], _ => rfl, F3.kp⟩
  have c_chg6 : Cl P w K mg base (L2.CX P w) 6 (ma K (ga K "Log") "change") ["self", "cell", "worth"] (spChange K) := ⟨d3, (ok_Log_change F3 T1 c_nc).mono (by decide), FunD.bindsN (ps := ["self", "cell", "worth"]) F3 fun _ _ _ _ _ _ us hl => match us, hl with | [_, _, _], _ => rfl, F3.kp⟩
  have c_chk : Cl P w K mg base (L2.CX P w) 3 (ma K (ga K "Log") "check_order") ["self", "order"] (spChkO K) := ⟨d8, (ok_Log_check_order F8 T1 c_ne).mono (by decide), FunD.bindsN (ps := ["self", "order"]) F8 fun _ _ _ _ _ _ us hl => match us, hl with | [_, _], _ => rfl, F8.kp⟩
  have c_ein : Cl P w K mg base (L2.CX P w) 4 (ma K (ga K "Log") "entries_in") ["self", "order"] (spEIn K) := ⟨d9, (ok_Log_entries_in F9 T1 c_chk).mono (by decide), FunD.bindsN (ps := ["self", "order"]) F9 fun _ _ _ _ _ _ us hl => match us, hl with | [_, _], _ => rfl, F9.kp⟩
  have c_und : Cl P w K mg base (L2.CX P w) 6 (ma K (ga K "Log") "undone") ["self", "order"] (spUndone K) := ⟨d4, (ok_Log_undone F4 T1 c_ein).mono (by decide), FunD.bindsN (ps := ["self", "order"]) F4 fun _ _ _ _ _ _ us hl => match us, hl with | [_, _], _ => rfl, F4.kp⟩
  have c_fir : Cl P w K mg base CX0 1 (ma K (ga K "Log") "firsts") ["self"] (spFirsts K) := ⟨d7, (ok_Log_firsts F7 T1).mono (by decide), FunD.bindsN (ps := ["self"]) F7 fun _ _ _ _ _ _ us hl => match us, hl with | [_], _ => rfl, F7.kp⟩
  have c_res : Cl P w K mg base (L2.CX P w) 6 (ma K (ga K "Log") "restores") ["self", "order"] (spRestores K) := ⟨d5, (ok_Log_restores F5 T1 c_chk c_fir).mono (by decide), FunD.bindsN (ps := ["self", "order"]) F5 fun _ _ _ _ _ _ us hl => match us, hl with | [_, _], _ => rfl, F5.kp⟩
  have c_ods : Cl P w K mg base CX0 1 (ma K (ga K "Log") "orders") ["self"] (spOrders K) := ⟨d6, (ok_Log_orders F6 T1).mono (by decide), FunD.bindsN (ps := ["self"]) F6 fun _ _ _ _ _ _ us hl => match us, hl with | [_], _ => rfl, F6.kp⟩
  have c_start : Cl P w K mg base CX0 1 (ga K "_law_start") ["_law_script"] (spStart4 K) := ⟨d10, (ok_law_start F10 T0).mono (by decide), FunD.bindsN (ps := ["_law_script"]) F10 fun _ _ _ _ _ _ us hl => match us, hl with | [_], _ => rfl, F10.kp⟩
  have c_draw : Cl P w K mg base CX0 1 (ga K "_law_draw") ["_law_state", "_law_many"] spDraw4 := ⟨d11, (ok_law_draw F11 T0).mono (by decide), FunD.bindsN (ps := ["_law_state", "_law_many"]) F11 fun _ _ _ _ _ _ us hl => match us, hl with | [_, _], _ => rfl, F11.kp⟩
  have c_lo0 : Cl P w K mg base CX0 8 (ga K "_law_orders") ["_law_rest"] (spLO K 0) := ⟨d12, (ok_law_orders0 F12 T1).mono (by decide), FunD.bindsN (ps := ["_law_rest"]) F12 fun _ _ _ _ _ _ us hl => match us, hl with | [_], _ => rfl, F12.kp⟩
  have c_lok0 : Cl P w K mg base CX0 1 (ga K "_law_orders") ["_law_rest"] (spLO K 0) := ⟨d12, (ok_law_orders0 F12 T1).mono (by decide), FunD.bindsN (ps := ["_law_rest"]) F12 fun _ _ _ _ _ _ us hl => match us, hl with | [_], _ => rfl, F12.kp⟩
  have c_lo1 : Cl P w K mg base CX0 8 (ga K "_law_orders") ["_law_rest"] (spLO K 1) := ⟨d12, (ok_law_ordersS (n := 0) (k := 1) F12 T1 c_lok0).mono (by decide), FunD.bindsN (ps := ["_law_rest"]) F12 fun _ _ _ _ _ _ us hl => match us, hl with | [_], _ => rfl, F12.kp⟩
  have c_lok1 : Cl P w K mg base CX0 2 (ga K "_law_orders") ["_law_rest"] (spLO K 1) := ⟨d12, (ok_law_ordersS (n := 0) (k := 1) F12 T1 c_lok0).mono (by decide), FunD.bindsN (ps := ["_law_rest"]) F12 fun _ _ _ _ _ _ us hl => match us, hl with | [_], _ => rfl, F12.kp⟩
  have c_lo2 : Cl P w K mg base CX0 8 (ga K "_law_orders") ["_law_rest"] (spLO K 2) := ⟨d12, (ok_law_ordersS (n := 1) (k := 2) F12 T1 c_lok1).mono (by decide), FunD.bindsN (ps := ["_law_rest"]) F12 fun _ _ _ _ _ _ us hl => match us, hl with | [_], _ => rfl, F12.kp⟩
  have c_lok2 : Cl P w K mg base CX0 3 (ga K "_law_orders") ["_law_rest"] (spLO K 2) := ⟨d12, (ok_law_ordersS (n := 1) (k := 2) F12 T1 c_lok1).mono (by decide), FunD.bindsN (ps := ["_law_rest"]) F12 fun _ _ _ _ _ _ us hl => match us, hl with | [_], _ => rfl, F12.kp⟩
  have c_lo3 : Cl P w K mg base CX0 8 (ga K "_law_orders") ["_law_rest"] (spLO K 3) := ⟨d12, (ok_law_ordersS (n := 2) (k := 3) F12 T1 c_lok2).mono (by decide), FunD.bindsN (ps := ["_law_rest"]) F12 fun _ _ _ _ _ _ us hl => match us, hl with | [_], _ => rfl, F12.kp⟩
  have c_lok3 : Cl P w K mg base CX0 4 (ga K "_law_orders") ["_law_rest"] (spLO K 3) := ⟨d12, (ok_law_ordersS (n := 2) (k := 3) F12 T1 c_lok2).mono (by decide), FunD.bindsN (ps := ["_law_rest"]) F12 fun _ _ _ _ _ _ us hl => match us, hl with | [_], _ => rfl, F12.kp⟩
  have c_lo4 : Cl P w K mg base CX0 8 (ga K "_law_orders") ["_law_rest"] (spLO K 4) := ⟨d12, (ok_law_ordersS (n := 3) (k := 4) F12 T1 c_lok3).mono (by decide), FunD.bindsN (ps := ["_law_rest"]) F12 fun _ _ _ _ _ _ us hl => match us, hl with | [_], _ => rfl, F12.kp⟩
  have c_lok4 : Cl P w K mg base CX0 5 (ga K "_law_orders") ["_law_rest"] (spLO K 4) := ⟨d12, (ok_law_ordersS (n := 3) (k := 4) F12 T1 c_lok3).mono (by decide), FunD.bindsN (ps := ["_law_rest"]) F12 fun _ _ _ _ _ _ us hl => match us, hl with | [_], _ => rfl, F12.kp⟩
  have c_lo5 : Cl P w K mg base CX0 8 (ga K "_law_orders") ["_law_rest"] (spLO K 5) := ⟨d12, (ok_law_ordersS (n := 4) (k := 5) F12 T1 c_lok4).mono (by decide), FunD.bindsN (ps := ["_law_rest"]) F12 fun _ _ _ _ _ _ us hl => match us, hl with | [_], _ => rfl, F12.kp⟩
  have c_lok5 : Cl P w K mg base CX0 6 (ga K "_law_orders") ["_law_rest"] (spLO K 5) := ⟨d12, (ok_law_ordersS (n := 4) (k := 5) F12 T1 c_lok4).mono (by decide), FunD.bindsN (ps := ["_law_rest"]) F12 fun _ _ _ _ _ _ us hl => match us, hl with | [_], _ => rfl, F12.kp⟩
  have c_lo6 : Cl P w K mg base CX0 8 (ga K "_law_orders") ["_law_rest"] (spLO K 6) := ⟨d12, (ok_law_ordersS (n := 5) (k := 6) F12 T1 c_lok5).mono (by decide), FunD.bindsN (ps := ["_law_rest"]) F12 fun _ _ _ _ _ _ us hl => match us, hl with | [_], _ => rfl, F12.kp⟩
  have c_loa : Cl P w K mg base CX0 8 (ga K "_law_orders") ["_law_rest"] (spLOa K) := ⟨d12, lo_all fun n hn => ?_, FunD.bindsN (ps := ["_law_rest"]) F12 fun _ _ _ _ _ _ us hl => match us, hl with | [_], _ => rfl, F12.kp⟩
  · exact ok_law F13 T1 c_start c_draw c_init c_chg6 c_und c_res c_ods c_loa
  · match n, hn with
    | 0, _ => exact (ok_law_orders0 F12 T1).mono (by decide)
    | 1, _ => exact (ok_law_ordersS (n := 0) (k := 1) F12 T1 c_lok0).mono (by decide)
    | 2, _ => exact (ok_law_ordersS (n := 1) (k := 2) F12 T1 c_lok1).mono (by decide)
    | 3, _ => exact (ok_law_ordersS (n := 2) (k := 3) F12 T1 c_lok2).mono (by decide)
    | 4, _ => exact (ok_law_ordersS (n := 3) (k := 4) F12 T1 c_lok3).mono (by decide)
    | 5, _ => exact (ok_law_ordersS (n := 4) (k := 5) F12 T1 c_lok4).mono (by decide)
    | 6, _ => exact (ok_law_ordersS (n := 5) (k := 6) F12 T1 c_lok5).mono (by decide)
end K73

open PySem PySem.W PySem.Calls PyProof.Rows
theorem PySem.Challenge.cw_tryback_k73_whole_orders_of_logs_holds : PySem.Challenge.rw_tryback_k73_whole_orders_of_logs.Holds := by
  w_on; o_law
  refine HandSHeadRun.head_imp (r := OpenLaw.row PySem.Challenge.rw_tryback_k73_whole_orders_of_logs) (q := view (OpenLaw.row PySem.Challenge.rw_tryback_k73_whole_orders_of_logs).prog [0, 12]) (H := K73.hk) (ob := K73.ob) (M := K73.steps) (loose := K73.loose) (d := HandSHeadRun.topDef (OpenLaw.row PySem.Challenge.rw_tryback_k73_whole_orders_of_logs).prog 12) (kwd := []) K73.ob_eq
    K73.run (by kernel_rfl) (by kernel_rfl) (by kernel_rfl) (by rfl) (by first | assumption | decide +kernel) (by decide +kernel) ⟨rfl, rfl, rfl, rfl, rfl, by decide +kernel⟩ ?hw ?hc
  case hw => w_witness2
  case hc =>
    refine L2.walk_ofE (l := PySem.Challenge.rw_tryback_k73_whole_orders_of_logs) (n := 63) (k := 11) (x := "_law_script") (CX := L2.CX0) rfl (by decide) (by kernel_rfl) ⟨rfl, by decide, by decide⟩ ?F (fun _ _ _ _ z => z)
    intro w mg fa h Y G hmg0
    obtain ⟨K, KX, c⟩ := Y
    have hmg : mg ("law" : PySem.Str) = some (.ref fa) := by
      have e : (HandSHeadRun.topDef (OpenLaw.row PySem.Challenge.rw_tryback_k73_whole_orders_of_logs).prog 12).name = ("law" : PySem.Str) := by kernel_rfl
      rw [← e]
      exact hmg0
    obtain ⟨fd, hb, hF⟩ := K73.facts (P := (PySem.Challenge.rw_tryback_k73_whole_orders_of_logs).prog) (w := w) KX G hmg c
    exact ⟨K, fd, K73.spLaw K, KX, hb, fun H a ns hl _ hS => ⟨a, ns, rfl, hS, hl, fun _ => rfl⟩, hF⟩

